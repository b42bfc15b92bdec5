/-
  Areas, and gaps where there is none: walks over the program.
-/
import Derived.Test.YtdgkmaamjdglmaaDoorQd
namespace Go.Proofs.YtdgkmaamjdglmaaDoor
open Go.RowKit Tf Cu
attribute [local go_sem] run_bits run_from raw_feq raw_fne raw_flt raw_fgt run_neg run_store_float
set_option maxHeartbeats 2000000 in
theorem bes_no (n c s : Int) (w : World) (h : ¬ (inR c (clN n) = true ∧ inR s 4 = true)) :
    Calls Tryd.prog 9 #[.int .i64 n, .int .i64 c, .int .i64 s] w fun e w' => e = .returned (.tuple #[.int .i64 (-1), .int .i64 0]) ∧ Below w.heap.size w w' := by
  obtain ⟨a, ha⟩ : ∃ a, inR c (clN n) = a := ⟨_, rfl⟩
  obtain ⟨b, hb⟩ : ∃ b, inR s 4 = b := ⟨_, rfl⟩
  rw [ha, hb] at h
  have P : Hid (∀ u, Calls Tryd.prog 23 #[.int .i64 n, .int .i64 c] u fun e w' => e = .returned (.tuple #[.int .i64 (pF n c), .int .i64 (pI n c), .int .i64 (pJ n c), .bool a]) ∧ ∃ k, w' = u.drewN k) := fun u => by rw [← ha]; exact place_at n c u
  have K : Hid (∀ u, Calls Tryd.prog 24 #[.int .i64 s, .int .i64 4] u fun e w' => e = .returned (.bool b) ∧ w' = u) := fun u => by rw [← hb]; exact counts_at s 4 u
  generalize pF n c = x1 at P
  generalize pI n c = x2 at P
  generalize pJ n c = x3 at P
  clear ha hb
  cases a with
  | false =>
    clear h
    go_enter Tryd.func9, Tryd.ntmps9
    go_wp2_with (first
      | (go_at_call 23; refine (P.out _).mono ?_; rintro e w' ⟨rfl, k, rfl⟩)
      | (go_at_call 24; refine (K.out _).mono ?_; rintro e w' ⟨rfl, rfl⟩))
    go_ret2
    exact ⟨rfl, (Ab.refl w).drewN k⟩
  | true =>
    cases b with
    | true => exact absurd ⟨rfl, rfl⟩ h
    | false =>
      clear h
      go_enter Tryd.func9, Tryd.ntmps9
      go_wp2_with (first
        | (go_at_call 23; refine (P.out _).mono ?_; rintro e w' ⟨rfl, k, rfl⟩)
        | (go_at_call 24; refine (K.out _).mono ?_; rintro e w' ⟨rfl, rfl⟩))
      go_ret2
      exact ⟨rfl, (Ab.refl w).drewN k⟩
set_option maxHeartbeats 4000000 in
theorem gap_no (n c s : Int) (w : World) (h : ¬ (inR c (clN n) = true ∧ inR s 4 = true)) :
    Calls Tryd.prog 14 #[.int .i64 n, .int .i64 c, .int .i64 s] w fun e w' => e = .returned (.float .f64 0) ∧ Below w.heap.size w w' := by
  have BE := hid (fun u => bes_no n c s u h)
  have M2 : Hid (∀ u, Calls Tryd.prog 13 #[.int .i64 n, .int .i64 (-1)] u fun e w' => e = .returned (.tuple #[.agg #[.float .f64 0, .float .f64 0, .float .f64 0], .bool false]) ∧ Below u.heap.size u w') := fun u => middle_no n (-1) u (by rw [inR_no]; omega)
  have M1 : ∃ (x y z : Nat) (b : Bool), Hid (∀ u, Calls Tryd.prog 13 #[.int .i64 n, .int .i64 c] u fun e w' => e = .returned (.tuple #[.agg #[.float .f64 x, .float .f64 y, .float .f64 z], .bool b]) ∧ Below u.heap.size u w') := by
    cases hc : inR c (clN n) with
    | false => exact ⟨0, 0, 0, false, fun u => middle_no n c u hc⟩
    | true =>
      obtain ⟨m, d, rfl, rfl, hm, hd⟩ := nat_cell hc
      exact ⟨_, _, _, true, fun u => middle_ok m d u hm hd⟩
  obtain ⟨x, y, z, b, M1⟩ := M1
  clear h
  go_enter Tryd.func14, Tryd.ntmps14
  go_wp2_with fail
  refine (BE.out _).mono ?_
  rintro e v ⟨rfl, b1⟩
  go_wp2_with fail
  refine (M1.out _).mono ?_
  rintro e v2 ⟨rfl, b2⟩
  go_wp2_with fail
  refine (M2.out _).mono ?_
  rintro e v3 ⟨rfl, b3⟩
  have B2 : Hid (Ab w v2) := (Ab.call b1 b2)
  have B3 : Hid (Ab w v3) := Ab.call (B2.out.alloc _) b3
  clear b1 b2 b3
  go_wp2
  go_ret
  exact ⟨rfl, B3.out.alloc _⟩
/-- an area, of its length -/
def arQ (L : Nat) : Nat := mlB (mlB (qB L) (qB 4602678819172646912)) (qB 4742290407621132288)
def arI (L : Nat) : Int := max (cI .even (arQ L)) 1
theorem cI_q (x : Nat) : cI .even x = cI .even (qB x) ∧ cOk .even x = cOk .even (qB x) := by
  unfold qB
  cases h : isN x
  · rw [if_neg (by decide)]; exact ⟨rfl, rfl⟩
  · rw [if_pos rfl]
    have e : cOk .even x = false := by
      unfold cOk fin
      have : ¬ mg x < 9218868437227405312 := by rw [isN_true] at h; omega
      simp [this]
    have e2 : cOk .even quiet = false := by decide +kernel
    unfold cI
    rw [e, e2]; simp only [Bool.false_eq_true, if_false, and_self]
set_option maxRecDepth 10000 in
set_option maxHeartbeats 16000000 in
theorem area_walk (n c : Nat) (a0 b0 d0 a1 b1 d1 a2 b2 d2 a3 b3 d3 : Nat) (w : World) (ha0 : Hid (a0 < 18446744073709551616)) (hb0 : Hid (b0 < 18446744073709551616)) (hd0 : Hid (d0 < 18446744073709551616)) (ha1 : Hid (a1 < 18446744073709551616)) (hb1 : Hid (b1 < 18446744073709551616)) (hd1 : Hid (d1 < 18446744073709551616)) (ha2 : Hid (a2 < 18446744073709551616)) (hb2 : Hid (b2 < 18446744073709551616)) (hd2 : Hid (d2 < 18446744073709551616)) (ha3 : Hid (a3 < 18446744073709551616)) (hb3 : Hid (b3 < 18446744073709551616)) (hd3 : Hid (d3 < 18446744073709551616))
    (CO : Hid (∀ u, Calls Tryd.prog 33 #[.int .i64 n, .int .i64 c] u fun e w' => e = .returned (.tuple #[.agg #[.float .f64 a0, .float .f64 b0, .float .f64 d0, .float .f64 a1, .float .f64 b1, .float .f64 d1, .float .f64 a2, .float .f64 b2, .float .f64 d2, .float .f64 a3, .float .f64 b3, .float .f64 d3], .bool true]) ∧ Below u.heap.size u w')) :
    Calls Tryd.prog 18 #[.int .i64 n, .int .i64 c] w fun e w' => e = .returned (.int .i64 (arI (cl (sbB a2 a0) (sbB b2 b0) (sbB d2 d0) (sbB a3 a1) (sbB b3 b1) (sbB d3 d1)))) ∧ Below w.heap.size w w' := by
  have MI := hid (fun x y z u v t w (hx : Hid (x < 18446744073709551616)) (hy : Hid (y < 18446744073709551616)) (hz : Hid (z < 18446744073709551616)) (hu : Hid (u < 18446744073709551616)) (hv : Hid (v < 18446744073709551616)) (ht : Hid (t < 18446744073709551616)) => minus_at x y z u v t w hx hy hz hu hv ht)
  have CR := hid (fun w => cross_at (sbB a2 a0) (sbB b2 b0) (sbB d2 d0) (sbB a3 a1) (sbB b3 b1) (sbB d3 d1) w (sbB_lt ha2 ha0) (sbB_lt hb2 hb0) (sbB_lt hd2 hd0) (sbB_lt ha3 ha1) (sbB_lt hb3 hb1) (sbB_lt hd3 hd1))
  have LN : Hid (∀ w, Calls Tryd.prog 37 #[.agg #[.float .f64 (sbB (mlB (sbB b2 b0) (sbB d3 d1)) (mlB (sbB d2 d0) (sbB b3 b1))), .float .f64 (sbB (mlB (sbB d2 d0) (sbB a3 a1)) (mlB (sbB a2 a0) (sbB d3 d1))), .float .f64 (sbB (mlB (sbB a2 a0) (sbB b3 b1)) (mlB (sbB b2 b0) (sbB a3 a1)))]] w fun e w' => e = .returned (.float .f64 (cl (sbB a2 a0) (sbB b2 b0) (sbB d2 d0) (sbB a3 a1) (sbB b3 b1) (sbB d3 d1))) ∧ Below w.heap.size w w') := fun w => length_at (sbB (mlB (sbB b2 b0) (sbB d3 d1)) (mlB (sbB d2 d0) (sbB b3 b1))) (sbB (mlB (sbB d2 d0) (sbB a3 a1)) (mlB (sbB a2 a0) (sbB d3 d1))) (sbB (mlB (sbB a2 a0) (sbB b3 b1)) (mlB (sbB b2 b0) (sbB a3 a1))) w (sbB_lt (mlB_lt (sbB_lt hb2 hb0) (sbB_lt hd3 hd1)) (mlB_lt (sbB_lt hd2 hd0) (sbB_lt hb3 hb1))) (sbB_lt (mlB_lt (sbB_lt hd2 hd0) (sbB_lt ha3 ha1)) (mlB_lt (sbB_lt ha2 ha0) (sbB_lt hd3 hd1))) (sbB_lt (mlB_lt (sbB_lt ha2 ha0) (sbB_lt hb3 hb1)) (mlB_lt (sbB_lt hb2 hb0) (sbB_lt ha3 ha1)))
  have lL : cl (sbB a2 a0) (sbB b2 b0) (sbB d2 d0) (sbB a3 a1) (sbB b3 b1) (sbB d3 d1) < 18446744073709551616 := by unfold cl lnB; exact rtB_lt _
  generalize cl (sbB a2 a0) (sbB b2 b0) (sbB d2 d0) (sbB a3 a1) (sbB b3 b1) (sbB d3 d1) = L at *
  generalize sbB (mlB (sbB b2 b0) (sbB d3 d1)) (mlB (sbB d2 d0) (sbB b3 b1)) = c1 at *
  generalize sbB (mlB (sbB d2 d0) (sbB a3 a1)) (mlB (sbB a2 a0) (sbB d3 d1)) = c2 at *
  generalize sbB (mlB (sbB a2 a0) (sbB b3 b1)) (mlB (sbB b2 b0) (sbB a3 a1)) = c3 at *
  have hmx : arI L = max (cI .even (arQ L)) 1 := by unfold arI; with_reducible rfl
  obtain ⟨A, hA⟩ : ∃ A, cI .even (arQ L) = A := ⟨_, rfl⟩
  obtain ⟨ok, hok⟩ : ∃ ok, cOk .even (arQ L) = ok := ⟨_, rfl⟩
  rw [hmx, hA]
  have HA := hid hA
  have HO := hid hok
  clear hmx hA hok
  go_enter Tryd.func18, Tryd.ntmps18
  go_wp2_with fail
  refine (CO.out _).mono ?_
  rintro e v ⟨rfl, bq⟩
  go_upto_region 4 with fail
  generalize hW : World.alloc _ _ = W
  have AW : Hid (Ab w W) := by rw [← hW]; exact Ab.alloc bq _
  have RW : Hid (W.heap[v.heap.size]? = some (.cells #[.float .f64 a0, .float .f64 b0, .float .f64 d0, .float .f64 a1, .float .f64 b1, .float .f64 d1, .float .f64 a2, .float .f64 b2, .float .f64 d2, .float .f64 a3, .float .f64 b3, .float .f64 d3] 67)) := by rw [← hW]; exact heap_alloc_new _ _
  clear hW bq CO
  obtain ⟨UU, F, hF1, hF2⟩ := cls W
  have HF := hid hF2
  have HF1 := hid hF1
  have x0 : ∀ vv, (F vv).cell? ⟨v.heap.size, 0, none⟩ = some (.float .f64 a0) := fun vv => cell_of_row _ _ 0 _ _ _ ((hF1 vv).heap RW.out)
  have x1 : ∀ vv, (F vv).cell? ⟨v.heap.size, 1, none⟩ = some (.float .f64 b0) := fun vv => cell_of_row _ _ 1 _ _ _ ((hF1 vv).heap RW.out)
  have x2 : ∀ vv, (F vv).cell? ⟨v.heap.size, 2, none⟩ = some (.float .f64 d0) := fun vv => cell_of_row _ _ 2 _ _ _ ((hF1 vv).heap RW.out)
  have x3 : ∀ vv, (F vv).cell? ⟨v.heap.size, 3, none⟩ = some (.float .f64 a1) := fun vv => cell_of_row _ _ 3 _ _ _ ((hF1 vv).heap RW.out)
  have x4 : ∀ vv, (F vv).cell? ⟨v.heap.size, 4, none⟩ = some (.float .f64 b1) := fun vv => cell_of_row _ _ 4 _ _ _ ((hF1 vv).heap RW.out)
  have x5 : ∀ vv, (F vv).cell? ⟨v.heap.size, 5, none⟩ = some (.float .f64 d1) := fun vv => cell_of_row _ _ 5 _ _ _ ((hF1 vv).heap RW.out)
  have x6 : ∀ vv, (F vv).cell? ⟨v.heap.size, 6, none⟩ = some (.float .f64 a2) := fun vv => cell_of_row _ _ 6 _ _ _ ((hF1 vv).heap RW.out)
  have x7 : ∀ vv, (F vv).cell? ⟨v.heap.size, 7, none⟩ = some (.float .f64 b2) := fun vv => cell_of_row _ _ 7 _ _ _ ((hF1 vv).heap RW.out)
  have x8 : ∀ vv, (F vv).cell? ⟨v.heap.size, 8, none⟩ = some (.float .f64 d2) := fun vv => cell_of_row _ _ 8 _ _ _ ((hF1 vv).heap RW.out)
  have x9 : ∀ vv, (F vv).cell? ⟨v.heap.size, 9, none⟩ = some (.float .f64 a3) := fun vv => cell_of_row _ _ 9 _ _ _ ((hF1 vv).heap RW.out)
  have x10 : ∀ vv, (F vv).cell? ⟨v.heap.size, 10, none⟩ = some (.float .f64 b3) := fun vv => cell_of_row _ _ 10 _ _ _ ((hF1 vv).heap RW.out)
  have x11 : ∀ vv, (F vv).cell? ⟨v.heap.size, 11, none⟩ = some (.float .f64 d3) := fun vv => cell_of_row _ _ 11 _ _ _ ((hF1 vv).heap RW.out)
  have D := HF.out _ (Ab.refl W).drew
  clear hF1 hF2
  refine region_cls F (by kernel_rfl) (by kernel_rfl) D ?_
  repeat (go_big_quiet_step (first
    | (with_reducible rfl)
    | (go_at_call 38; exact calls_cls HF HF1 (MI.out _ _ _ _ _ _ _ (by assumption) (by assumption) (by assumption) (by assumption) (by assumption) (by assumption)))
    | (go_at_call 41; exact calls_cls HF HF1 (CR.out _))
    | (go_at_call 37; exact calls_cls HF HF1 (LN.out _))))
  refine wpQuiet_nil ?_
  intro wz hwz
  obtain ⟨vv, hv⟩ := hwz
  have bz : Below W.heap.size W wz := by rw [hv]; exact HF1.out vv
  clear hv vv
  clear HF HF1 D x0 x1 x2 x3 x4 x5 x6 x7 x8 x9 x10 x11
  clear F UU
  have AZ : Hid (Ab w wz) := AW.out.call bz
  clear bz AW RW
  obtain ⟨r1, n1, k1, q1⟩ := mul_any (P := Tryd.prog) wz L _ 4602678819172646912 _ (IsQ.self lL) (IsQ.self (by decide))
  obtain ⟨r2, n2, k2, q2⟩ := mul_any (P := Tryd.prog) (wz.drewN n1) r1 _ 4742290407621132288 _ q1 (IsQ.self (by decide))
  have RO : Hid (∀ u, Calls Tryd.prog 42 #[.float .f64 r2] u fun e w' => e = .returned (.tuple #[.int .i64 A, .bool ok]) ∧ ∃ n, w' = u.drewN n) := fun u =>
    round_at r2 A ok u q2.1 (by rw [(cI_q r2).1, q2.2]; exact HA.out) (by rw [(cI_q r2).2, q2.2]; exact HO.out)
  rw [World.drewN_drewN] at k2
  clear q1 q2 HA HO
  go_wp2_with fail
  refine (RO.out _).mono ?_
  rintro e w5 ⟨rfl, n3, rfl⟩
  go_wp2
  all_goals go_ret
  all_goals exact ⟨congrArg (fun z => Ending.returned (.int .i64 z)) (by omega), Ab.drewN AZ.out _⟩
theorem area_ok (n c : Nat) (w : World) (hn : 1 ≤ n ∧ n ≤ 32) (hc : c < 6 * n * n) :
    Calls Tryd.prog 18 #[.int .i64 n, .int .i64 c] w fun e w' => e = .returned (.int .i64 (arI (ArC n c))) ∧ Below w.heap.size w w' := by
  have h := area_walk n c _ _ _ _ _ _ _ _ _ _ _ _ w (px_lt n _) (py_lt n _) (pz_lt n _) (px_lt n _) (py_lt n _) (pz_lt n _) (px_lt n _) (py_lt n _) (pz_lt n _) (px_lt n _) (py_lt n _) (pz_lt n _) (fun u => corners_ok n c u hn hc)
  unfold ArC ar
  exact h
set_option maxHeartbeats 4000000 in
theorem area_no (n c : Int) (w : World) (h : inR c (clN n) = false) :
    Calls Tryd.prog 18 #[.int .i64 n, .int .i64 c] w fun e w' => e = .returned (.int .i64 0) ∧ Below w.heap.size w w' := by
  have CO := hid (fun u => corners_no n c u h)
  clear h
  go_enter Tryd.func18, Tryd.ntmps18
  go_wp2_with fail
  refine (CO.out _).mono ?_
  rintro e v ⟨rfl, b1⟩
  go_wp2
  go_ret
  exact ⟨rfl, ((Ab.refl w).call b1).alloc _⟩
end Go.Proofs.YtdgkmaamjdglmaaDoor
