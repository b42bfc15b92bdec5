/-
  Some of the texts of this proof, one behind the other.
-/
import Derived.Test.YtomenbbhdnfciaaGreatDoorA15
namespace Go.Proofs.YtomenbbhdnfciaaGreatDoor
open Go.RowKit Tf Cu
attribute [local go_sem] run_bits run_from raw_feq raw_fne raw_flt raw_fgt run_neg run_store_float
set_option maxRecDepth 10000 in
set_option maxHeartbeats 16000000 in
theorem rarea_walk (n c f i j : Nat) (a0 b0 d0 a1 b1 d1 a2 b2 d2 a3 b3 d3 : Nat) (w : World) (hi : (i : Int) ≤ 32) (hj : (j : Int) ≤ 32) (ha0 : Hid (a0 < 18446744073709551616)) (hb0 : Hid (b0 < 18446744073709551616)) (hd0 : Hid (d0 < 18446744073709551616)) (ha1 : Hid (a1 < 18446744073709551616)) (hb1 : Hid (b1 < 18446744073709551616)) (hd1 : Hid (d1 < 18446744073709551616)) (ha2 : Hid (a2 < 18446744073709551616)) (hb2 : Hid (b2 < 18446744073709551616)) (hd2 : Hid (d2 < 18446744073709551616)) (ha3 : Hid (a3 < 18446744073709551616)) (hb3 : Hid (b3 < 18446744073709551616)) (hd3 : Hid (d3 < 18446744073709551616))
    (PL : Hid (∀ u, Calls Tryz.prog 100 #[.int .i64 n, .int .i64 c] u fun e w' => e = .returned (.tuple #[.int .i64 f, .int .i64 i, .int .i64 j, .bool true]) ∧ ∃ k, w' = u.drewN k))
    (K0 : Hid (∀ u, Calls Tryz.prog 109 #[.int .i64 n, .int .i64 f, .int .i64 (i : Nat), .int .i64 (j : Nat)] u fun e w' => e = .returned (.tuple #[.agg #[.float .f64 a0, .float .f64 b0, .float .f64 d0], .bool true]) ∧ Below u.heap.size u w'))
    (K1 : Hid (∀ u, Calls Tryz.prog 109 #[.int .i64 n, .int .i64 f, .int .i64 ((i : Nat) + 1), .int .i64 (j : Nat)] u fun e w' => e = .returned (.tuple #[.agg #[.float .f64 a1, .float .f64 b1, .float .f64 d1], .bool true]) ∧ Below u.heap.size u w'))
    (K2 : Hid (∀ u, Calls Tryz.prog 109 #[.int .i64 n, .int .i64 f, .int .i64 ((i : Nat) + 1), .int .i64 ((j : Nat) + 1)] u fun e w' => e = .returned (.tuple #[.agg #[.float .f64 a2, .float .f64 b2, .float .f64 d2], .bool true]) ∧ Below u.heap.size u w'))
    (K3 : Hid (∀ u, Calls Tryz.prog 109 #[.int .i64 n, .int .i64 f, .int .i64 (i : Nat), .int .i64 ((j : Nat) + 1)] u fun e w' => e = .returned (.tuple #[.agg #[.float .f64 a3, .float .f64 b3, .float .f64 d3], .bool true]) ∧ Below u.heap.size u w')) :
    Calls Tryz.prog 103 #[.int .i64 n, .int .i64 c] w fun e w' => e = .returned (.int .i64 (arI (cl (sbB a2 a0) (sbB b2 b0) (sbB d2 d0) (sbB a3 a1) (sbB b3 b1) (sbB d3 d1)))) ∧ Below w.heap.size w w' := by
  have MI := hid (fun x y z u v t w (hx : Hid (x < 18446744073709551616)) (hy : Hid (y < 18446744073709551616)) (hz : Hid (z < 18446744073709551616)) (hu : Hid (u < 18446744073709551616)) (hv : Hid (v < 18446744073709551616)) (ht : Hid (t < 18446744073709551616)) => rminus_at x y z u v t w hx hy hz hu hv ht)
  have CR := hid (fun w => rcross_at (sbB a2 a0) (sbB b2 b0) (sbB d2 d0) (sbB a3 a1) (sbB b3 b1) (sbB d3 d1) w (sbB_lt ha2 ha0) (sbB_lt hb2 hb0) (sbB_lt hd2 hd0) (sbB_lt ha3 ha1) (sbB_lt hb3 hb1) (sbB_lt hd3 hd1))
  have LN : Hid (∀ w, Calls Tryz.prog 132 #[.agg #[.float .f64 (sbB (mlB (sbB b2 b0) (sbB d3 d1)) (mlB (sbB d2 d0) (sbB b3 b1))), .float .f64 (sbB (mlB (sbB d2 d0) (sbB a3 a1)) (mlB (sbB a2 a0) (sbB d3 d1))), .float .f64 (sbB (mlB (sbB a2 a0) (sbB b3 b1)) (mlB (sbB b2 b0) (sbB a3 a1)))]] w fun e w' => e = .returned (.float .f64 (cl (sbB a2 a0) (sbB b2 b0) (sbB d2 d0) (sbB a3 a1) (sbB b3 b1) (sbB d3 d1))) ∧ Below w.heap.size w w') := fun w => rlength_at (sbB (mlB (sbB b2 b0) (sbB d3 d1)) (mlB (sbB d2 d0) (sbB b3 b1))) (sbB (mlB (sbB d2 d0) (sbB a3 a1)) (mlB (sbB a2 a0) (sbB d3 d1))) (sbB (mlB (sbB a2 a0) (sbB b3 b1)) (mlB (sbB b2 b0) (sbB a3 a1))) w (sbB_lt (mlB_lt (sbB_lt hb2 hb0) (sbB_lt hd3 hd1)) (mlB_lt (sbB_lt hd2 hd0) (sbB_lt hb3 hb1))) (sbB_lt (mlB_lt (sbB_lt hd2 hd0) (sbB_lt ha3 ha1)) (mlB_lt (sbB_lt ha2 ha0) (sbB_lt hd3 hd1))) (sbB_lt (mlB_lt (sbB_lt ha2 ha0) (sbB_lt hb3 hb1)) (mlB_lt (sbB_lt hb2 hb0) (sbB_lt ha3 ha1)))
  have lL : cl (sbB a2 a0) (sbB b2 b0) (sbB d2 d0) (sbB a3 a1) (sbB b3 b1) (sbB d3 d1) < 18446744073709551616 := by unfold cl lnB; exact rtB_lt _
  generalize cl (sbB a2 a0) (sbB b2 b0) (sbB d2 d0) (sbB a3 a1) (sbB b3 b1) (sbB d3 d1) = L at *
  generalize sbB (mlB (sbB b2 b0) (sbB d3 d1)) (mlB (sbB d2 d0) (sbB b3 b1)) = c1 at *
  generalize sbB (mlB (sbB d2 d0) (sbB a3 a1)) (mlB (sbB a2 a0) (sbB d3 d1)) = c2 at *
  generalize sbB (mlB (sbB a2 a0) (sbB b3 b1)) (mlB (sbB b2 b0) (sbB a3 a1)) = c3 at *
  have hmx : arI L = max (cI .even (arQ L)) 1 := by unfold arI; with_reducible rfl
  obtain ⟨A, hA⟩ : ∃ A, cI .even (arQ L) = A := ⟨_, rfl⟩
  obtain ⟨ok, hok⟩ : ∃ ok, cOk .even (arQ L) = ok := ⟨_, rfl⟩
  rw [hmx, hA]
  have HA := hid hA
  have HO := hid hok
  clear hmx hA hok
  go_enter Tryz.func103, Tryz.ntmps103
  go_wp2_with fail
  refine Calls.mono (PL.out _) ?_
  rintro e vv ⟨rfl, k1, rfl⟩
  have AW1 : Hid (Ab w (w.drewN k1)) := Ab.drewN (Ab.refl w) _
  go_wp2_with fail
  refine Calls.mono (K0.out _) ?_
  rintro e v2 ⟨rfl, b2⟩
  have AV2 : Hid (Ab w v2) := Ab.call AW1.out b2
  have RA2 : Hid ((v2.alloc (.cells #[.float .f64 a0, .float .f64 b0, .float .f64 d0] 140)).heap[v2.heap.size]? = some (.cells #[.float .f64 a0, .float .f64 b0, .float .f64 d0] 140)) := heap_alloc_new _ _
  have AW2 : Hid (Ab w (v2.alloc (.cells #[.float .f64 a0, .float .f64 b0, .float .f64 d0] 140))) := AV2.out.call (bl1 v2 (.cells #[.float .f64 a0, .float .f64 b0, .float .f64 d0] 140))
  clear b2 AV2 AW1
  go_wp2_with fail
  refine Calls.mono (K1.out _) ?_
  rintro e v3 ⟨rfl, b3⟩
  have AV3 : Hid (Ab w v3) := Ab.call AW2.out b3
  have RA3 : Hid ((v3.alloc (.cells #[.float .f64 a1, .float .f64 b1, .float .f64 d1] 140)).heap[v2.heap.size]? = some (.cells #[.float .f64 a0, .float .f64 b0, .float .f64 d0] 140)) := Ab.heap (bl1 v3 (.cells #[.float .f64 a1, .float .f64 b1, .float .f64 d1] 140)) (Ab.heap b3 RA2.out)
  have RB3 : Hid ((v3.alloc (.cells #[.float .f64 a1, .float .f64 b1, .float .f64 d1] 140)).heap[v3.heap.size]? = some (.cells #[.float .f64 a1, .float .f64 b1, .float .f64 d1] 140)) := heap_alloc_new _ _
  have AW3 : Hid (Ab w (v3.alloc (.cells #[.float .f64 a1, .float .f64 b1, .float .f64 d1] 140))) := AV3.out.call (bl1 v3 (.cells #[.float .f64 a1, .float .f64 b1, .float .f64 d1] 140))
  clear b3 AV3 RA2 AW2
  go_wp2_with fail
  refine Calls.mono (K2.out _) ?_
  rintro e v4 ⟨rfl, b4⟩
  have AV4 : Hid (Ab w v4) := Ab.call AW3.out b4
  have RA4 : Hid ((v4.alloc (.cells #[.float .f64 a2, .float .f64 b2, .float .f64 d2] 140)).heap[v2.heap.size]? = some (.cells #[.float .f64 a0, .float .f64 b0, .float .f64 d0] 140)) := Ab.heap (bl1 v4 (.cells #[.float .f64 a2, .float .f64 b2, .float .f64 d2] 140)) (Ab.heap b4 RA3.out)
  have RB4 : Hid ((v4.alloc (.cells #[.float .f64 a2, .float .f64 b2, .float .f64 d2] 140)).heap[v3.heap.size]? = some (.cells #[.float .f64 a1, .float .f64 b1, .float .f64 d1] 140)) := Ab.heap (bl1 v4 (.cells #[.float .f64 a2, .float .f64 b2, .float .f64 d2] 140)) (Ab.heap b4 RB3.out)
  have RC4 : Hid ((v4.alloc (.cells #[.float .f64 a2, .float .f64 b2, .float .f64 d2] 140)).heap[v4.heap.size]? = some (.cells #[.float .f64 a2, .float .f64 b2, .float .f64 d2] 140)) := heap_alloc_new _ _
  have AW4 : Hid (Ab w (v4.alloc (.cells #[.float .f64 a2, .float .f64 b2, .float .f64 d2] 140))) := AV4.out.call (bl1 v4 (.cells #[.float .f64 a2, .float .f64 b2, .float .f64 d2] 140))
  clear b4 AV4 RA3 RB3 AW3
  go_wp2_with fail
  refine Calls.mono (K3.out _) ?_
  rintro e v5 ⟨rfl, b5⟩
  have AV5 : Hid (Ab w v5) := Ab.call AW4.out b5
  have RA5 : Hid ((v5.alloc (.cells #[.float .f64 a3, .float .f64 b3, .float .f64 d3] 140)).heap[v2.heap.size]? = some (.cells #[.float .f64 a0, .float .f64 b0, .float .f64 d0] 140)) := Ab.heap (bl1 v5 (.cells #[.float .f64 a3, .float .f64 b3, .float .f64 d3] 140)) (Ab.heap b5 RA4.out)
  have RB5 : Hid ((v5.alloc (.cells #[.float .f64 a3, .float .f64 b3, .float .f64 d3] 140)).heap[v3.heap.size]? = some (.cells #[.float .f64 a1, .float .f64 b1, .float .f64 d1] 140)) := Ab.heap (bl1 v5 (.cells #[.float .f64 a3, .float .f64 b3, .float .f64 d3] 140)) (Ab.heap b5 RB4.out)
  have RC5 : Hid ((v5.alloc (.cells #[.float .f64 a3, .float .f64 b3, .float .f64 d3] 140)).heap[v4.heap.size]? = some (.cells #[.float .f64 a2, .float .f64 b2, .float .f64 d2] 140)) := Ab.heap (bl1 v5 (.cells #[.float .f64 a3, .float .f64 b3, .float .f64 d3] 140)) (Ab.heap b5 RC4.out)
  have RD5 : Hid ((v5.alloc (.cells #[.float .f64 a3, .float .f64 b3, .float .f64 d3] 140)).heap[v5.heap.size]? = some (.cells #[.float .f64 a3, .float .f64 b3, .float .f64 d3] 140)) := heap_alloc_new _ _
  have AW5 : Hid (Ab w (v5.alloc (.cells #[.float .f64 a3, .float .f64 b3, .float .f64 d3] 140))) := AV5.out.call (bl1 v5 (.cells #[.float .f64 a3, .float .f64 b3, .float .f64 d3] 140))
  clear b5 AV5 RA4 RB4 RC4 AW4
  go_upto_region 8 with fail
  generalize hW : World.alloc _ _ = W
  have AW : Hid (Ab w W) := by rw [← hW]; exact AW5.out
  have GA : Hid (W.heap[v2.heap.size]? = some (.cells #[.float .f64 a0, .float .f64 b0, .float .f64 d0] 140)) := by rw [← hW]; exact RA5.out
  have GB : Hid (W.heap[v3.heap.size]? = some (.cells #[.float .f64 a1, .float .f64 b1, .float .f64 d1] 140)) := by rw [← hW]; exact RB5.out
  have GC : Hid (W.heap[v4.heap.size]? = some (.cells #[.float .f64 a2, .float .f64 b2, .float .f64 d2] 140)) := by rw [← hW]; exact RC5.out
  have GD : Hid (W.heap[v5.heap.size]? = some (.cells #[.float .f64 a3, .float .f64 b3, .float .f64 d3] 140)) := by rw [← hW]; exact RD5.out
  clear hW AW5 RA5 RB5 RC5 RD5 K0 K1 K2 K3 PL
  obtain ⟨UU, F, hF1, hF2⟩ := cls W
  have HF := hid hF2
  have HF1 := hid hF1
  have xA0 : ∀ vv, (F vv).cell? ⟨v2.heap.size, 0, none⟩ = some (.float .f64 a0) := fun vv => cell_of_row _ _ 0 _ _ _ ((hF1 vv).heap GA.out)
  have xA1 : ∀ vv, (F vv).cell? ⟨v2.heap.size, 1, none⟩ = some (.float .f64 b0) := fun vv => cell_of_row _ _ 1 _ _ _ ((hF1 vv).heap GA.out)
  have xA2 : ∀ vv, (F vv).cell? ⟨v2.heap.size, 2, none⟩ = some (.float .f64 d0) := fun vv => cell_of_row _ _ 2 _ _ _ ((hF1 vv).heap GA.out)
  have xB0 : ∀ vv, (F vv).cell? ⟨v3.heap.size, 0, none⟩ = some (.float .f64 a1) := fun vv => cell_of_row _ _ 0 _ _ _ ((hF1 vv).heap GB.out)
  have xB1 : ∀ vv, (F vv).cell? ⟨v3.heap.size, 1, none⟩ = some (.float .f64 b1) := fun vv => cell_of_row _ _ 1 _ _ _ ((hF1 vv).heap GB.out)
  have xB2 : ∀ vv, (F vv).cell? ⟨v3.heap.size, 2, none⟩ = some (.float .f64 d1) := fun vv => cell_of_row _ _ 2 _ _ _ ((hF1 vv).heap GB.out)
  have xC0 : ∀ vv, (F vv).cell? ⟨v4.heap.size, 0, none⟩ = some (.float .f64 a2) := fun vv => cell_of_row _ _ 0 _ _ _ ((hF1 vv).heap GC.out)
  have xC1 : ∀ vv, (F vv).cell? ⟨v4.heap.size, 1, none⟩ = some (.float .f64 b2) := fun vv => cell_of_row _ _ 1 _ _ _ ((hF1 vv).heap GC.out)
  have xC2 : ∀ vv, (F vv).cell? ⟨v4.heap.size, 2, none⟩ = some (.float .f64 d2) := fun vv => cell_of_row _ _ 2 _ _ _ ((hF1 vv).heap GC.out)
  have xD0 : ∀ vv, (F vv).cell? ⟨v5.heap.size, 0, none⟩ = some (.float .f64 a3) := fun vv => cell_of_row _ _ 0 _ _ _ ((hF1 vv).heap GD.out)
  have xD1 : ∀ vv, (F vv).cell? ⟨v5.heap.size, 1, none⟩ = some (.float .f64 b3) := fun vv => cell_of_row _ _ 1 _ _ _ ((hF1 vv).heap GD.out)
  have xD2 : ∀ vv, (F vv).cell? ⟨v5.heap.size, 2, none⟩ = some (.float .f64 d3) := fun vv => cell_of_row _ _ 2 _ _ _ ((hF1 vv).heap GD.out)
  have D := HF.out _ (Ab.refl W).drew
  clear hF1 hF2
  refine region_cls F (by kernel_rfl) (by kernel_rfl) D ?_
  repeat (go_big_quiet_step (first
    | (with_reducible rfl)
    | (go_at_call 134; exact calls_cls HF HF1 (MI.out _ _ _ _ _ _ _ (by assumption) (by assumption) (by assumption) (by assumption) (by assumption) (by assumption)))
    | (go_at_call 133; exact calls_cls HF HF1 (CR.out _))
    | (go_at_call 132; exact calls_cls HF HF1 (LN.out _))))
  refine wpQuiet_nil ?_
  intro wz hwz
  obtain ⟨vv, hv⟩ := hwz
  have bz : Below W.heap.size W wz := by rw [hv]; exact HF1.out vv
  clear hv vv
  clear HF HF1 D xA0 xA1 xA2 xB0 xB1 xB2 xC0 xC1 xC2 xD0 xD1 xD2
  clear F UU
  have AZ : Hid (Ab w wz) := AW.out.call bz
  clear bz AW GA GB GC GD
  obtain ⟨r1, n1, k1, q1⟩ := mul_any (P := Tryz.prog) wz L _ 4602678819172646912 _ (IsQ.self lL) (IsQ.self (by decide))
  obtain ⟨r2, n2, k2, q2⟩ := mul_any (P := Tryz.prog) (wz.drewN n1) r1 _ 4742290407621132288 _ q1 (IsQ.self (by decide))
  have RO : Hid (∀ u, Calls Tryz.prog 135 #[.float .f64 r2] u fun e w' => e = .returned (.tuple #[.int .i64 A, .bool ok]) ∧ w' = u) := fun u =>
    Ref2.refRound_at r2 A ok u q2.1 (by rw [(cI_q r2).1, q2.2]; exact HA.out) (by rw [(cI_q r2).2, q2.2]; exact HO.out)
  rw [World.drewN_drewN] at k2
  clear q1 q2 HA HO
  go_wp2_with fail
  refine (RO.out _).mono ?_
  rintro e w5 ⟨rfl, rfl⟩
  go_wp2
  all_goals go_ret
  all_goals exact ⟨congrArg (fun z => Ending.returned (.int .i64 z)) (by omega), Ab.drewN AZ.out _⟩
theorem rarea_ok (n c : Nat) (w : World) (hn : 1 ≤ n ∧ n ≤ 32) (hc : c < 6 * n * n) :
    Calls Tryz.prog 103 #[.int .i64 n, .int .i64 c] w fun e w' => e = .returned (.int .i64 (arI (ArC n c))) ∧ Below w.heap.size w w' := by
  obtain ⟨h1, h2, h3, -⟩ := dec_lt hn.1 hc
  have h := rarea_walk n c (cf n c) (ci n c) (cj n c) _ _ _ _ _ _ _ _ _ _ _ _ w (by omega) (by omega) (px_lt n _) (py_lt n _) (pz_lt n _) (px_lt n _) (py_lt n _) (pz_lt n _) (px_lt n _) (py_lt n _) (pz_lt n _) (px_lt n _) (py_lt n _) (pz_lt n _) (fun u => rplace_okN n c hn hc u)
    (fun u => rcorner_ok n (cf n c) (ci n c) (cj n c) u hn h1 (by omega) (by omega)) (fun u => rcorner_ok n (cf n c) (ci n c + 1) (cj n c) u hn h1 (by omega) (by omega))
    (fun u => rcorner_ok n (cf n c) (ci n c + 1) (cj n c + 1) u hn h1 (by omega) (by omega)) (fun u => rcorner_ok n (cf n c) (ci n c) (cj n c + 1) u hn h1 (by omega) (by omega))
  unfold ArC ar
  exact h
theorem rlen_parts (n c : Nat) (hn : 1 ≤ n ∧ n ≤ 32) (hc : c < 6 * n * n) : (cf n c < 6 ∧ ci n c < n ∧ cj n c < n) := ⟨(dec_lt hn.1 hc).1, (dec_lt hn.1 hc).2.1, (dec_lt hn.1 hc).2.2.1⟩
set_option maxHeartbeats 16000000 in
theorem rlen_0 (n c f i j : Nat) (a0 b0 d0 a1 b1 d1 a2 b2 d2 Q : Nat) (w : World) (hi : (i : Int) ≤ 32) (hj : (j : Int) ≤ 32)
    (PL : Hid (∀ u, Calls Tryz.prog 100 #[.int .i64 n, .int .i64 c] u fun e w' => e = .returned (.tuple #[.int .i64 f, .int .i64 i, .int .i64 j, .bool true]) ∧ ∃ k, w' = u.drewN k))
    (K0 : Hid (∀ u, Calls Tryz.prog 109 #[.int .i64 n, .int .i64 f, .int .i64 (i : Nat), .int .i64 (j : Nat)] u fun e w' => e = .returned (.tuple #[.agg #[.float .f64 a0, .float .f64 b0, .float .f64 d0], .bool true]) ∧ Below u.heap.size u w'))
    (K2 : Hid (∀ u, Calls Tryz.prog 109 #[.int .i64 n, .int .i64 f, .int .i64 ((i : Nat) + 1), .int .i64 ((j : Nat) + 1)] u fun e w' => e = .returned (.tuple #[.agg #[.float .f64 a2, .float .f64 b2, .float .f64 d2], .bool true]) ∧ Below u.heap.size u w'))
    (K1 : Hid (∀ u, Calls Tryz.prog 109 #[.int .i64 n, .int .i64 f, .int .i64 ((i : Nat) + 1), .int .i64 (j : Nat)] u fun e w' => e = .returned (.tuple #[.agg #[.float .f64 a1, .float .f64 b1, .float .f64 d1], .bool true]) ∧ Below u.heap.size u w'))
    (GA : Hid (∀ u, Calls Tryz.prog 110 #[.agg #[.float .f64 a1, .float .f64 b1, .float .f64 d1], .agg #[.float .f64 a2, .float .f64 b2, .float .f64 d2]] u fun e w' => e = .returned (.float .f64 Q) ∧ Below u.heap.size u w')) :
    Calls Tryz.prog 69 #[.int .i64 n, .int .i64 c, .int .i64 0] w fun e w' => e = .returned (.float .f64 Q) ∧ Below w.heap.size w w' := by
  go_enter Tryz.func69, Tryz.ntmps69
  go_wp2_with fail
  refine Calls.mono (PL.out _) ?_
  rintro e vv ⟨rfl, k1, rfl⟩
  have AW1 : Hid (Ab w (w.drewN k1)) := Ab.drewN (Ab.refl w) _
  go_wp2_with fail
  refine Calls.mono (K0.out _) ?_
  rintro e v2 ⟨rfl, b2⟩
  have AV2 : Hid (Ab w v2) := Ab.call AW1.out b2
  have RA2 : Hid ((v2.alloc (.cells #[.float .f64 a0, .float .f64 b0, .float .f64 d0] 140)).heap[v2.heap.size]? = some (.cells #[.float .f64 a0, .float .f64 b0, .float .f64 d0] 140)) := heap_alloc_new _ _
  have HSA : Hid (w.heap.size ≤ v2.heap.size) := Ab.size AV2.out
  have AW2 : Hid (Ab w (v2.alloc (.cells #[.float .f64 a0, .float .f64 b0, .float .f64 d0] 140))) := AV2.out.call (bl1 v2 (.cells #[.float .f64 a0, .float .f64 b0, .float .f64 d0] 140))
  clear b2 AV2 AW1
  go_wp2_with fail
  refine Calls.mono (K2.out _) ?_
  rintro e v3 ⟨rfl, b3⟩
  have AV3 : Hid (Ab w v3) := Ab.call AW2.out b3
  have RA3 : Hid ((v3.alloc (.cells #[.float .f64 a2, .float .f64 b2, .float .f64 d2] 140)).heap[v2.heap.size]? = some (.cells #[.float .f64 a0, .float .f64 b0, .float .f64 d0] 140)) := Ab.heap (bl1 v3 (.cells #[.float .f64 a2, .float .f64 b2, .float .f64 d2] 140)) (Ab.heap b3 RA2.out)
  have RB3 : Hid ((v3.alloc (.cells #[.float .f64 a2, .float .f64 b2, .float .f64 d2] 140)).heap[v3.heap.size]? = some (.cells #[.float .f64 a2, .float .f64 b2, .float .f64 d2] 140)) := heap_alloc_new _ _
  have HSB : Hid (w.heap.size ≤ v3.heap.size) := Ab.size AV3.out
  have AW3 : Hid (Ab w (v3.alloc (.cells #[.float .f64 a2, .float .f64 b2, .float .f64 d2] 140))) := AV3.out.call (bl1 v3 (.cells #[.float .f64 a2, .float .f64 b2, .float .f64 d2] 140))
  have HLT : Hid (v2.heap.size < v3.heap.size) := lt_of_block (Ab.heap b3 RA2.out)
  clear b3 AV3 RA2 AW2
  go_wp2_with fail
  refine Calls.mono (K1.out _) ?_
  rintro e v4 ⟨rfl, b4⟩
  have AV4 : Hid (Ab w v4) := Ab.call AW3.out b4
  have RA4 : Hid (v4.heap[v2.heap.size]? = some (.cells #[.float .f64 a0, .float .f64 b0, .float .f64 d0] 140)) := Ab.heap b4 RA3.out
  have RB4 : Hid (v4.heap[v3.heap.size]? = some (.cells #[.float .f64 a2, .float .f64 b2, .float .f64 d2] 140)) := Ab.heap b4 RB3.out
  have AW4 : Hid (Ab w v4) := AV4.out
  clear b4 AV4 RA3 RB3 AW3
  obtain ⟨⟨o0, o1, o2⟩, y0, y1, y2⟩ := rowfacts RA4.out
  obtain ⟨-, y3, y4, y5⟩ := rowfacts RB4.out
  have n1 : v3.heap.size ≠ v2.heap.size := by have := HLT.out; omega
  have n2 : v2.heap.size ≠ v3.heap.size := fun h => n1 h.symm
  have s1 := row3 (x := .float .f64 a1) (y := .float .f64 b1) (z := .float .f64 d1) RA4.out
  have s2 := other3 (g := v2.heap.size) (h := v3.heap.size) (a := 0) (b := 1) (c := 2) (x := .float .f64 a1) (y := .float .f64 b1) (z := .float .f64 d1) n1 RB4.out
  obtain ⟨-, z0, z1, z2⟩ := rowfacts s1
  obtain ⟨-, z3, z4, z5⟩ := rowfacts s2
  clear s1 s2
  go_wp2_with fail
  refine (GA.out _).mono ?_
  rintro e v9 ⟨rfl, b9⟩
  go_wp2
  go_ret
  exact ⟨rfl, Ab.call (((Ab.setk AW4.out HSA.out _).setk HSA.out _).setk HSA.out _) b9⟩
set_option maxHeartbeats 16000000 in
theorem rlen_1 (n c f i j : Nat) (a0 b0 d0 a2 b2 d2 a3 b3 d3 Q : Nat) (w : World) (hi : (i : Int) ≤ 32) (hj : (j : Int) ≤ 32)
    (PL : Hid (∀ u, Calls Tryz.prog 100 #[.int .i64 n, .int .i64 c] u fun e w' => e = .returned (.tuple #[.int .i64 f, .int .i64 i, .int .i64 j, .bool true]) ∧ ∃ k, w' = u.drewN k))
    (K0 : Hid (∀ u, Calls Tryz.prog 109 #[.int .i64 n, .int .i64 f, .int .i64 (i : Nat), .int .i64 (j : Nat)] u fun e w' => e = .returned (.tuple #[.agg #[.float .f64 a0, .float .f64 b0, .float .f64 d0], .bool true]) ∧ Below u.heap.size u w'))
    (K2 : Hid (∀ u, Calls Tryz.prog 109 #[.int .i64 n, .int .i64 f, .int .i64 ((i : Nat) + 1), .int .i64 ((j : Nat) + 1)] u fun e w' => e = .returned (.tuple #[.agg #[.float .f64 a2, .float .f64 b2, .float .f64 d2], .bool true]) ∧ Below u.heap.size u w'))
    (K3 : Hid (∀ u, Calls Tryz.prog 109 #[.int .i64 n, .int .i64 f, .int .i64 (i : Nat), .int .i64 ((j : Nat) + 1)] u fun e w' => e = .returned (.tuple #[.agg #[.float .f64 a3, .float .f64 b3, .float .f64 d3], .bool true]) ∧ Below u.heap.size u w'))
    (GA : Hid (∀ u, Calls Tryz.prog 110 #[.agg #[.float .f64 a3, .float .f64 b3, .float .f64 d3], .agg #[.float .f64 a2, .float .f64 b2, .float .f64 d2]] u fun e w' => e = .returned (.float .f64 Q) ∧ Below u.heap.size u w')) :
    Calls Tryz.prog 69 #[.int .i64 n, .int .i64 c, .int .i64 1] w fun e w' => e = .returned (.float .f64 Q) ∧ Below w.heap.size w w' := by
  go_enter Tryz.func69, Tryz.ntmps69
  go_wp2_with fail
  refine Calls.mono (PL.out _) ?_
  rintro e vv ⟨rfl, k1, rfl⟩
  have AW1 : Hid (Ab w (w.drewN k1)) := Ab.drewN (Ab.refl w) _
  go_wp2_with fail
  refine Calls.mono (K0.out _) ?_
  rintro e v2 ⟨rfl, b2⟩
  have AV2 : Hid (Ab w v2) := Ab.call AW1.out b2
  have RA2 : Hid ((v2.alloc (.cells #[.float .f64 a0, .float .f64 b0, .float .f64 d0] 140)).heap[v2.heap.size]? = some (.cells #[.float .f64 a0, .float .f64 b0, .float .f64 d0] 140)) := heap_alloc_new _ _
  have HSA : Hid (w.heap.size ≤ v2.heap.size) := Ab.size AV2.out
  have AW2 : Hid (Ab w (v2.alloc (.cells #[.float .f64 a0, .float .f64 b0, .float .f64 d0] 140))) := AV2.out.call (bl1 v2 (.cells #[.float .f64 a0, .float .f64 b0, .float .f64 d0] 140))
  clear b2 AV2 AW1
  go_wp2_with fail
  refine Calls.mono (K2.out _) ?_
  rintro e v3 ⟨rfl, b3⟩
  have AV3 : Hid (Ab w v3) := Ab.call AW2.out b3
  have RA3 : Hid ((v3.alloc (.cells #[.float .f64 a2, .float .f64 b2, .float .f64 d2] 140)).heap[v2.heap.size]? = some (.cells #[.float .f64 a0, .float .f64 b0, .float .f64 d0] 140)) := Ab.heap (bl1 v3 (.cells #[.float .f64 a2, .float .f64 b2, .float .f64 d2] 140)) (Ab.heap b3 RA2.out)
  have RB3 : Hid ((v3.alloc (.cells #[.float .f64 a2, .float .f64 b2, .float .f64 d2] 140)).heap[v3.heap.size]? = some (.cells #[.float .f64 a2, .float .f64 b2, .float .f64 d2] 140)) := heap_alloc_new _ _
  have HSB : Hid (w.heap.size ≤ v3.heap.size) := Ab.size AV3.out
  have AW3 : Hid (Ab w (v3.alloc (.cells #[.float .f64 a2, .float .f64 b2, .float .f64 d2] 140))) := AV3.out.call (bl1 v3 (.cells #[.float .f64 a2, .float .f64 b2, .float .f64 d2] 140))
  have HLT : Hid (v2.heap.size < v3.heap.size) := lt_of_block (Ab.heap b3 RA2.out)
  clear b3 AV3 RA2 AW2
  go_wp2_with fail
  refine Calls.mono (K3.out _) ?_
  rintro e v4 ⟨rfl, b4⟩
  have AV4 : Hid (Ab w v4) := Ab.call AW3.out b4
  have RA4 : Hid (v4.heap[v2.heap.size]? = some (.cells #[.float .f64 a0, .float .f64 b0, .float .f64 d0] 140)) := Ab.heap b4 RA3.out
  have RB4 : Hid (v4.heap[v3.heap.size]? = some (.cells #[.float .f64 a2, .float .f64 b2, .float .f64 d2] 140)) := Ab.heap b4 RB3.out
  have AW4 : Hid (Ab w v4) := AV4.out
  clear b4 AV4 RA3 RB3 AW3
  obtain ⟨⟨o0, o1, o2⟩, y0, y1, y2⟩ := rowfacts RA4.out
  obtain ⟨-, y3, y4, y5⟩ := rowfacts RB4.out
  have n1 : v3.heap.size ≠ v2.heap.size := by have := HLT.out; omega
  have n2 : v2.heap.size ≠ v3.heap.size := fun h => n1 h.symm
  have s1 := row3 (x := .float .f64 a3) (y := .float .f64 b3) (z := .float .f64 d3) RA4.out
  have s2 := other3 (g := v2.heap.size) (h := v3.heap.size) (a := 0) (b := 1) (c := 2) (x := .float .f64 a3) (y := .float .f64 b3) (z := .float .f64 d3) n1 RB4.out
  obtain ⟨-, z0, z1, z2⟩ := rowfacts s1
  obtain ⟨-, z3, z4, z5⟩ := rowfacts s2
  clear s1 s2
  go_wp2_with fail
  refine (GA.out _).mono ?_
  rintro e v9 ⟨rfl, b9⟩
  go_wp2
  go_ret
  exact ⟨rfl, Ab.call (((Ab.setk AW4.out HSA.out _).setk HSA.out _).setk HSA.out _) b9⟩
set_option maxHeartbeats 16000000 in
theorem rlen_2 (n c f i j : Nat) (a0 b0 d0 a2 b2 d2 a3 b3 d3 Q : Nat) (w : World) (hi : (i : Int) ≤ 32) (hj : (j : Int) ≤ 32)
    (PL : Hid (∀ u, Calls Tryz.prog 100 #[.int .i64 n, .int .i64 c] u fun e w' => e = .returned (.tuple #[.int .i64 f, .int .i64 i, .int .i64 j, .bool true]) ∧ ∃ k, w' = u.drewN k))
    (K0 : Hid (∀ u, Calls Tryz.prog 109 #[.int .i64 n, .int .i64 f, .int .i64 (i : Nat), .int .i64 (j : Nat)] u fun e w' => e = .returned (.tuple #[.agg #[.float .f64 a0, .float .f64 b0, .float .f64 d0], .bool true]) ∧ Below u.heap.size u w'))
    (K2 : Hid (∀ u, Calls Tryz.prog 109 #[.int .i64 n, .int .i64 f, .int .i64 ((i : Nat) + 1), .int .i64 ((j : Nat) + 1)] u fun e w' => e = .returned (.tuple #[.agg #[.float .f64 a2, .float .f64 b2, .float .f64 d2], .bool true]) ∧ Below u.heap.size u w'))
    (K3 : Hid (∀ u, Calls Tryz.prog 109 #[.int .i64 n, .int .i64 f, .int .i64 (i : Nat), .int .i64 ((j : Nat) + 1)] u fun e w' => e = .returned (.tuple #[.agg #[.float .f64 a3, .float .f64 b3, .float .f64 d3], .bool true]) ∧ Below u.heap.size u w'))
    (GA : Hid (∀ u, Calls Tryz.prog 110 #[.agg #[.float .f64 a0, .float .f64 b0, .float .f64 d0], .agg #[.float .f64 a3, .float .f64 b3, .float .f64 d3]] u fun e w' => e = .returned (.float .f64 Q) ∧ Below u.heap.size u w')) :
    Calls Tryz.prog 69 #[.int .i64 n, .int .i64 c, .int .i64 2] w fun e w' => e = .returned (.float .f64 Q) ∧ Below w.heap.size w w' := by
  go_enter Tryz.func69, Tryz.ntmps69
  go_wp2_with fail
  refine Calls.mono (PL.out _) ?_
  rintro e vv ⟨rfl, k1, rfl⟩
  have AW1 : Hid (Ab w (w.drewN k1)) := Ab.drewN (Ab.refl w) _
  go_wp2_with fail
  refine Calls.mono (K0.out _) ?_
  rintro e v2 ⟨rfl, b2⟩
  have AV2 : Hid (Ab w v2) := Ab.call AW1.out b2
  have RA2 : Hid ((v2.alloc (.cells #[.float .f64 a0, .float .f64 b0, .float .f64 d0] 140)).heap[v2.heap.size]? = some (.cells #[.float .f64 a0, .float .f64 b0, .float .f64 d0] 140)) := heap_alloc_new _ _
  have HSA : Hid (w.heap.size ≤ v2.heap.size) := Ab.size AV2.out
  have AW2 : Hid (Ab w (v2.alloc (.cells #[.float .f64 a0, .float .f64 b0, .float .f64 d0] 140))) := AV2.out.call (bl1 v2 (.cells #[.float .f64 a0, .float .f64 b0, .float .f64 d0] 140))
  clear b2 AV2 AW1
  go_wp2_with fail
  refine Calls.mono (K2.out _) ?_
  rintro e v3 ⟨rfl, b3⟩
  have AV3 : Hid (Ab w v3) := Ab.call AW2.out b3
  have RA3 : Hid ((v3.alloc (.cells #[.float .f64 a2, .float .f64 b2, .float .f64 d2] 140)).heap[v2.heap.size]? = some (.cells #[.float .f64 a0, .float .f64 b0, .float .f64 d0] 140)) := Ab.heap (bl1 v3 (.cells #[.float .f64 a2, .float .f64 b2, .float .f64 d2] 140)) (Ab.heap b3 RA2.out)
  have RB3 : Hid ((v3.alloc (.cells #[.float .f64 a2, .float .f64 b2, .float .f64 d2] 140)).heap[v3.heap.size]? = some (.cells #[.float .f64 a2, .float .f64 b2, .float .f64 d2] 140)) := heap_alloc_new _ _
  have HSB : Hid (w.heap.size ≤ v3.heap.size) := Ab.size AV3.out
  have AW3 : Hid (Ab w (v3.alloc (.cells #[.float .f64 a2, .float .f64 b2, .float .f64 d2] 140))) := AV3.out.call (bl1 v3 (.cells #[.float .f64 a2, .float .f64 b2, .float .f64 d2] 140))
  have HLT : Hid (v2.heap.size < v3.heap.size) := lt_of_block (Ab.heap b3 RA2.out)
  clear b3 AV3 RA2 AW2
  go_wp2_with fail
  refine Calls.mono (K3.out _) ?_
  rintro e v4 ⟨rfl, b4⟩
  have AV4 : Hid (Ab w v4) := Ab.call AW3.out b4
  have RA4 : Hid (v4.heap[v2.heap.size]? = some (.cells #[.float .f64 a0, .float .f64 b0, .float .f64 d0] 140)) := Ab.heap b4 RA3.out
  have RB4 : Hid (v4.heap[v3.heap.size]? = some (.cells #[.float .f64 a2, .float .f64 b2, .float .f64 d2] 140)) := Ab.heap b4 RB3.out
  have AW4 : Hid (Ab w v4) := AV4.out
  clear b4 AV4 RA3 RB3 AW3
  obtain ⟨⟨o0, o1, o2⟩, y0, y1, y2⟩ := rowfacts RB4.out
  obtain ⟨-, y3, y4, y5⟩ := rowfacts RA4.out
  have n1 : v2.heap.size ≠ v3.heap.size := by have := HLT.out; omega
  have n2 : v3.heap.size ≠ v2.heap.size := fun h => n1 h.symm
  have s1 := row3 (x := .float .f64 a3) (y := .float .f64 b3) (z := .float .f64 d3) RB4.out
  have s2 := other3 (g := v3.heap.size) (h := v2.heap.size) (a := 0) (b := 1) (c := 2) (x := .float .f64 a3) (y := .float .f64 b3) (z := .float .f64 d3) n1 RA4.out
  obtain ⟨-, z0, z1, z2⟩ := rowfacts s1
  obtain ⟨-, z3, z4, z5⟩ := rowfacts s2
  clear s1 s2
  go_wp2_with fail
  refine (GA.out _).mono ?_
  rintro e v9 ⟨rfl, b9⟩
  go_wp2
  go_ret
  exact ⟨rfl, Ab.call (((Ab.setk AW4.out HSB.out _).setk HSB.out _).setk HSB.out _) b9⟩
set_option maxHeartbeats 16000000 in
theorem rlen_3 (n c f i j : Nat) (a0 b0 d0 a1 b1 d1 a2 b2 d2 Q : Nat) (w : World) (hi : (i : Int) ≤ 32) (hj : (j : Int) ≤ 32)
    (PL : Hid (∀ u, Calls Tryz.prog 100 #[.int .i64 n, .int .i64 c] u fun e w' => e = .returned (.tuple #[.int .i64 f, .int .i64 i, .int .i64 j, .bool true]) ∧ ∃ k, w' = u.drewN k))
    (K0 : Hid (∀ u, Calls Tryz.prog 109 #[.int .i64 n, .int .i64 f, .int .i64 (i : Nat), .int .i64 (j : Nat)] u fun e w' => e = .returned (.tuple #[.agg #[.float .f64 a0, .float .f64 b0, .float .f64 d0], .bool true]) ∧ Below u.heap.size u w'))
    (K2 : Hid (∀ u, Calls Tryz.prog 109 #[.int .i64 n, .int .i64 f, .int .i64 ((i : Nat) + 1), .int .i64 ((j : Nat) + 1)] u fun e w' => e = .returned (.tuple #[.agg #[.float .f64 a2, .float .f64 b2, .float .f64 d2], .bool true]) ∧ Below u.heap.size u w'))
    (K1 : Hid (∀ u, Calls Tryz.prog 109 #[.int .i64 n, .int .i64 f, .int .i64 ((i : Nat) + 1), .int .i64 (j : Nat)] u fun e w' => e = .returned (.tuple #[.agg #[.float .f64 a1, .float .f64 b1, .float .f64 d1], .bool true]) ∧ Below u.heap.size u w'))
    (GA : Hid (∀ u, Calls Tryz.prog 110 #[.agg #[.float .f64 a0, .float .f64 b0, .float .f64 d0], .agg #[.float .f64 a1, .float .f64 b1, .float .f64 d1]] u fun e w' => e = .returned (.float .f64 Q) ∧ Below u.heap.size u w')) :
    Calls Tryz.prog 69 #[.int .i64 n, .int .i64 c, .int .i64 3] w fun e w' => e = .returned (.float .f64 Q) ∧ Below w.heap.size w w' := by
  go_enter Tryz.func69, Tryz.ntmps69
  go_wp2_with fail
  refine Calls.mono (PL.out _) ?_
  rintro e vv ⟨rfl, k1, rfl⟩
  have AW1 : Hid (Ab w (w.drewN k1)) := Ab.drewN (Ab.refl w) _
  go_wp2_with fail
  refine Calls.mono (K0.out _) ?_
  rintro e v2 ⟨rfl, b2⟩
  have AV2 : Hid (Ab w v2) := Ab.call AW1.out b2
  have RA2 : Hid ((v2.alloc (.cells #[.float .f64 a0, .float .f64 b0, .float .f64 d0] 140)).heap[v2.heap.size]? = some (.cells #[.float .f64 a0, .float .f64 b0, .float .f64 d0] 140)) := heap_alloc_new _ _
  have HSA : Hid (w.heap.size ≤ v2.heap.size) := Ab.size AV2.out
  have AW2 : Hid (Ab w (v2.alloc (.cells #[.float .f64 a0, .float .f64 b0, .float .f64 d0] 140))) := AV2.out.call (bl1 v2 (.cells #[.float .f64 a0, .float .f64 b0, .float .f64 d0] 140))
  clear b2 AV2 AW1
  go_wp2_with fail
  refine Calls.mono (K2.out _) ?_
  rintro e v3 ⟨rfl, b3⟩
  have AV3 : Hid (Ab w v3) := Ab.call AW2.out b3
  have RA3 : Hid ((v3.alloc (.cells #[.float .f64 a2, .float .f64 b2, .float .f64 d2] 140)).heap[v2.heap.size]? = some (.cells #[.float .f64 a0, .float .f64 b0, .float .f64 d0] 140)) := Ab.heap (bl1 v3 (.cells #[.float .f64 a2, .float .f64 b2, .float .f64 d2] 140)) (Ab.heap b3 RA2.out)
  have RB3 : Hid ((v3.alloc (.cells #[.float .f64 a2, .float .f64 b2, .float .f64 d2] 140)).heap[v3.heap.size]? = some (.cells #[.float .f64 a2, .float .f64 b2, .float .f64 d2] 140)) := heap_alloc_new _ _
  have HSB : Hid (w.heap.size ≤ v3.heap.size) := Ab.size AV3.out
  have AW3 : Hid (Ab w (v3.alloc (.cells #[.float .f64 a2, .float .f64 b2, .float .f64 d2] 140))) := AV3.out.call (bl1 v3 (.cells #[.float .f64 a2, .float .f64 b2, .float .f64 d2] 140))
  have HLT : Hid (v2.heap.size < v3.heap.size) := lt_of_block (Ab.heap b3 RA2.out)
  clear b3 AV3 RA2 AW2
  go_wp2_with fail
  refine Calls.mono (K1.out _) ?_
  rintro e v4 ⟨rfl, b4⟩
  have AV4 : Hid (Ab w v4) := Ab.call AW3.out b4
  have RA4 : Hid (v4.heap[v2.heap.size]? = some (.cells #[.float .f64 a0, .float .f64 b0, .float .f64 d0] 140)) := Ab.heap b4 RA3.out
  have RB4 : Hid (v4.heap[v3.heap.size]? = some (.cells #[.float .f64 a2, .float .f64 b2, .float .f64 d2] 140)) := Ab.heap b4 RB3.out
  have AW4 : Hid (Ab w v4) := AV4.out
  clear b4 AV4 RA3 RB3 AW3
  obtain ⟨⟨o0, o1, o2⟩, y0, y1, y2⟩ := rowfacts RB4.out
  obtain ⟨-, y3, y4, y5⟩ := rowfacts RA4.out
  have n1 : v2.heap.size ≠ v3.heap.size := by have := HLT.out; omega
  have n2 : v3.heap.size ≠ v2.heap.size := fun h => n1 h.symm
  have s1 := row3 (x := .float .f64 a1) (y := .float .f64 b1) (z := .float .f64 d1) RB4.out
  have s2 := other3 (g := v3.heap.size) (h := v2.heap.size) (a := 0) (b := 1) (c := 2) (x := .float .f64 a1) (y := .float .f64 b1) (z := .float .f64 d1) n1 RA4.out
  obtain ⟨-, z0, z1, z2⟩ := rowfacts s1
  obtain ⟨-, z3, z4, z5⟩ := rowfacts s2
  clear s1 s2
  go_wp2_with fail
  refine (GA.out _).mono ?_
  rintro e v9 ⟨rfl, b9⟩
  go_wp2
  go_ret
  exact ⟨rfl, Ab.call (((Ab.setk AW4.out HSB.out _).setk HSB.out _).setk HSB.out _) b9⟩
theorem rlen_ok (n c s : Nat) (w : World) (hn : 1 ≤ n ∧ n ≤ 32) (hc : c < 6 * n * n) (hs : s < 4) :
    Calls Tryz.prog 69 #[.int .i64 n, .int .i64 c, .int .i64 s] w fun e w' => e = .returned (.float .f64 (LnC n c s)) ∧ Below w.heap.size w w' := by
  obtain ⟨h1, h2, h3⟩ := rlen_parts n c hn hc
  obtain ⟨l0, l1, l2, l3⟩ := LnC_cases n c
  have GA : ∀ p q : P3, Hid (∀ u, Calls Tryz.prog 110 #[.agg #[.float .f64 (px n p), .float .f64 (py n p), .float .f64 (pz n p)], .agg #[.float .f64 (px n q), .float .f64 (py n q), .float .f64 (pz n q)]] u fun e w' => e = .returned (.float .f64 (gp n p q)) ∧ Below u.heap.size u w') := fun p q u => rgap_at _ _ _ _ _ _ u (px_lt _ _) (py_lt _ _) (pz_lt _ _) (px_lt _ _) (py_lt _ _) (pz_lt _ _)
  rcases Cu.four hs with rfl | rfl | rfl | rfl
  · rw [l0]
    exact rlen_0 n c (cf n c) (ci n c) (cj n c) (px n (cr n (cf n c) (ci n c) (cj n c))) (py n (cr n (cf n c) (ci n c) (cj n c))) (pz n (cr n (cf n c) (ci n c) (cj n c))) (px n (cr n (cf n c) (ci n c + 1) (cj n c))) (py n (cr n (cf n c) (ci n c + 1) (cj n c))) (pz n (cr n (cf n c) (ci n c + 1) (cj n c))) (px n (cr n (cf n c) (ci n c + 1) (cj n c + 1))) (py n (cr n (cf n c) (ci n c + 1) (cj n c + 1))) (pz n (cr n (cf n c) (ci n c + 1) (cj n c + 1))) _ w (by omega) (by omega) (fun u => rplace_okN n c hn hc u) (fun u => rcorner_ok n (cf n c) (ci n c) (cj n c) u hn h1 (by omega) (by omega)) (fun u => rcorner_ok n (cf n c) (ci n c + 1) (cj n c + 1) u hn h1 (by omega) (by omega)) (fun u => rcorner_ok n (cf n c) (ci n c + 1) (cj n c) u hn h1 (by omega) (by omega)) (GA (cr n (cf n c) (ci n c + 1) (cj n c)) (cr n (cf n c) (ci n c + 1) (cj n c + 1)))
  · rw [l1]
    exact rlen_1 n c (cf n c) (ci n c) (cj n c) (px n (cr n (cf n c) (ci n c) (cj n c))) (py n (cr n (cf n c) (ci n c) (cj n c))) (pz n (cr n (cf n c) (ci n c) (cj n c))) (px n (cr n (cf n c) (ci n c + 1) (cj n c + 1))) (py n (cr n (cf n c) (ci n c + 1) (cj n c + 1))) (pz n (cr n (cf n c) (ci n c + 1) (cj n c + 1))) (px n (cr n (cf n c) (ci n c) (cj n c + 1))) (py n (cr n (cf n c) (ci n c) (cj n c + 1))) (pz n (cr n (cf n c) (ci n c) (cj n c + 1))) _ w (by omega) (by omega) (fun u => rplace_okN n c hn hc u) (fun u => rcorner_ok n (cf n c) (ci n c) (cj n c) u hn h1 (by omega) (by omega)) (fun u => rcorner_ok n (cf n c) (ci n c + 1) (cj n c + 1) u hn h1 (by omega) (by omega)) (fun u => rcorner_ok n (cf n c) (ci n c) (cj n c + 1) u hn h1 (by omega) (by omega)) (GA (cr n (cf n c) (ci n c) (cj n c + 1)) (cr n (cf n c) (ci n c + 1) (cj n c + 1)))
  · rw [l2]
    exact rlen_2 n c (cf n c) (ci n c) (cj n c) (px n (cr n (cf n c) (ci n c) (cj n c))) (py n (cr n (cf n c) (ci n c) (cj n c))) (pz n (cr n (cf n c) (ci n c) (cj n c))) (px n (cr n (cf n c) (ci n c + 1) (cj n c + 1))) (py n (cr n (cf n c) (ci n c + 1) (cj n c + 1))) (pz n (cr n (cf n c) (ci n c + 1) (cj n c + 1))) (px n (cr n (cf n c) (ci n c) (cj n c + 1))) (py n (cr n (cf n c) (ci n c) (cj n c + 1))) (pz n (cr n (cf n c) (ci n c) (cj n c + 1))) _ w (by omega) (by omega) (fun u => rplace_okN n c hn hc u) (fun u => rcorner_ok n (cf n c) (ci n c) (cj n c) u hn h1 (by omega) (by omega)) (fun u => rcorner_ok n (cf n c) (ci n c + 1) (cj n c + 1) u hn h1 (by omega) (by omega)) (fun u => rcorner_ok n (cf n c) (ci n c) (cj n c + 1) u hn h1 (by omega) (by omega)) (GA (cr n (cf n c) (ci n c) (cj n c)) (cr n (cf n c) (ci n c) (cj n c + 1)))
  · rw [l3]
    exact rlen_3 n c (cf n c) (ci n c) (cj n c) (px n (cr n (cf n c) (ci n c) (cj n c))) (py n (cr n (cf n c) (ci n c) (cj n c))) (pz n (cr n (cf n c) (ci n c) (cj n c))) (px n (cr n (cf n c) (ci n c + 1) (cj n c))) (py n (cr n (cf n c) (ci n c + 1) (cj n c))) (pz n (cr n (cf n c) (ci n c + 1) (cj n c))) (px n (cr n (cf n c) (ci n c + 1) (cj n c + 1))) (py n (cr n (cf n c) (ci n c + 1) (cj n c + 1))) (pz n (cr n (cf n c) (ci n c + 1) (cj n c + 1))) _ w (by omega) (by omega) (fun u => rplace_okN n c hn hc u) (fun u => rcorner_ok n (cf n c) (ci n c) (cj n c) u hn h1 (by omega) (by omega)) (fun u => rcorner_ok n (cf n c) (ci n c + 1) (cj n c + 1) u hn h1 (by omega) (by omega)) (fun u => rcorner_ok n (cf n c) (ci n c + 1) (cj n c) u hn h1 (by omega) (by omega)) (GA (cr n (cf n c) (ci n c) (cj n c)) (cr n (cf n c) (ci n c + 1) (cj n c)))
end Go.Proofs.YtomenbbhdnfciaaGreatDoor

namespace Go.Proofs.YtomenbbhdnfciaaGreatDoor
open Go.RowKit Cu Tf
attribute [local go_sem] run_store_float
/-- the document's net of side n lies in block rb -/
def RefOf (n rb : Nat) (w : World) : Prop := ∃ ab eb cap, w.heap[rb]? = some (.cells #[.int .i64 n, .slice (some ⟨eb, 0, none⟩) (12 * n * n) cap, .slice (some ⟨ab, 0, none⟩) (24 * n * n) (24 * n * n)] 69) ∧ EG w n eb ∧ w.rowIs ab 3 (24 * n * n) (fun t => .int .i64 (eE n t : Nat))
theorem RefOf.to {n rb : Nat} {w w' : World} (h : RefOf n rb w) (a : Ab w w') : RefOf n rb w' := by
  obtain ⟨ab, eb, cap, h1, h2, h3⟩ := h
  exact ⟨ab, eb, cap, a.heap h1, h2.to a, rowIs.ab h3 a⟩
theorem RE.all {B n rb ab : Nat} {es : Value} {w : World} (hn : 1 ≤ n) (h : RE B n (24 * n * n) (24 * n * n) rb ab es w) : RefOf n rb w := by
  obtain ⟨h1, h2, h3, h4, h5, h6⟩ := h
  have hh := h2
  have hpos : 0 < 12 * n * n := Nat.mul_pos (by omega) (by omega)
  rw [eN_all hn] at hh
  rcases hh.2 with ⟨rfl, h0⟩ | ⟨g, cap, cur, rfl, hb, hg, k1, k2, k3, k4⟩
  · omega
  · refine ⟨ab, g, cap, h1, ⟨lt_of_block hg, fun t ht hl => ?_⟩, h3.congr (fun t ht => by rw [rA_end hn ht])⟩
    have hc : ∀ j < 4, ∀ u, (edV n t)[j]? = some u → w.cell? ⟨g, eN n t * 4 + j, none⟩ = some u := by
      intro j hj u hu
      have := hh.cells (g := g) rfl (eN n t * 4 + j) u (by rw [edL_at ht hl hj]; exact hu)
      have ha : (⟨g, 0, none⟩ : Addr).add (eN n t * 4 + j) = ⟨g, eN n t * 4 + j, none⟩ := by unfold Addr.add; split <;> simp_all
      rwa [ha] at this
    exact ⟨hc 0 (by omega) _ rfl, hc 1 (by omega) _ rfl, hc 2 (by omega) _ rfl, hc 3 (by omega) _ rfl⟩
theorem rnew_no (n : Int) (w : World) (h : ¬ (1 ≤ n ∧ n ≤ 32)) :
    Calls Tryz.prog 10 #[.int .i64 n] w fun e w' => e = .returned (.tuple #[.pointer none, .int .i64 10]) ∧ w' = w := by
  have CE := hid (fun u => rcells_at n u)
  have hz : clN n = 0 := by unfold clN; rw [if_neg h]
  rw [hz] at CE
  clear h hz
  go_enter Tryz.func10, Tryz.ntmps10
  go_wp2_with (go_at_call 29; refine (CE.out _).mono ?_; rintro e w' ⟨rfl, hw⟩; have hw2 := hw.symm; subst hw2)
  go_ret2
  exact ⟨rfl, rfl⟩
theorem rSide_at {n rb : Nat} {w : World} (g : RefOf n rb w) : Calls Tryz.prog 101 #[.pointer (some ⟨rb, 0, none⟩)] w fun e w' => e = .returned (.int .i64 n) ∧ w' = w := by
  obtain ⟨ab, eb, cap, h1, -⟩ := g
  have c0 := cell_of_row _ _ 0 _ _ _ h1
  clear h1
  go_enter Tryz.func101, Tryz.ntmps101
  go_wp2
  go_ret
  exact ⟨rfl, rfl⟩
theorem rCells_at {n rb : Nat} {w : World} (hn : 1 ≤ n ∧ n ≤ 32) (g : RefOf n rb w) : Calls Tryz.prog 60 #[.pointer (some ⟨rb, 0, none⟩)] w fun e w' => e = .returned (.int .i64 (6 * n * n : Nat)) ∧ w' = w := by
  have SI := hid (rSide_at g)
  have CE := hid (fun u => rcells_at n u)
  rw [clN_nat hn] at CE
  generalize 6 * n * n = N at *
  clear g hn
  go_enter Tryz.func60, Tryz.ntmps60
  go_wp2_with (first
    | (go_at_call 101; refine SI.out.mono ?_; rintro e w' ⟨rfl, hw⟩; have hw2 := hw.symm; subst hw2)
    | (go_at_call 29; refine (CE.out _).mono ?_; rintro e w' ⟨rfl, hw⟩; have hw2 := hw.symm; subst hw2))
  go_ret
  exact ⟨rfl, rfl⟩
theorem rEdges_at {n rb : Nat} {w : World} (g : RefOf n rb w) : Calls Tryz.prog 32 #[.pointer (some ⟨rb, 0, none⟩)] w fun e w' => e = .returned (.int .i64 (12 * n * n : Nat)) ∧ w' = w := by
  obtain ⟨ab, eb, cap, h1, -⟩ := g
  have c1 := cell_of_row _ _ 1 _ _ _ h1
  simp at c1
  clear h1
  generalize 12 * n * n = M at *
  go_enter Tryz.func32, Tryz.ntmps32
  go_wp2
  go_ret
  exact ⟨rfl, rfl⟩
set_option maxHeartbeats 2000000 in
theorem rEdge_ok {n rb t : Nat} {w : World} (hn : 1 ≤ n ∧ n ≤ 32) (ht : t < 24 * n * n) (hl : isL n t = true) (g : RefOf n rb w) :
    Calls Tryz.prog 61 #[.pointer (some ⟨rb, 0, none⟩), .int .i64 (eN n t : Nat)] w fun e w' => e = .returned (.tuple #[.agg #[.int .i64 (t / 4 : Nat), .int .i64 (t % 4 : Nat), .int .i64 (bsC n (t / 4) (t % 4) : Nat), .int .i64 (bsS n (t / 4) (t % 4) : Nat)], .bool true]) ∧ Below w.heap.size w w' := by
  have E1 := hid (rEdges_at (g.to (bl1 w (.cells #[.int .i64 0, .int .i64 0, .int .i64 0, .int .i64 0] 73))))
  obtain ⟨ab, eb, cap, h1, h2, -⟩ := g
  have c1 := cell_of_row _ _ 1 _ _ _ h1
  simp at c1
  obtain ⟨y0, y1, y2, y3⟩ := h2.2 t ht hl
  have lg := lt_of_block h1
  have le := h2.1
  have kN := ed_lt hn.1 ht hl
  generalize bsC n (t / 4) (t % 4) = d at *
  generalize bsS n (t / 4) (t % 4) = b at *
  generalize t / 4 = c at *
  generalize t % 4 = s at *
  generalize eN n t = k at *
  generalize 12 * n * n = M at *
  have hk1 : (k : Int) < M := by omega
  clear h1 h2 hn ht hl
  go_enter Tryz.func61, Tryz.ntmps61
  go_wp2_with (go_at_call 32; refine (E1.out).mono ?_; rintro e w' ⟨rfl, hw⟩; have hw2 := hw.symm; subst hw2)
  refine bodyPost_ret ?_ rfl ⟨rfl, ?_⟩
  · exact res_two Tryz.results61 _ _ w.heap.size _ _ (0, 0) _ _ rfl rfl (heap_alloc_new w _) Tryz.underlying73 rfl (by kernel_rfl)
  · exact bl1 w _
set_option maxHeartbeats 2000000 in
theorem rEdge_no {n rb : Nat} {k : Int} {w : World} (hk : inR k (12 * n * n : Nat) = false) (g : RefOf n rb w) :
    Calls Tryz.prog 61 #[.pointer (some ⟨rb, 0, none⟩), .int .i64 k] w fun e w' => e = .returned (.tuple #[.agg #[.int .i64 0, .int .i64 0, .int .i64 0, .int .i64 0], .bool false]) ∧ Below w.heap.size w w' := by
  have E1 := hid (rEdges_at (g.to (bl1 w (.cells #[.int .i64 0, .int .i64 0, .int .i64 0, .int .i64 0] 73))))
  rw [inR_no] at hk
  generalize 12 * n * n = M at *
  clear g
  by_cases h0 : k < 0
  · clear hk
    go_enter Tryz.func61, Tryz.ntmps61
    go_wp2_with (go_at_call 32; refine (E1.out).mono ?_; rintro e w' ⟨rfl, hw⟩; have hw2 := hw.symm; subst hw2)
    refine bodyPost_ret ?_ rfl ⟨rfl, bl1 w _⟩
    exact res_two Tryz.results61 _ _ w.heap.size _ _ (0, 0) _ _ rfl rfl (heap_alloc_new w _) Tryz.underlying73 rfl (by kernel_rfl)
  · have h1 : (M : Int) ≤ k := by omega
    clear hk
    go_enter Tryz.func61, Tryz.ntmps61
    go_wp2_with (go_at_call 32; refine (E1.out).mono ?_; rintro e w' ⟨rfl, hw⟩; have hw2 := hw.symm; subst hw2)
    refine bodyPost_ret ?_ rfl ⟨rfl, bl1 w _⟩
    exact res_two Tryz.results61 _ _ w.heap.size _ _ (0, 0) _ _ rfl rfl (heap_alloc_new w _) Tryz.underlying73 rfl (by kernel_rfl)
end Go.Proofs.YtomenbbhdnfciaaGreatDoor

namespace Go.Proofs.YtomenbbhdnfciaaGreatDoor
open Go.RowKit Cu Tf
attribute [local go_sem] run_store_float
theorem RefOf.c0 {n rb : Nat} {w : World} (h : RefOf n rb w) : w.cell? ⟨rb, 0, none⟩ = some (.int .i64 n) := by
  obtain ⟨ab, eb, cap, h1, -⟩ := h
  exact cell_of_row _ _ 0 _ _ _ h1
set_option maxHeartbeats 4000000 in
theorem rBehind_ok {n rb t : Nat} {w : World} (hn : 1 ≤ n ∧ n ≤ 32) (ht : t < 24 * n * n) (hl : isL n t = true) (g : RefOf n rb w) :
    Calls Tryz.prog 62 #[.pointer (some ⟨rb, 0, none⟩), .int .i64 (eN n t : Nat)] w fun e w' => e = .returned (.tuple #[.int .i64 (bsC n (t / 4) ((t % 4 + 2) % 4) : Nat), .int .i64 (bsC n (bsC n (t / 4) (t % 4)) ((bsS n (t / 4) (t % 4) + 2) % 4) : Nat), .bool true]) ∧ Below w.heap.size w w' := by
  have hc := t_cell ht
  obtain ⟨bc, bs⟩ := bs_lt hn.1 hc (s := t % 4) (by omega)
  have EG1 := hid (fun v (g : RefOf n rb v) => rEdge_ok hn ht hl g)
  have B1 := hid (fun u => rbeside_at n (t / 4) ((t % 4 + 2) % 4) u hn hc (by omega))
  have B2 := hid (fun u => rbeside_at n (bsC n (t / 4) (t % 4)) ((bsS n (t / 4) (t % 4) + 2) % 4) u hn bc (by omega))
  have e4 : (((t % 4 : Nat) : Int) + 2).tmod 4 = (((t % 4 + 2) % 4 : Nat) : Int) := by rw [Int.tmod_eq_emod_of_nonneg (by omega)]; omega
  have e5 : (((bsS n (t / 4) (t % 4) : Nat) : Int) + 2).tmod 4 = (((bsS n (t / 4) (t % 4) + 2) % 4 : Nat) : Int) := by rw [Int.tmod_eq_emod_of_nonneg (by omega)]; omega
  have hs4 : ((t % 4 : Nat) : Int) < 4 := by omega
  have ho4 : ((bsS n (t / 4) (t % 4) : Nat) : Int) < 4 := by omega
  generalize bsC n (bsC n (t / 4) (t % 4)) ((bsS n (t / 4) (t % 4) + 2) % 4) = a2 at *
  generalize bsC n (t / 4) ((t % 4 + 2) % 4) = a1 at *
  generalize bsS n (bsC n (t / 4) (t % 4)) ((bsS n (t / 4) (t % 4) + 2) % 4) = z2 at *
  generalize bsS n (t / 4) ((t % 4 + 2) % 4) = z1 at *
  generalize (bsS n (t / 4) (t % 4) + 2) % 4 = o1 at *
  generalize (t % 4 + 2) % 4 = s1 at *
  generalize bsC n (t / 4) (t % 4) = d at *
  generalize bsS n (t / 4) (t % 4) = o at *
  generalize t / 4 = c at *
  generalize t % 4 = s at *
  generalize eN n t = k at *
  have Q0 := hid g
  have AW0 := hid (Ab.refl w)
  clear hn ht hl g hc bc bs
  go_enter Tryz.func62, Tryz.ntmps62
  go_wp2_with fail
  refine Calls.mono (EG1.out _ Q0.out) ?_
  rintro e v1 ⟨rfl, b1⟩
  have ST : Hid (Ab w (v1.alloc (.cells #[.int .i64 c, .int .i64 s, .int .i64 d, .int .i64 o] 73))) := Ab.call (show Ab _ _ from b1) (bl1 v1 (.cells #[.int .i64 c, .int .i64 s, .int .i64 d, .int .i64 o] 73))
  have AW1 : Hid (Ab w (v1.alloc (.cells #[.int .i64 c, .int .i64 s, .int .i64 d, .int .i64 o] 73))) := (AW0.out).trans ST.out
  have Q1 : Hid (RefOf n rb (v1.alloc (.cells #[.int .i64 c, .int .i64 s, .int .i64 d, .int .i64 o] 73))) := Q0.out.to ST.out
  have RX1 : Hid ((v1.alloc (.cells #[.int .i64 c, .int .i64 s, .int .i64 d, .int .i64 o] 73)).heap[v1.heap.size]? = some (.cells #[.int .i64 c, .int .i64 s, .int .i64 d, .int .i64 o] 73)) := heap_alloc_new _ _
  clear ST Q0 AW0
  clear b1
  go_upto_region 4 with fail
  obtain ⟨UU, F, hF1, hF2⟩ := cls (v1.alloc (.cells #[.int .i64 c, .int .i64 s, .int .i64 d, .int .i64 o] 73))
  have HU := hid hF2
  have HU1 := hid hF1
  have xr0 : ∀ u, (F u).cell? ⟨rb, 0, none⟩ = some (.int .i64 n) := fun u => (Q1.out.to (hF1 u)).c0
  have xX0 : ∀ u, (F u).cell? ⟨v1.heap.size, 0, none⟩ = some (.int .i64 c) := fun u => cell_of_row _ _ 0 _ _ _ ((hF1 u).heap RX1.out)
  have xX1 : ∀ u, (F u).cell? ⟨v1.heap.size, 1, none⟩ = some (.int .i64 s) := fun u => cell_of_row _ _ 1 _ _ _ ((hF1 u).heap RX1.out)
  have xX2 : ∀ u, (F u).cell? ⟨v1.heap.size, 2, none⟩ = some (.int .i64 d) := fun u => cell_of_row _ _ 2 _ _ _ ((hF1 u).heap RX1.out)
  have xX3 : ∀ u, (F u).cell? ⟨v1.heap.size, 3, none⟩ = some (.int .i64 o) := fun u => cell_of_row _ _ 3 _ _ _ ((hF1 u).heap RX1.out)
  have D := HU.out _ (Ab.refl (v1.alloc (.cells #[.int .i64 c, .int .i64 s, .int .i64 d, .int .i64 o] 73))).drew
  clear hF1 hF2
  refine region_cls F (by kernel_rfl) (by kernel_rfl) D ?_
  repeat (go_big_quiet_step (first
    | (with_reducible rfl)
    | (go_at_call 30; exact calls_cls HU HU1 (B1.out _))))
  refine wpQuiet_nil ?_
  intro wz4 hwz
  obtain ⟨u, hu⟩ := hwz
  have bz : Ab (v1.alloc (.cells #[.int .i64 c, .int .i64 s, .int .i64 d, .int .i64 o] 73)) wz4 := by rw [hu]; exact HU1.out u
  clear hu u
  clear HU HU1 D xr0 xX0 xX1 xX2 xX3
  clear F UU
  have ST : Hid (Ab (v1.alloc (.cells #[.int .i64 c, .int .i64 s, .int .i64 d, .int .i64 o] 73)) wz4) := bz
  have AW2 : Hid (Ab w wz4) := (AW1.out).trans ST.out
  have RX2 : Hid (wz4.heap[v1.heap.size]? = some (.cells #[.int .i64 c, .int .i64 s, .int .i64 d, .int .i64 o] 73)) := Ab.heap ST.out RX1.out
  have Q2 : Hid (RefOf n rb wz4) := Q1.out.to ST.out
  clear ST RX1 Q1 AW1
  clear bz
  go_upto_region 5 with fail
  obtain ⟨UU, F, hF1, hF2⟩ := cls wz4
  have HU := hid hF2
  have HU1 := hid hF1
  have xr0 : ∀ u, (F u).cell? ⟨rb, 0, none⟩ = some (.int .i64 n) := fun u => (Q2.out.to (hF1 u)).c0
  have xX0 : ∀ u, (F u).cell? ⟨v1.heap.size, 0, none⟩ = some (.int .i64 c) := fun u => cell_of_row _ _ 0 _ _ _ ((hF1 u).heap RX2.out)
  have xX1 : ∀ u, (F u).cell? ⟨v1.heap.size, 1, none⟩ = some (.int .i64 s) := fun u => cell_of_row _ _ 1 _ _ _ ((hF1 u).heap RX2.out)
  have xX2 : ∀ u, (F u).cell? ⟨v1.heap.size, 2, none⟩ = some (.int .i64 d) := fun u => cell_of_row _ _ 2 _ _ _ ((hF1 u).heap RX2.out)
  have xX3 : ∀ u, (F u).cell? ⟨v1.heap.size, 3, none⟩ = some (.int .i64 o) := fun u => cell_of_row _ _ 3 _ _ _ ((hF1 u).heap RX2.out)
  have D := HU.out _ (Ab.refl wz4).drew
  clear hF1 hF2
  refine region_cls F (by kernel_rfl) (by kernel_rfl) D ?_
  repeat (go_big_quiet_step (first
    | (with_reducible rfl)
    | (go_at_call 30; exact calls_cls HU HU1 (B2.out _))))
  refine wpQuiet_nil ?_
  intro wz5 hwz
  obtain ⟨u, hu⟩ := hwz
  have bz : Ab wz4 wz5 := by rw [hu]; exact HU1.out u
  clear hu u
  clear HU HU1 D xr0 xX0 xX1 xX2 xX3
  clear F UU
  have ST : Hid (Ab wz4 wz5) := bz
  have AW3 : Hid (Ab w wz5) := (AW2.out).trans ST.out
  have RX3 : Hid (wz5.heap[v1.heap.size]? = some (.cells #[.int .i64 c, .int .i64 s, .int .i64 d, .int .i64 o] 73)) := Ab.heap ST.out RX2.out
  have Q3 : Hid (RefOf n rb wz5) := Q2.out.to ST.out
  clear ST RX2 Q2 AW2
  clear bz
  go_wp2
  refine bodyPost_ret ?_ rfl ⟨rfl, ?_⟩
  · simp [results, Tryz.results62, go_sem]
  · exact AW3.out
theorem rArea_at {n rb : Nat} {c V : Int} {w : World} (A1 : ∀ u, Calls Tryz.prog 103 #[.int .i64 n, .int .i64 c] u fun e w' => e = .returned (.int .i64 V) ∧ Below u.heap.size u w') (g : RefOf n rb w) :
    Calls Tryz.prog 64 #[.pointer (some ⟨rb, 0, none⟩), .int .i64 c] w fun e w' => e = .returned (.int .i64 V) ∧ Below w.heap.size w w' := by
  have SI := hid (rSide_at g)
  have AA := hid A1
  clear g A1
  go_enter Tryz.func64, Tryz.ntmps64
  go_wp2_with (first
    | (go_at_call 101; refine SI.out.mono ?_; rintro e w' ⟨rfl, hw⟩; have hw2 := hw.symm; subst hw2)
    | (go_at_call 103; refine (AA.out _).mono ?_; rintro e v1 ⟨rfl, b1⟩))
  go_ret
  exact ⟨rfl, b1⟩
set_option maxHeartbeats 4000000 in
theorem rLength_ok {n rb t : Nat} {w : World} (hn : 1 ≤ n ∧ n ≤ 32) (ht : t < 24 * n * n) (hl : isL n t = true) (g : RefOf n rb w) :
    Calls Tryz.prog 34 #[.pointer (some ⟨rb, 0, none⟩), .int .i64 (eN n t : Nat)] w fun e w' => e = .returned (.float .f64 (LnC n (t / 4) (t % 4))) ∧ Below w.heap.size w w' := by
  have hc := t_cell ht
  have EG1 := hid (fun v (g : RefOf n rb v) => rEdge_ok hn ht hl g)
  have L1 := hid (fun u => rlen_ok n (t / 4) (t % 4) u hn hc (by omega))
  generalize LnC n (t / 4) (t % 4) = L at *
  generalize bsC n (t / 4) (t % 4) = d at *
  generalize bsS n (t / 4) (t % 4) = o at *
  generalize t / 4 = c at *
  generalize t % 4 = s at *
  generalize eN n t = k at *
  have Q0 := hid g
  have AW0 := hid (Ab.refl w)
  clear hn ht hl g hc
  go_enter Tryz.func34, Tryz.ntmps34
  go_wp2_with fail
  refine Calls.mono (EG1.out _ Q0.out) ?_
  rintro e v1 ⟨rfl, b1⟩
  have ST : Hid (Ab w (v1.alloc (.cells #[.int .i64 c, .int .i64 s, .int .i64 d, .int .i64 o] 73))) := Ab.call (show Ab _ _ from b1) (bl1 v1 (.cells #[.int .i64 c, .int .i64 s, .int .i64 d, .int .i64 o] 73))
  have AW1 : Hid (Ab w (v1.alloc (.cells #[.int .i64 c, .int .i64 s, .int .i64 d, .int .i64 o] 73))) := (AW0.out).trans ST.out
  have Q1 : Hid (RefOf n rb (v1.alloc (.cells #[.int .i64 c, .int .i64 s, .int .i64 d, .int .i64 o] 73))) := Q0.out.to ST.out
  have RX1 : Hid ((v1.alloc (.cells #[.int .i64 c, .int .i64 s, .int .i64 d, .int .i64 o] 73)).heap[v1.heap.size]? = some (.cells #[.int .i64 c, .int .i64 s, .int .i64 d, .int .i64 o] 73)) := heap_alloc_new _ _
  clear ST Q0 AW0
  clear b1
  go_upto_region 4 with fail
  obtain ⟨UU, F, hF1, hF2⟩ := cls (v1.alloc (.cells #[.int .i64 c, .int .i64 s, .int .i64 d, .int .i64 o] 73))
  have HU := hid hF2
  have HU1 := hid hF1
  have xr0 : ∀ u, (F u).cell? ⟨rb, 0, none⟩ = some (.int .i64 n) := fun u => (Q1.out.to (hF1 u)).c0
  have xX0 : ∀ u, (F u).cell? ⟨v1.heap.size, 0, none⟩ = some (.int .i64 c) := fun u => cell_of_row _ _ 0 _ _ _ ((hF1 u).heap RX1.out)
  have xX1 : ∀ u, (F u).cell? ⟨v1.heap.size, 1, none⟩ = some (.int .i64 s) := fun u => cell_of_row _ _ 1 _ _ _ ((hF1 u).heap RX1.out)
  have xX2 : ∀ u, (F u).cell? ⟨v1.heap.size, 2, none⟩ = some (.int .i64 d) := fun u => cell_of_row _ _ 2 _ _ _ ((hF1 u).heap RX1.out)
  have xX3 : ∀ u, (F u).cell? ⟨v1.heap.size, 3, none⟩ = some (.int .i64 o) := fun u => cell_of_row _ _ 3 _ _ _ ((hF1 u).heap RX1.out)
  have D := HU.out _ (Ab.refl (v1.alloc (.cells #[.int .i64 c, .int .i64 s, .int .i64 d, .int .i64 o] 73))).drew
  clear hF1 hF2
  refine region_cls F (by kernel_rfl) (by kernel_rfl) D ?_
  repeat (go_big_quiet_step (first
    | (with_reducible rfl)
    | (go_at_call 69; exact calls_cls HU HU1 (L1.out _))))
  refine wpQuiet_nil ?_
  intro wz4 hwz
  obtain ⟨u, hu⟩ := hwz
  have bz : Ab (v1.alloc (.cells #[.int .i64 c, .int .i64 s, .int .i64 d, .int .i64 o] 73)) wz4 := by rw [hu]; exact HU1.out u
  clear hu u
  clear HU HU1 D xr0 xX0 xX1 xX2 xX3
  clear F UU
  have ST : Hid (Ab (v1.alloc (.cells #[.int .i64 c, .int .i64 s, .int .i64 d, .int .i64 o] 73)) wz4) := bz
  have AW2 : Hid (Ab w wz4) := (AW1.out).trans ST.out
  have RX2 : Hid (wz4.heap[v1.heap.size]? = some (.cells #[.int .i64 c, .int .i64 s, .int .i64 d, .int .i64 o] 73)) := Ab.heap ST.out RX1.out
  have Q2 : Hid (RefOf n rb wz4) := Q1.out.to ST.out
  clear ST RX1 Q1 AW1
  clear bz
  go_wp2
  go_ret
  exact ⟨rfl, AW2.out⟩
end Go.Proofs.YtomenbbhdnfciaaGreatDoor
