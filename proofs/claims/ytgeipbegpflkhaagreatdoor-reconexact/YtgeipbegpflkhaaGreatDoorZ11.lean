/-
  Some of the texts of this proof, one behind the other.
-/
import Derived.Test.YtgeipbegpflkhaaGreatDoorZ10
import Derived.Test.YtgeipbegpflkhaaGreatDoorZ06
import Derived.Deep.RegionHeld3
import Derived.Test.YtgeipbegpflkhaaGreatDoorZ05
/-
  Points of the sphere, corners and middles: walks over the program.
-/
namespace Go.Proofs.YtgeipbegpflkhaaGreatDoor
open Go.RowKit Tf Cu
attribute [local go_sem] run_bits run_from raw_feq raw_fne raw_flt raw_fgt run_neg run_store_float
theorem res_two {P : Program} {fn : Func} {p q : Tmp} {ty : TypeId} (h : fn.results = #[.cell p ty, .tmp q]) (tmps : Array Value) (w : World) (g : Nat) (t : TypeId) (cs : Array Value) (fr : Nat × Nat) (d : TypeDesc) (v : Value)
    (hp : tmps.getD p undef = .pointer (some ⟨g, 0, none⟩)) (hq : tmps.getD q undef = v) (hg : w.heap[g]? = some (.cells cs t fr))
    (hu : P.underlying ty = some d) (hd : (match d with | .struct _ | .array _ _ => true | _ => false) = true) (hi : (P.info? ty).map (·.size) = some cs.size) :
    (results fn tmps).run P w = .ok (.tuple #[.agg cs, v]) w := by
  have hp' : tmps[p]?.getD undef = .pointer (some ⟨g, 0, none⟩) := by simpa using hp
  have hq' : tmps[q]?.getD undef = v := by simpa using hq
  simp [results, h, hp', hq', asAddr, run_loadVar_row w g t ty cs fr d hg hu hd hi]
theorem res_rows {P : Program} {fn : Func} {p q : Tmp} {ty : TypeId} (h : fn.results = #[.cell p ty, .cell q ty]) (tmps : Array Value) (w : World) (g0 g1 : Nat) (t : TypeId) (c0 c1 : Array Value) (d : TypeDesc)
    (hp : tmps.getD p undef = .pointer (some ⟨g0, 0, none⟩)) (hq : tmps.getD q undef = .pointer (some ⟨g1, 0, none⟩)) (h0 : w.heap[g0]? = some (.cells c0 t)) (h1 : w.heap[g1]? = some (.cells c1 t))
    (hu : P.underlying ty = some d) (hd : (match d with | .struct _ | .array _ _ => true | _ => false) = true) (i0 : (P.info? ty).map (·.size) = some c0.size) (i1 : (P.info? ty).map (·.size) = some c1.size) :
    (results fn tmps).run P w = .ok (.tuple #[.agg c0, .agg c1]) w := by
  have hp' : tmps[p]?.getD undef = .pointer (some ⟨g0, 0, none⟩) := by simpa using hp
  have hq' : tmps[q]?.getD undef = .pointer (some ⟨g1, 0, none⟩) := by simpa using hq
  simp [results, h, hp', hq', asAddr, run_loadVar_row w g0 t ty c0 (0, 0) d h0 hu hd i0, run_loadVar_row w g1 t ty c1 (0, 0) d h1 hu hd i1]
set_option maxHeartbeats 2000000 in
theorem part_at (k n : Int) (w : World) :
    Calls Tryz.prog 130 #[.int .i64 k, .int .i64 n] w fun e w' => ∃ r m, e = .returned (.float .f64 r) ∧ w' = w.drewN m ∧ Hid (IsC r (dvB (fB k) (fB n))) := by
  have F : Hid (∀ (k : Int) w, Calls Tryz.prog 131 #[.int .i64 k] w fun e w' => e = .returned (.float .f64 (fB k)) ∧ w' = w) := fun k w => fromInt_any k w
  obtain ⟨r, m, hr, hc⟩ := div_any (P := Tryz.prog) w (fB k) (fB n)
  have HC := hid hc
  generalize dvB (fB k) (fB n) = d at *
  clear hc
  go_enter Tryz.func130, Tryz.ntmps130
  go_wp2_with (first
    | (go_at_call 131; refine (F.out _ _).mono ?_; rintro e w' ⟨rfl, rfl⟩))
  go_ret
  exact ⟨r, m, rfl, rfl, HC⟩
set_option maxHeartbeats 1000000 in
theorem upTo_at (k n : Int) (w : World) :
    Calls Tryz.prog 143 #[.int .i64 k, .int .i64 n] w fun e w' => e = .returned (.bool (decide (0 ≤ k) && decide (k ≤ n))) ∧ w' = w := by
  by_cases h1 : 0 ≤ k
  · by_cases h2 : k ≤ n
    · rw [decide_eq_true h1, decide_eq_true h2]
      go_enter Tryz.func143, Tryz.ntmps143
      go_wp2
      go_ret
      exact ⟨rfl, rfl⟩
    · rw [decide_eq_true h1, decide_eq_false h2]
      go_enter Tryz.func143, Tryz.ntmps143
      go_wp2
      go_ret
      exact ⟨rfl, rfl⟩
  · rw [decide_eq_false h1, Bool.false_and]
    go_enter Tryz.func143, Tryz.ntmps143
    go_wp2
    go_ret
    exact ⟨rfl, rfl⟩
/-- the point of the cube -/
def oc (f p q : Nat) : Nat × Nat × Nat := match f with
  | 0 => (4607182418800017408, p, q) | 1 => (negB p, 4607182418800017408, q) | 2 => (13830554455654793216, negB p, q) | 3 => (p, 13830554455654793216, q) | 4 => (negB q, p, 4607182418800017408) | _ => (q, p, 13830554455654793216)
theorem oc_lt {f p q : Nat} (hp : p < 18446744073709551616) (hq : q < 18446744073709551616) : (oc f p q).1 < 18446744073709551616 ∧ (oc f p q).2.1 < 18446744073709551616 ∧ (oc f p q).2.2 < 18446744073709551616 := by
  have a := negB_lt' hp
  have b := negB_lt' hq
  unfold oc
  split <;> refine ⟨?_, ?_, ?_⟩ <;> dsimp only <;> first | assumption | omega
/-- a point of a face at p, q -/
def fp (n f : Nat) (k h : Int) : P3 := pl (sc n (cC f)) (pl (sc k (cR f)) (sc h (cU f)))
theorem cn_of {p d : Nat} (hp : IsC p d) : canonB (negB p) = cn d := by
  have h := cn_canon hp.1
  rw [hp.2] at h
  exact h.symm
theorem oc_fp {n f p q : Nat} {k h : Int} (n1 : 1 ≤ n) (n2 : n ≤ 32) (hf : f < 6) (hp : IsC p (qo n k)) (hq : IsC q (qo n h)) :
    canonB (oc f p q).1 = qo n (fp n f k h).1 ∧ canonB (oc f p q).2.1 = qo n (fp n f k h).2.1 ∧ canonB (oc f p q).2.2 = qo n (fp n f k h).2.2 := by
  have e1 : canonB 4607182418800017408 = qo n n := by rw [qo_one n (by omega) n1]; decide
  have e2 : canonB 13830554455654793216 = qo n (-n) := by rw [qo_neg n1 n2, qo_one n (by omega) n1]; decide
  have e3 : canonB (negB p) = qo n (-k) := by rw [qo_neg n1 n2]; exact cn_of hp
  have e4 : canonB (negB q) = qo n (-h) := by rw [qo_neg n1 n2]; exact cn_of hq
  have e5 := hp.2
  have e6 := hq.2
  rcases six hf with rfl | rfl | rfl | rfl | rfl | rfl <;> simp only [oc, fp, pl, sc, cC, cR, cU, e1, e2, e3, e4, e5, e6] <;> refine ⟨?_, ?_, ?_⟩ <;> congr 1 <;> omega
set_option maxHeartbeats 4000000 in
theorem onCube_at (f p q : Nat) (w : World) (hf : f < 6) (hp : p < 18446744073709551616) (hq : q < 18446744073709551616) :
    Calls Tryz.prog 147 #[.int .i64 f, .float .f64 p, .float .f64 q] w fun e w' => e = .returned (.agg #[.float .f64 (oc f p q).1, .float .f64 (oc f p q).2.1, .float .f64 (oc f p q).2.2]) ∧ Below w.heap.size w w' := by
  have n0 := negFloat_eq p hp
  have n1 := negFloat_eq q hq
  clear hp hq
  rcases six hf with rfl | rfl | rfl | rfl | rfl | rfl
  all_goals
    go_enter Tryz.func147, Tryz.ntmps147
    go_wp2
    refine bodyPost_ret ?_ rfl ⟨rfl, ?_⟩
    · exact results_cell_row Tryz.results147 _ _ w.heap.size _ _ (0, 0) _ rfl (heap_alloc_new w _) Tryz.underlying130 rfl (by kernel_rfl)
    · exact bl1 w _
set_option maxHeartbeats 8000000 in
theorem point_at (n f p q : Nat) (k h : Int) (w : World) (n1 : 1 ≤ n) (n2 : n ≤ 32) (hf : f < 6) (hp : IsC p (qo n k)) (hq : IsC q (qo n h)) :
    Calls Tryz.prog 129 #[.int .i64 f, .float .f64 p, .float .f64 q] w fun e w' => e = .returned (.agg #[.float .f64 (px n (fp n f k h)), .float .f64 (py n (fp n f k h)), .float .f64 (pz n (fp n f k h))]) ∧ Below w.heap.size w w' := by
  obtain ⟨c1, c2, c3⟩ := oc_fp n1 n2 hf hp hq
  obtain ⟨l1, l2, l3⟩ := oc_lt (f := f) hp.1 hq.1
  have OC := hid (fun w => onCube_at f p q w hf hp.1 hq.1)
  have UN := hid (fun w => unit_at _ _ _ w (qo_lt n (fp n f k h).1) (qo_lt n (fp n f k h).2.1) (qo_lt n (fp n f k h).2.2))
  have T0 := hid (fun u0 => canon_any _ u0 l1)
  have T1 := hid (fun u0 => canon_any _ u0 l2)
  have T2 := hid (fun u0 => canon_any _ u0 l3)
  rw [c1] at T0
  rw [c2] at T1
  rw [c3] at T2
  have hux : unB (lnB (qo n (fp n f k h).1) (qo n (fp n f k h).2.1) (qo n (fp n f k h).2.2)) (qo n (fp n f k h).1) = px n (fp n f k h) := rfl
  have huy : unB (lnB (qo n (fp n f k h).1) (qo n (fp n f k h).2.1) (qo n (fp n f k h).2.2)) (qo n (fp n f k h).2.1) = py n (fp n f k h) := rfl
  have huz : unB (lnB (qo n (fp n f k h).1) (qo n (fp n f k h).2.1) (qo n (fp n f k h).2.2)) (qo n (fp n f k h).2.2) = pz n (fp n f k h) := rfl
  rw [hux, huy, huz] at UN
  clear hux huy huz c1 c2 c3 l1 l2 l3 hp hq n1 n2 hf
  generalize px n (fp n f k h) = a at *
  generalize py n (fp n f k h) = b at *
  generalize pz n (fp n f k h) = c at *
  generalize qo n (fp n f k h).1 = d0 at *
  generalize qo n (fp n f k h).2.1 = d1 at *
  generalize qo n (fp n f k h).2.2 = d2 at *
  generalize (oc f p q).1 = x at *
  generalize (oc f p q).2.1 = y at *
  generalize (oc f p q).2.2 = z at *
  have A0 := hid (bl1 w (.cells #[.float .f64 0, .float .f64 0, .float .f64 0] 130))
  have R0 := hid (heap_alloc_new w (.cells #[.float .f64 0, .float .f64 0, .float .f64 0] 130))
  go_enter Tryz.func129, Tryz.ntmps129
  go_wp2_with fail
  refine (OC.out _).mono ?_
  rintro e v ⟨rfl, b1⟩
  have A1 : Hid (Ab w v) := Ab.call A0.out b1
  have R1 : Hid (v.heap[w.heap.size]? = some (.cells #[.float .f64 0, .float .f64 0, .float .f64 0] 130)) := Ab.heap b1 R0.out
  have hlt : w.heap.size < v.heap.size := by have := b1.size; simp at this; omega
  clear b1 A0 R0 OC
  go_upto_region 2 with fail
  generalize hW : World.alloc _ _ = W
  have AW : Hid (Ab w W) := by rw [← hW]; exact A1.out.call (bl1 _ _)
  have ra : W.heap[v.heap.size]? = some (.cells #[.float .f64 x, .float .f64 y, .float .f64 z] 130) := by rw [← hW]; exact heap_alloc_new _ _
  have rc : W.heap[w.heap.size]? = some (.cells #[.float .f64 0, .float .f64 0, .float .f64 0] 130) := by rw [← hW, Below.heap_alloc _ _ _ hlt]; exact R1.out
  have KS : Hid (∀ w', Abx W w.heap.size 3 130 w' → Abx W w.heap.size 3 130 w' ∧ w'.cell? ⟨v.heap.size, 0, none⟩ = some (.float .f64 x) ∧ w'.cell? ⟨v.heap.size, 1, none⟩ = some (.float .f64 y) ∧ w'.cell? ⟨v.heap.size, 2, none⟩ = some (.float .f64 z) ∧ w'.frozen? ⟨w.heap.size, 0, none⟩ = false ∧ w'.frozen? ⟨w.heap.size, 1, none⟩ = false ∧ w'.frozen? ⟨w.heap.size, 2, none⟩ = false ∧ w'.cell? ⟨w.heap.size, 0, none⟩ = some (rv w' (w.heap.size) 0) ∧ w'.cell? ⟨w.heap.size, 1, none⟩ = some (rv w' (w.heap.size) 1) ∧ w'.cell? ⟨w.heap.size, 2, none⟩ = some (rv w' (w.heap.size) 2)) := by
    intro w' hw
    obtain ⟨-, p3, p4, p5⟩ := rowfacts (hw.heap (by omega) ra)
    exact ⟨hw, p3, p4, p5, hw.free 0, hw.free 1, hw.free 2, hw.some (by omega), hw.some (by omega), hw.some (by omega)⟩
  have A3 : Abx W w.heap.size 3 130 W := (Ab.refl W).x rfl rc
  clear ra rc hW A1 R1
  go_region_held3 (fun w' => Abx W w.heap.size 3 130 w' ∧ w'.cell? ⟨v.heap.size, 0, none⟩ = some (.float .f64 x) ∧ w'.cell? ⟨v.heap.size, 1, none⟩ = some (.float .f64 y) ∧ w'.cell? ⟨v.heap.size, 2, none⟩ = some (.float .f64 z) ∧ w'.frozen? ⟨w.heap.size, 0, none⟩ = false ∧ w'.frozen? ⟨w.heap.size, 1, none⟩ = false ∧ w'.frozen? ⟨w.heap.size, 2, none⟩ = false ∧ w'.cell? ⟨w.heap.size, 0, none⟩ = some (rv w' (w.heap.size) 0) ∧ w'.cell? ⟨w.heap.size, 1, none⟩ = some (rv w' (w.heap.size) 1) ∧ w'.cell? ⟨w.heap.size, 2, none⟩ = some (rv w' (w.heap.size) 2)) ((refine KS.out _ ?_; (with_reducible (repeat (first | assumption | apply Abx.drew | apply Abx.drewN | apply Abx.set | (refine Abx.call ?_ (by assumption))))); done)) (first
    | (go_at_call_of 101 x; refine (T0.out _).mono ?_; rintro e w1 ⟨rfl, rfl⟩)
    | (go_at_call_of 101 y; refine (T1.out _).mono ?_; rintro e w2 ⟨rfl, rfl⟩)
    | (go_at_call_of 101 z; refine (T2.out _).mono ?_; rintro e w3 ⟨rfl, rfl⟩)
    | (go_at_call 148; refine (UN.out _).mono ?_; rintro e w4 ⟨rfl, b4⟩))
  have A2 : Abx W w.heap.size 3 130 w4 := Abx.call (A3.drew) b4
  clear KS A3 b4
  go_wp2
  refine bodyPost_ret ?_ rfl ⟨rfl, ?_⟩
  · exact results_cell_row Tryz.results129 _ _ (w.heap.size) _ _ (0, 0) _ rfl (set3 A2) Tryz.underlying130 rfl (by kernel_rfl)
  · exact (((A2.set 0 _).set 1 _).set 2 _).ab AW.out (by omega)
theorem cr_fp (n f i j : Nat) : cr n f i j = fp n f (2 * i - n) (2 * j - n) := rfl
theorem md_fp (n f i j : Nat) : md n f i j = fp n f (2 * i + 1 - n) (2 * j + 1 - n) := rfl
set_option maxHeartbeats 4000000 in
theorem corner_ok (n f i j : Nat) (w : World) (hn : 1 ≤ n ∧ n ≤ 32) (hf : f < 6) (hi : i ≤ n) (hj : j ≤ n) :
    Calls Tryz.prog 121 #[.int .i64 n, .int .i64 f, .int .i64 i, .int .i64 j] w fun e w' => e = .returned (.tuple #[.agg #[.float .f64 (px n (cr n f i j)), .float .f64 (py n (cr n f i j)), .float .f64 (pz n (cr n f i j))], .bool true]) ∧ Below w.heap.size w w' := by
  have CE : Hid (∀ u, Calls Tryz.prog 87 #[.int .i64 n, .int .i64 f, .int .i64 0, .int .i64 0] u fun e w' => e = .returned (.int .i64 (nm n f 0 0 : Nat)) ∧ w' = u) := fun u => by
    have h := cell_at n f 0 0 u
    rw [show (0 : Int) = ((0 : Nat) : Int) from rfl, cN_nat hn hf (by omega) (by omega)] at h
    exact h
  have U1 : Hid (∀ u, Calls Tryz.prog 143 #[.int .i64 i, .int .i64 n] u fun e w' => e = .returned (.bool true) ∧ w' = u) := fun u => by
    have h := upTo_at i n u
    rw [decide_eq_true (show (0 : Int) ≤ i by omega), decide_eq_true (show (i : Int) ≤ n by omega)] at h
    exact h
  have U2 : Hid (∀ u, Calls Tryz.prog 143 #[.int .i64 j, .int .i64 n] u fun e w' => e = .returned (.bool true) ∧ w' = u) := fun u => by
    have h := upTo_at j n u
    rw [decide_eq_true (show (0 : Int) ≤ j by omega), decide_eq_true (show (j : Int) ≤ n by omega)] at h
    exact h
  have PA : Hid (∀ (k : Int) u, Calls Tryz.prog 130 #[.int .i64 k, .int .i64 n] u fun e w' => ∃ r m, e = .returned (.float .f64 r) ∧ w' = u.drewN m ∧ Hid (IsC r (qo n k))) := fun k u => part_at k n u
  have PO : Hid (∀ p q u, Hid (IsC p (qo n (2 * i - n))) → Hid (IsC q (qo n (2 * j - n))) → Calls Tryz.prog 129 #[.int .i64 f, .float .f64 p, .float .f64 q] u fun e w' => e = .returned (.agg #[.float .f64 (px n (cr n f i j)), .float .f64 (py n (cr n f i j)), .float .f64 (pz n (cr n f i j))]) ∧ Below u.heap.size u w') := fun p q u hp hq => point_at n f p q _ _ u hn.1 hn.2 hf hp hq
  generalize px n (cr n f i j) = a at *
  generalize py n (cr n f i j) = b at *
  generalize pz n (cr n f i j) = c at *
  have A0 := hid (bl1 w (.cells #[.float .f64 0, .float .f64 0, .float .f64 0] 130))
  have R0 := hid (heap_alloc_new w (.cells #[.float .f64 0, .float .f64 0, .float .f64 0] 130))
  have hnm : nm n f 0 0 < 6 * n * n := nm_lt hf (by omega) (by omega)
  have hpos : (0 : Int) ≤ (nm n f 0 0 : Nat) := by omega
  generalize ((nm n f 0 0 : Nat) : Int) = nn at *
  have hi2 : (i : Int) ≤ 32 := by omega
  have hj2 : (j : Int) ≤ 32 := by omega
  have hn2 : (n : Int) ≤ 32 := by omega
  clear hnm hn hf hi hj
  go_enter Tryz.func121, Tryz.ntmps121
  go_wp2_with (first
    | (go_at_call 87; refine (CE.out _).mono ?_; rintro e w' ⟨rfl, rfl⟩)
    | (go_at_call_of 143 (i : Int); refine (U1.out _).mono ?_; rintro e w' ⟨rfl, rfl⟩)
    | (go_at_call_of 143 (j : Int); refine (U2.out _).mono ?_; rintro e w' ⟨rfl, rfl⟩))
  refine (PA.out _ _).mono ?_
  rintro e w1 ⟨p, m1, rfl, rfl, hp⟩
  go_wp2_with fail
  refine (PA.out _ _).mono ?_
  rintro e w1 ⟨q, m2, rfl, rfl, hq⟩
  go_wp2_with fail
  refine (PO.out _ _ _ hp hq).mono ?_
  rintro e w3 ⟨rfl, b3⟩
  have A3 : Hid (Ab w w3) := Ab.call (Ab.drewN A0.out _) b3
  have r0 : w3.heap[w.heap.size]? = some (.cells #[.float .f64 0, .float .f64 0, .float .f64 0] 130) := Ab.heap b3 R0.out
  obtain ⟨⟨o0, o1, o2⟩, o3, o4, o5⟩ := rowfacts r0
  have R3 := hid r0
  clear r0 b3 A0 R0
  go_wp2
  refine bodyPost_ret ?_ rfl ⟨rfl, ?_⟩
  · exact res_two Tryz.results121 _ _ w.heap.size _ _ (0, 0) _ _ rfl rfl (row3 R3.out) Tryz.underlying130 rfl (by kernel_rfl)
  · exact ((Ab.setk A3.out (by omega) _).setk (by omega) _).setk (by omega) _
set_option maxHeartbeats 4000000 in
theorem corner_no (n f i j : Int) (w : World) (h : ¬ ((1 ≤ n ∧ n ≤ 32) ∧ (0 ≤ f ∧ f < 6) ∧ (0 ≤ i ∧ i ≤ n) ∧ (0 ≤ j ∧ j ≤ n))) :
    Calls Tryz.prog 121 #[.int .i64 n, .int .i64 f, .int .i64 i, .int .i64 j] w fun e w' => e = .returned (.tuple #[.agg #[.float .f64 0, .float .f64 0, .float .f64 0], .bool false]) ∧ Below w.heap.size w w' := by
  have CE := hid (fun u => cell_at n f 0 0 u)
  have hc : (¬ ((1 ≤ n ∧ n ≤ 32) ∧ (0 ≤ f ∧ f < 6)) ∧ cN n f 0 0 = -1) ∨ (((1 ≤ n ∧ n ≤ 32) ∧ (0 ≤ f ∧ f < 6)) ∧ 0 ≤ cN n f 0 0) := by
    by_cases k : (1 ≤ n ∧ n ≤ 32) ∧ (0 ≤ f ∧ f < 6)
    · refine .inr ⟨k, ?_⟩
      unfold cN
      split
      · have := (cN_le (j := 0) k.1.1 k.1.2 k.2.1 k.2.2 (by omega) (by omega)).2.1; omega
      · rename_i c
        exact absurd ⟨k.1, by rw [inR_iff]; omega, by rw [inR_iff]; omega, by rw [inR_iff]; omega⟩ c
    · refine .inl ⟨k, ?_⟩
      unfold cN
      rw [if_neg]
      rintro ⟨c1, c2, -, -⟩
      rw [inR_iff] at c2
      exact k ⟨c1, c2⟩
  generalize cN n f 0 0 = nn at *
  have R0 := hid (heap_alloc_new w (.cells #[.float .f64 0, .float .f64 0, .float .f64 0] 130))
  rcases hc with ⟨-, rfl⟩ | ⟨k, hpos⟩
  · clear h
    go_enter Tryz.func121, Tryz.ntmps121
    go_wp2_with (first
      | (go_at_call 87; refine (CE.out _).mono ?_; rintro e w' ⟨rfl, rfl⟩))
    refine bodyPost_ret ?_ rfl ⟨rfl, bl1 w _⟩
    exact res_two Tryz.results121 _ _ w.heap.size _ _ (0, 0) _ _ rfl rfl (heap_alloc_new w _) Tryz.underlying130 rfl (by kernel_rfl)
  · by_cases ki : 0 ≤ i ∧ i ≤ n
    · have kj : ¬ (0 ≤ j ∧ j ≤ n) := fun kj => h ⟨k.1, k.2, ki, kj⟩
      have U1 : Hid (∀ u, Calls Tryz.prog 143 #[.int .i64 i, .int .i64 n] u fun e w' => e = .returned (.bool true) ∧ w' = u) := fun u => by
        have h := upTo_at i n u
        rw [decide_eq_true ki.1, decide_eq_true ki.2] at h
        exact h
      have U2 : Hid (∀ u, Calls Tryz.prog 143 #[.int .i64 j, .int .i64 n] u fun e w' => e = .returned (.bool false) ∧ w' = u) := fun u => by
        have h := upTo_at j n u
        rw [← Bool.decide_and, decide_eq_false kj] at h
        exact h
      have hk1 := hid k
      clear h ki kj k
      go_enter Tryz.func121, Tryz.ntmps121
      go_wp2_with (first
        | (go_at_call 87; refine (CE.out _).mono ?_; rintro e w' ⟨rfl, rfl⟩)
        | (go_at_call_of 143 i; refine (U1.out _).mono ?_; rintro e w' ⟨rfl, rfl⟩)
        | (go_at_call_of 143 j; refine (U2.out _).mono ?_; rintro e w' ⟨rfl, rfl⟩))
      refine bodyPost_ret ?_ rfl ⟨rfl, bl1 w _⟩
      exact res_two Tryz.results121 _ _ w.heap.size _ _ (0, 0) _ _ rfl rfl (heap_alloc_new w _) Tryz.underlying130 rfl (by kernel_rfl)
    · have U1 : Hid (∀ u, Calls Tryz.prog 143 #[.int .i64 i, .int .i64 n] u fun e w' => e = .returned (.bool false) ∧ w' = u) := fun u => by
        have h := upTo_at i n u
        rw [← Bool.decide_and, decide_eq_false ki] at h
        exact h
      clear h ki k
      go_enter Tryz.func121, Tryz.ntmps121
      go_wp2_with (first
        | (go_at_call 87; refine (CE.out _).mono ?_; rintro e w' ⟨rfl, rfl⟩)
        | (go_at_call_of 143 i; refine (U1.out _).mono ?_; rintro e w' ⟨rfl, rfl⟩))
      refine bodyPost_ret ?_ rfl ⟨rfl, bl1 w _⟩
      exact res_two Tryz.results121 _ _ w.heap.size _ _ (0, 0) _ _ rfl rfl (heap_alloc_new w _) Tryz.underlying130 rfl (by kernel_rfl)
set_option maxHeartbeats 4000000 in
theorem middle_ok (n c : Nat) (w : World) (hn : 1 ≤ n ∧ n ≤ 32) (hc : c < 6 * n * n) :
    Calls Tryz.prog 95 #[.int .i64 n, .int .i64 c] w fun e w' => e = .returned (.tuple #[.agg #[.float .f64 (px n (MD n c)), .float .f64 (py n (MD n c)), .float .f64 (pz n (MD n c))], .bool true]) ∧ Below w.heap.size w w' := by
  obtain ⟨h1, h2, h3, -⟩ := dec_lt hn.1 hc
  have PL := hid (fun u => place_ok n c hn hc u)
  have PA : Hid (∀ (k : Int) u, Calls Tryz.prog 130 #[.int .i64 k, .int .i64 n] u fun e w' => ∃ r m, e = .returned (.float .f64 r) ∧ w' = u.drewN m ∧ Hid (IsC r (qo n k))) := fun k u => part_at k n u
  have PO : Hid (∀ p q u, Hid (IsC p (qo n (2 * (ci n c : Nat) + 1 - n))) → Hid (IsC q (qo n (2 * (cj n c : Nat) + 1 - n))) → Calls Tryz.prog 129 #[.int .i64 (cf n c : Nat), .float .f64 p, .float .f64 q] u fun e w' => e = .returned (.agg #[.float .f64 (px n (MD n c)), .float .f64 (py n (MD n c)), .float .f64 (pz n (MD n c))]) ∧ Below u.heap.size u w') := fun p q u hp hq => point_at n _ p q _ _ u hn.1 hn.2 h1 hp hq
  generalize px n (MD n c) = a at *
  generalize py n (MD n c) = b at *
  generalize pz n (MD n c) = d at *
  generalize cf n c = f at *
  have hi : ((ci n c : Nat) : Int) ≤ 32 := by omega
  have hj : ((cj n c : Nat) : Int) ≤ 32 := by omega
  have hn2 : (n : Int) ≤ 32 := by omega
  generalize ci n c = i at *
  generalize cj n c = j at *
  clear hn hc h1 h2 h3
  have A0 := hid (bl1 w (.cells #[.float .f64 0, .float .f64 0, .float .f64 0] 130))
  have R0 := hid (heap_alloc_new w (.cells #[.float .f64 0, .float .f64 0, .float .f64 0] 130))
  go_enter Tryz.func95, Tryz.ntmps95
  go_wp2_with fail
  refine (PL.out _).mono ?_
  rintro e w1 ⟨rfl, m0, rfl⟩
  go_wp2_with fail
  refine (PA.out _ _).mono ?_
  rintro e w1 ⟨p, m1, rfl, rfl, hp⟩
  go_wp2_with fail
  refine (PA.out _ _).mono ?_
  rintro e w1 ⟨q, m2, rfl, rfl, hq⟩
  go_wp2_with fail
  refine (PO.out _ _ _ hp hq).mono ?_
  rintro e w3 ⟨rfl, b3⟩
  have A3 : Hid (Ab w w3) := Ab.call (Ab.drewN A0.out _) b3
  have r0 : w3.heap[w.heap.size]? = some (.cells #[.float .f64 0, .float .f64 0, .float .f64 0] 130) := Ab.heap b3 R0.out
  obtain ⟨⟨o0, o1, o2⟩, o3, o4, o5⟩ := rowfacts r0
  have R3 := hid r0
  clear r0 b3 A0 R0
  go_wp2
  refine bodyPost_ret ?_ rfl ⟨rfl, ?_⟩
  · exact res_two Tryz.results95 _ _ w.heap.size _ _ (0, 0) _ _ rfl rfl (row3 R3.out) Tryz.underlying130 rfl (by kernel_rfl)
  · exact ((Ab.setk A3.out (by omega) _).setk (by omega) _).setk (by omega) _
set_option maxHeartbeats 2000000 in
theorem middle_no (n c : Int) (w : World) (h : inR c (clN n) = false) :
    Calls Tryz.prog 95 #[.int .i64 n, .int .i64 c] w fun e w' => e = .returned (.tuple #[.agg #[.float .f64 0, .float .f64 0, .float .f64 0], .bool false]) ∧ Below w.heap.size w w' := by
  have PL := hid (fun u => place_at n c u)
  rw [h] at PL
  generalize pF n c = f at *
  generalize pI n c = i at *
  generalize pJ n c = j at *
  clear h
  go_enter Tryz.func95, Tryz.ntmps95
  go_wp2_with fail
  refine (PL.out _).mono ?_
  rintro e w1 ⟨rfl, m0, rfl⟩
  have r0 : (World.drewN (w.alloc (.cells #[.float .f64 0, .float .f64 0, .float .f64 0] 130)) m0).heap[w.heap.size]? = some (.cells #[.float .f64 0, .float .f64 0, .float .f64 0] 130) := heap_alloc_new _ _
  obtain ⟨⟨o0, o1, o2⟩, o3, o4, o5⟩ := rowfacts r0
  have R3 := hid r0
  clear r0
  go_wp2
  refine bodyPost_ret ?_ rfl ⟨rfl, ?_⟩
  · exact res_two Tryz.results95 _ _ w.heap.size _ _ (0, 0) _ _ rfl rfl (row3 R3.out) Tryz.underlying130 rfl (by kernel_rfl)
  · exact (((Ab.drewN (bl1 w _) m0).setk (by omega) _).setk (by omega) _).setk (by omega) _
end Go.Proofs.YtgeipbegpflkhaaGreatDoor

/-
  A cell's corners, its area, the lengths of its sides and its gaps: walks over the program.
-/
namespace Go.Proofs.YtgeipbegpflkhaaGreatDoor
open Go.RowKit Tf Cu
attribute [local go_sem] run_bits run_from raw_feq raw_fne raw_flt raw_fgt run_neg run_store_float
theorem cells12 {w : World} {g : Nat} {v0 v1 v2 v3 v4 v5 v6 v7 v8 v9 v10 v11 : Value} {T : TypeId} (r : w.heap[g]? = some (.cells #[v0, v1, v2, v3, v4, v5, v6, v7, v8, v9, v10, v11] T)) :
    w.cell? ⟨g, 0, none⟩ = some v0 ∧ w.cell? ⟨g, 1, none⟩ = some v1 ∧ w.cell? ⟨g, 2, none⟩ = some v2 ∧ w.cell? ⟨g, 3, none⟩ = some v3 ∧ w.cell? ⟨g, 4, none⟩ = some v4 ∧ w.cell? ⟨g, 5, none⟩ = some v5 ∧ w.cell? ⟨g, 6, none⟩ = some v6 ∧ w.cell? ⟨g, 7, none⟩ = some v7 ∧ w.cell? ⟨g, 8, none⟩ = some v8 ∧ w.cell? ⟨g, 9, none⟩ = some v9 ∧ w.cell? ⟨g, 10, none⟩ = some v10 ∧ w.cell? ⟨g, 11, none⟩ = some v11 :=
  ⟨cell_of_row _ _ 0 _ _ _ r, cell_of_row _ _ 1 _ _ _ r, cell_of_row _ _ 2 _ _ _ r, cell_of_row _ _ 3 _ _ _ r, cell_of_row _ _ 4 _ _ _ r, cell_of_row _ _ 5 _ _ _ r, cell_of_row _ _ 6 _ _ _ r, cell_of_row _ _ 7 _ _ _ r, cell_of_row _ _ 8 _ _ _ r, cell_of_row _ _ 9 _ _ _ r, cell_of_row _ _ 10 _ _ _ r, cell_of_row _ _ 11 _ _ _ r⟩
theorem free12 {w : World} {g : Nat} {v0 v1 v2 v3 v4 v5 v6 v7 v8 v9 v10 v11 : Value} {T : TypeId} (r : w.heap[g]? = some (.cells #[v0, v1, v2, v3, v4, v5, v6, v7, v8, v9, v10, v11] T)) :
    w.frozen? ⟨g, 0, none⟩ = false ∧ w.frozen? ⟨g, 1, none⟩ = false ∧ w.frozen? ⟨g, 2, none⟩ = false ∧ w.frozen? ⟨g, 3, none⟩ = false ∧ w.frozen? ⟨g, 4, none⟩ = false ∧ w.frozen? ⟨g, 5, none⟩ = false ∧ w.frozen? ⟨g, 6, none⟩ = false ∧ w.frozen? ⟨g, 7, none⟩ = false ∧ w.frozen? ⟨g, 8, none⟩ = false ∧ w.frozen? ⟨g, 9, none⟩ = false ∧ w.frozen? ⟨g, 10, none⟩ = false ∧ w.frozen? ⟨g, 11, none⟩ = false :=
  ⟨free_row r 0, free_row r 1, free_row r 2, free_row r 3, free_row r 4, free_row r 5, free_row r 6, free_row r 7, free_row r 8, free_row r 9, free_row r 10, free_row r 11⟩
theorem put12_0 {w : World} {g : Nat} {v0 v1 v2 v3 v4 v5 v6 v7 v8 v9 v10 v11 x y z : Value} {T : TypeId} (h : w.heap[g]? = some (.cells #[v0, v1, v2, v3, v4, v5, v6, v7, v8, v9, v10, v11] T)) :
    (((w.setCell ⟨g, 0, none⟩ x).setCell ⟨g, 1, none⟩ y).setCell ⟨g, 2, none⟩ z).heap[g]? = some (.cells #[x, y, z, v3, v4, v5, v6, v7, v8, v9, v10, v11] T) := by
  have h1 := one_set (v := x) (k := 0) h
  have h2 := one_set (v := y) (k := 1) h1
  have h3 := one_set (v := z) (k := 2) h2
  simpa using h3
theorem put12_1 {w : World} {g : Nat} {v0 v1 v2 v3 v4 v5 v6 v7 v8 v9 v10 v11 x y z : Value} {T : TypeId} (h : w.heap[g]? = some (.cells #[v0, v1, v2, v3, v4, v5, v6, v7, v8, v9, v10, v11] T)) :
    (((w.setCell ⟨g, 3, none⟩ x).setCell ⟨g, 4, none⟩ y).setCell ⟨g, 5, none⟩ z).heap[g]? = some (.cells #[v0, v1, v2, x, y, z, v6, v7, v8, v9, v10, v11] T) := by
  have h1 := one_set (v := x) (k := 3) h
  have h2 := one_set (v := y) (k := 4) h1
  have h3 := one_set (v := z) (k := 5) h2
  simpa using h3
theorem put12_2 {w : World} {g : Nat} {v0 v1 v2 v3 v4 v5 v6 v7 v8 v9 v10 v11 x y z : Value} {T : TypeId} (h : w.heap[g]? = some (.cells #[v0, v1, v2, v3, v4, v5, v6, v7, v8, v9, v10, v11] T)) :
    (((w.setCell ⟨g, 6, none⟩ x).setCell ⟨g, 7, none⟩ y).setCell ⟨g, 8, none⟩ z).heap[g]? = some (.cells #[v0, v1, v2, v3, v4, v5, x, y, z, v9, v10, v11] T) := by
  have h1 := one_set (v := x) (k := 6) h
  have h2 := one_set (v := y) (k := 7) h1
  have h3 := one_set (v := z) (k := 8) h2
  simpa using h3
theorem put12_3 {w : World} {g : Nat} {v0 v1 v2 v3 v4 v5 v6 v7 v8 v9 v10 v11 x y z : Value} {T : TypeId} (h : w.heap[g]? = some (.cells #[v0, v1, v2, v3, v4, v5, v6, v7, v8, v9, v10, v11] T)) :
    (((w.setCell ⟨g, 9, none⟩ x).setCell ⟨g, 10, none⟩ y).setCell ⟨g, 11, none⟩ z).heap[g]? = some (.cells #[v0, v1, v2, v3, v4, v5, v6, v7, v8, x, y, z] T) := by
  have h1 := one_set (v := x) (k := 9) h
  have h2 := one_set (v := y) (k := 10) h1
  have h3 := one_set (v := z) (k := 11) h2
  simpa using h3
theorem nat_cell {n c : Int} (h : inR c (clN n) = true) : ∃ m d : Nat, n = m ∧ c = d ∧ (1 ≤ m ∧ m ≤ 32) ∧ d < 6 * m * m := by
  obtain ⟨⟨h1, h2⟩, h3, h4, h5⟩ := clN_pos h
  obtain ⟨m, rfl⟩ : ∃ m : Nat, n = m := ⟨n.toNat, by omega⟩
  obtain ⟨d, rfl⟩ : ∃ d : Nat, c = d := ⟨c.toNat, by omega⟩
  refine ⟨m, d, rfl, rfl, ⟨by omega, by omega⟩, ?_⟩
  have e : (6 * (m : Int) * m) = ((6 * m * m : Nat) : Int) := by simp
  rw [e] at h4
  omega
theorem other3 {w : World} {g h a b c : Nat} {x y z : Value} {o : Obj} (hne : h ≠ g) (hh : w.heap[h]? = some o) : (((w.setCell ⟨g, a, none⟩ x).setCell ⟨g, b, none⟩ y).setCell ⟨g, c, none⟩ z).heap[h]? = some o := by
  rw [Below.heap_setCell _ _ _ _ hne, Below.heap_setCell _ _ _ _ hne, Below.heap_setCell _ _ _ _ hne]; exact hh
set_option maxRecDepth 10000 in
set_option maxHeartbeats 8000000 in
theorem corners_ok (n c : Nat) (w : World) (hn : 1 ≤ n ∧ n ≤ 32) (hc : c < 6 * n * n) :
    Calls Tryz.prog 89 #[.int .i64 n, .int .i64 c] w fun e w' => e = .returned (.tuple #[.agg #[.float .f64 (px n (cr n (cf n c) (ci n c) (cj n c))), .float .f64 (py n (cr n (cf n c) (ci n c) (cj n c))), .float .f64 (pz n (cr n (cf n c) (ci n c) (cj n c))), .float .f64 (px n (cr n (cf n c) (ci n c + 1) (cj n c))), .float .f64 (py n (cr n (cf n c) (ci n c + 1) (cj n c))), .float .f64 (pz n (cr n (cf n c) (ci n c + 1) (cj n c))), .float .f64 (px n (cr n (cf n c) (ci n c + 1) (cj n c + 1))), .float .f64 (py n (cr n (cf n c) (ci n c + 1) (cj n c + 1))), .float .f64 (pz n (cr n (cf n c) (ci n c + 1) (cj n c + 1))), .float .f64 (px n (cr n (cf n c) (ci n c) (cj n c + 1))), .float .f64 (py n (cr n (cf n c) (ci n c) (cj n c + 1))), .float .f64 (pz n (cr n (cf n c) (ci n c) (cj n c + 1)))], .bool true]) ∧ Below w.heap.size w w' := by
  obtain ⟨h1, h2, h3, -⟩ := dec_lt hn.1 hc
  have PL := hid (fun u => place_ok n c hn hc u)
  have K0 : Hid (∀ u, Calls Tryz.prog 121 #[.int .i64 n, .int .i64 (cf n c : Nat), .int .i64 (ci n c : Nat), .int .i64 (cj n c : Nat)] u fun e w' => e = .returned (.tuple #[.agg #[.float .f64 (px n (cr n (cf n c) (ci n c) (cj n c))), .float .f64 (py n (cr n (cf n c) (ci n c) (cj n c))), .float .f64 (pz n (cr n (cf n c) (ci n c) (cj n c)))], .bool true]) ∧ Below u.heap.size u w') := fun u => corner_ok n (cf n c) (ci n c) (cj n c) u hn h1 (by omega) (by omega)
  have K1 : Hid (∀ u, Calls Tryz.prog 121 #[.int .i64 n, .int .i64 (cf n c : Nat), .int .i64 ((ci n c : Nat) + 1), .int .i64 (cj n c : Nat)] u fun e w' => e = .returned (.tuple #[.agg #[.float .f64 (px n (cr n (cf n c) (ci n c + 1) (cj n c))), .float .f64 (py n (cr n (cf n c) (ci n c + 1) (cj n c))), .float .f64 (pz n (cr n (cf n c) (ci n c + 1) (cj n c)))], .bool true]) ∧ Below u.heap.size u w') := fun u => corner_ok n (cf n c) (ci n c + 1) (cj n c) u hn h1 (by omega) (by omega)
  have K2 : Hid (∀ u, Calls Tryz.prog 121 #[.int .i64 n, .int .i64 (cf n c : Nat), .int .i64 ((ci n c : Nat) + 1), .int .i64 ((cj n c : Nat) + 1)] u fun e w' => e = .returned (.tuple #[.agg #[.float .f64 (px n (cr n (cf n c) (ci n c + 1) (cj n c + 1))), .float .f64 (py n (cr n (cf n c) (ci n c + 1) (cj n c + 1))), .float .f64 (pz n (cr n (cf n c) (ci n c + 1) (cj n c + 1)))], .bool true]) ∧ Below u.heap.size u w') := fun u => corner_ok n (cf n c) (ci n c + 1) (cj n c + 1) u hn h1 (by omega) (by omega)
  have K3 : Hid (∀ u, Calls Tryz.prog 121 #[.int .i64 n, .int .i64 (cf n c : Nat), .int .i64 (ci n c : Nat), .int .i64 ((cj n c : Nat) + 1)] u fun e w' => e = .returned (.tuple #[.agg #[.float .f64 (px n (cr n (cf n c) (ci n c) (cj n c + 1))), .float .f64 (py n (cr n (cf n c) (ci n c) (cj n c + 1))), .float .f64 (pz n (cr n (cf n c) (ci n c) (cj n c + 1)))], .bool true]) ∧ Below u.heap.size u w') := fun u => corner_ok n (cf n c) (ci n c) (cj n c + 1) u hn h1 (by omega) (by omega)
  generalize px n (cr n (cf n c) (ci n c) (cj n c)) = a0 at *
  generalize py n (cr n (cf n c) (ci n c) (cj n c)) = b0 at *
  generalize pz n (cr n (cf n c) (ci n c) (cj n c)) = d0 at *
  generalize px n (cr n (cf n c) (ci n c + 1) (cj n c)) = a1 at *
  generalize py n (cr n (cf n c) (ci n c + 1) (cj n c)) = b1 at *
  generalize pz n (cr n (cf n c) (ci n c + 1) (cj n c)) = d1 at *
  generalize px n (cr n (cf n c) (ci n c + 1) (cj n c + 1)) = a2 at *
  generalize py n (cr n (cf n c) (ci n c + 1) (cj n c + 1)) = b2 at *
  generalize pz n (cr n (cf n c) (ci n c + 1) (cj n c + 1)) = d2 at *
  generalize px n (cr n (cf n c) (ci n c) (cj n c + 1)) = a3 at *
  generalize py n (cr n (cf n c) (ci n c) (cj n c + 1)) = b3 at *
  generalize pz n (cr n (cf n c) (ci n c) (cj n c + 1)) = d3 at *
  have hi : ((ci n c : Nat) : Int) ≤ 32 := by omega
  have hj : ((cj n c : Nat) : Int) ≤ 32 := by omega
  generalize cf n c = f at *
  generalize ci n c = i at *
  generalize cj n c = j at *
  clear hn hc h1 h2 h3
  have A0 := hid (bl2 w (.cells #[.float .f64 0, .float .f64 0, .float .f64 0, .float .f64 0, .float .f64 0, .float .f64 0, .float .f64 0, .float .f64 0, .float .f64 0, .float .f64 0, .float .f64 0, .float .f64 0] 131) (.cells #[.float .f64 0, .float .f64 0, .float .f64 0, .float .f64 0, .float .f64 0, .float .f64 0, .float .f64 0, .float .f64 0, .float .f64 0, .float .f64 0, .float .f64 0, .float .f64 0] 131))
  have R0 := hid (And.intro (heap_alloc2_old w (.cells #[.float .f64 0, .float .f64 0, .float .f64 0, .float .f64 0, .float .f64 0, .float .f64 0, .float .f64 0, .float .f64 0, .float .f64 0, .float .f64 0, .float .f64 0, .float .f64 0] 131) (.cells #[.float .f64 0, .float .f64 0, .float .f64 0, .float .f64 0, .float .f64 0, .float .f64 0, .float .f64 0, .float .f64 0, .float .f64 0, .float .f64 0, .float .f64 0, .float .f64 0] 131)) (heap_alloc2_new w (.cells #[.float .f64 0, .float .f64 0, .float .f64 0, .float .f64 0, .float .f64 0, .float .f64 0, .float .f64 0, .float .f64 0, .float .f64 0, .float .f64 0, .float .f64 0, .float .f64 0] 131) (.cells #[.float .f64 0, .float .f64 0, .float .f64 0, .float .f64 0, .float .f64 0, .float .f64 0, .float .f64 0, .float .f64 0, .float .f64 0, .float .f64 0, .float .f64 0, .float .f64 0] 131)))
  go_enter Tryz.func89, Tryz.ntmps89
  go_wp2_with fail
  refine (PL.out _).mono ?_
  rintro e w1 ⟨rfl, m0, rfl⟩
  go_wp2_with fail
  refine (K0.out _).mono ?_
  rintro e u0 ⟨rfl, b0⟩
  have B0 : Hid (Ab w u0) := Ab.call (Ab.drewN A0.out _) b0
  have G0 : Hid (u0.heap[w.heap.size]? = some (.cells #[.float .f64 0, .float .f64 0, .float .f64 0, .float .f64 0, .float .f64 0, .float .f64 0, .float .f64 0, .float .f64 0, .float .f64 0, .float .f64 0, .float .f64 0, .float .f64 0] 131)) := Ab.heap b0 R0.out.1
  have H0 : Hid (u0.heap[w.heap.size + 1]? = some (.cells #[.float .f64 0, .float .f64 0, .float .f64 0, .float .f64 0, .float .f64 0, .float .f64 0, .float .f64 0, .float .f64 0, .float .f64 0, .float .f64 0, .float .f64 0, .float .f64 0] 131)) := Ab.heap b0 R0.out.2
  clear A0 R0 b0
  obtain ⟨q0, q1, q2, q3, q4, q5, q6, q7, q8, q9, q10, q11⟩ := cells12 H0.out
  obtain ⟨o0, o1, o2, o3, o4, o5, o6, o7, o8, o9, o10, o11⟩ := free12 H0.out
  clear q3 o3 q4 o4 q5 o5 q6 o6 q7 o7 q8 o8 q9 o9 q10 o10 q11 o11
  go_wp2_with fail
  refine (K1.out _).mono ?_
  rintro e u1 ⟨rfl, b1⟩
  have B1 : Hid (Ab w u1) := Ab.call (((Ab.setk B0.out (by omega) _).setk (by omega) _).setk (by omega) _) b1
  have G1 : Hid (u1.heap[w.heap.size]? = some (.cells #[.float .f64 0, .float .f64 0, .float .f64 0, .float .f64 0, .float .f64 0, .float .f64 0, .float .f64 0, .float .f64 0, .float .f64 0, .float .f64 0, .float .f64 0, .float .f64 0] 131)) := Ab.heap b1 (other3 (by omega) G0.out)
  have H1 : Hid (u1.heap[w.heap.size + 1]? = some (.cells #[.float .f64 a0, .float .f64 b0, .float .f64 d0, .float .f64 0, .float .f64 0, .float .f64 0, .float .f64 0, .float .f64 0, .float .f64 0, .float .f64 0, .float .f64 0, .float .f64 0] 131)) := Ab.heap b1 (put12_0 H0.out)
  clear b1 B0 G0 H0 q0 o0 q1 o1 q2 o2
  obtain ⟨q0, q1, q2, q3, q4, q5, q6, q7, q8, q9, q10, q11⟩ := cells12 H1.out
  obtain ⟨o0, o1, o2, o3, o4, o5, o6, o7, o8, o9, o10, o11⟩ := free12 H1.out
  clear q0 o0 q1 o1 q2 o2 q6 o6 q7 o7 q8 o8 q9 o9 q10 o10 q11 o11
  go_wp2_with fail
  refine (K2.out _).mono ?_
  rintro e u2 ⟨rfl, b2⟩
  have B2 : Hid (Ab w u2) := Ab.call (((Ab.setk B1.out (by omega) _).setk (by omega) _).setk (by omega) _) b2
  have G2 : Hid (u2.heap[w.heap.size]? = some (.cells #[.float .f64 0, .float .f64 0, .float .f64 0, .float .f64 0, .float .f64 0, .float .f64 0, .float .f64 0, .float .f64 0, .float .f64 0, .float .f64 0, .float .f64 0, .float .f64 0] 131)) := Ab.heap b2 (other3 (by omega) G1.out)
  have H2 : Hid (u2.heap[w.heap.size + 1]? = some (.cells #[.float .f64 a0, .float .f64 b0, .float .f64 d0, .float .f64 a1, .float .f64 b1, .float .f64 d1, .float .f64 0, .float .f64 0, .float .f64 0, .float .f64 0, .float .f64 0, .float .f64 0] 131)) := Ab.heap b2 (put12_1 H1.out)
  clear b2 B1 G1 H1 q3 o3 q4 o4 q5 o5
  obtain ⟨q0, q1, q2, q3, q4, q5, q6, q7, q8, q9, q10, q11⟩ := cells12 H2.out
  obtain ⟨o0, o1, o2, o3, o4, o5, o6, o7, o8, o9, o10, o11⟩ := free12 H2.out
  clear q0 o0 q1 o1 q2 o2 q3 o3 q4 o4 q5 o5 q9 o9 q10 o10 q11 o11
  go_wp2_with fail
  refine (K3.out _).mono ?_
  rintro e u3 ⟨rfl, b3⟩
  have B3 : Hid (Ab w u3) := Ab.call (((Ab.setk B2.out (by omega) _).setk (by omega) _).setk (by omega) _) b3
  have G3 : Hid (u3.heap[w.heap.size]? = some (.cells #[.float .f64 0, .float .f64 0, .float .f64 0, .float .f64 0, .float .f64 0, .float .f64 0, .float .f64 0, .float .f64 0, .float .f64 0, .float .f64 0, .float .f64 0, .float .f64 0] 131)) := Ab.heap b3 (other3 (by omega) G2.out)
  have H3 : Hid (u3.heap[w.heap.size + 1]? = some (.cells #[.float .f64 a0, .float .f64 b0, .float .f64 d0, .float .f64 a1, .float .f64 b1, .float .f64 d1, .float .f64 a2, .float .f64 b2, .float .f64 d2, .float .f64 0, .float .f64 0, .float .f64 0] 131)) := Ab.heap b3 (put12_2 H2.out)
  clear b3 B2 G2 H2 q6 o6 q7 o7 q8 o8
  obtain ⟨q0, q1, q2, q3, q4, q5, q6, q7, q8, q9, q10, q11⟩ := cells12 H3.out
  obtain ⟨o0, o1, o2, o3, o4, o5, o6, o7, o8, o9, o10, o11⟩ := free12 H3.out
  clear q0 o0 q1 o1 q2 o2 q3 o3 q4 o4 q5 o5 q6 o6 q7 o7 q8 o8
  go_upto_region 9 with fail
  generalize hW : World.setCell _ _ _ = W
  have BW : Hid (Ab w W) := by rw [← hW]; exact ((Ab.setk B3.out (by omega) _).setk (by omega) _).setk (by omega) _
  have GW : Hid (W.heap[w.heap.size]? = some (.cells #[.float .f64 0, .float .f64 0, .float .f64 0, .float .f64 0, .float .f64 0, .float .f64 0, .float .f64 0, .float .f64 0, .float .f64 0, .float .f64 0, .float .f64 0, .float .f64 0] 131)) := by rw [← hW]; exact other3 (by omega) G3.out
  have HW : Hid (W.heap[w.heap.size + 1]? = some (.cells #[.float .f64 a0, .float .f64 b0, .float .f64 d0, .float .f64 a1, .float .f64 b1, .float .f64 d1, .float .f64 a2, .float .f64 b2, .float .f64 d2, .float .f64 a3, .float .f64 b3, .float .f64 d3] 131)) := by rw [← hW]; exact put12_3 H3.out
  clear hW B3 G3 H3 q9 o9 q10 o10 q11 o11
  obtain ⟨q0, q1, q2, q3, q4, q5, q6, q7, q8, q9, q10, q11⟩ := cells12 HW.out
  obtain ⟨o0, o1, o2, o3, o4, o5, o6, o7, o8, o9, o10, o11⟩ := free12 GW.out
  obtain ⟨z0, z1, z2, z3, z4, z5, z6, z7, z8, z9, z10, z11⟩ := cells12 GW.out
  go_wp2
  refine bodyPost_ret ?_ rfl ⟨rfl, ?_⟩
  · exact res_two Tryz.results89 _ _ w.heap.size _ _ (0, 0) _ _ rfl rfl (put12_3 (put12_2 (put12_1 (put12_0 GW.out)))) Tryz.underlying131 rfl (by kernel_rfl)
  · exact (((((((((((Ab.setk BW.out (by omega) _).setk (by omega) _).setk (by omega) _).setk (by omega) _).setk (by omega) _).setk (by omega) _).setk (by omega) _).setk (by omega) _).setk (by omega) _).setk (by omega) _).setk (by omega) _).setk (by omega) _
set_option maxHeartbeats 4000000 in
theorem corners_no (n c : Int) (w : World) (h : inR c (clN n) = false) :
    Calls Tryz.prog 89 #[.int .i64 n, .int .i64 c] w fun e w' => e = .returned (.tuple #[.agg #[.float .f64 0, .float .f64 0, .float .f64 0, .float .f64 0, .float .f64 0, .float .f64 0, .float .f64 0, .float .f64 0, .float .f64 0, .float .f64 0, .float .f64 0, .float .f64 0], .bool false]) ∧ Below w.heap.size w w' := by
  have PL := hid (fun u => place_at n c u)
  rw [h] at PL
  generalize pF n c = f at *
  generalize pI n c = i at *
  generalize pJ n c = j at *
  clear h
  have A0 := hid (bl2 w (.cells #[.float .f64 0, .float .f64 0, .float .f64 0, .float .f64 0, .float .f64 0, .float .f64 0, .float .f64 0, .float .f64 0, .float .f64 0, .float .f64 0, .float .f64 0, .float .f64 0] 131) (.cells #[.float .f64 0, .float .f64 0, .float .f64 0, .float .f64 0, .float .f64 0, .float .f64 0, .float .f64 0, .float .f64 0, .float .f64 0, .float .f64 0, .float .f64 0, .float .f64 0] 131))
  have R0 := hid (And.intro (heap_alloc2_old w (.cells #[.float .f64 0, .float .f64 0, .float .f64 0, .float .f64 0, .float .f64 0, .float .f64 0, .float .f64 0, .float .f64 0, .float .f64 0, .float .f64 0, .float .f64 0, .float .f64 0] 131) (.cells #[.float .f64 0, .float .f64 0, .float .f64 0, .float .f64 0, .float .f64 0, .float .f64 0, .float .f64 0, .float .f64 0, .float .f64 0, .float .f64 0, .float .f64 0, .float .f64 0] 131)) (heap_alloc2_new w (.cells #[.float .f64 0, .float .f64 0, .float .f64 0, .float .f64 0, .float .f64 0, .float .f64 0, .float .f64 0, .float .f64 0, .float .f64 0, .float .f64 0, .float .f64 0, .float .f64 0] 131) (.cells #[.float .f64 0, .float .f64 0, .float .f64 0, .float .f64 0, .float .f64 0, .float .f64 0, .float .f64 0, .float .f64 0, .float .f64 0, .float .f64 0, .float .f64 0, .float .f64 0] 131)))
  go_enter Tryz.func89, Tryz.ntmps89
  go_wp2_with fail
  refine (PL.out _).mono ?_
  rintro e w1 ⟨rfl, m0, rfl⟩
  generalize hW : World.drewN _ _ = W
  have BW : Hid (Ab w W) := by rw [← hW]; exact Ab.drewN A0.out _
  have GW : Hid (W.heap[w.heap.size]? = some (.cells #[.float .f64 0, .float .f64 0, .float .f64 0, .float .f64 0, .float .f64 0, .float .f64 0, .float .f64 0, .float .f64 0, .float .f64 0, .float .f64 0, .float .f64 0, .float .f64 0] 131)) := by rw [← hW]; exact R0.out.1
  have HW : Hid (W.heap[w.heap.size + 1]? = some (.cells #[.float .f64 0, .float .f64 0, .float .f64 0, .float .f64 0, .float .f64 0, .float .f64 0, .float .f64 0, .float .f64 0, .float .f64 0, .float .f64 0, .float .f64 0, .float .f64 0] 131)) := by rw [← hW]; exact R0.out.2
  clear hW A0 R0
  obtain ⟨q0, q1, q2, q3, q4, q5, q6, q7, q8, q9, q10, q11⟩ := cells12 HW.out
  obtain ⟨o0, o1, o2, o3, o4, o5, o6, o7, o8, o9, o10, o11⟩ := free12 GW.out
  obtain ⟨z0, z1, z2, z3, z4, z5, z6, z7, z8, z9, z10, z11⟩ := cells12 GW.out
  go_wp2
  refine bodyPost_ret ?_ rfl ⟨rfl, ?_⟩
  · exact res_two Tryz.results89 _ _ w.heap.size _ _ (0, 0) _ _ rfl rfl (put12_3 (put12_2 (put12_1 (put12_0 GW.out)))) Tryz.underlying131 rfl (by kernel_rfl)
  · exact (((((((((((Ab.setk BW.out (by omega) _).setk (by omega) _).setk (by omega) _).setk (by omega) _).setk (by omega) _).setk (by omega) _).setk (by omega) _).setk (by omega) _).setk (by omega) _).setk (by omega) _).setk (by omega) _).setk (by omega) _
theorem LnC_cases (n c : Nat) : LnC n c 0 = gp n (cr n (cf n c) (ci n c + 1) (cj n c)) (cr n (cf n c) (ci n c + 1) (cj n c + 1)) ∧ LnC n c 1 = gp n (cr n (cf n c) (ci n c) (cj n c + 1)) (cr n (cf n c) (ci n c + 1) (cj n c + 1)) ∧ LnC n c 2 = gp n (cr n (cf n c) (ci n c) (cj n c)) (cr n (cf n c) (ci n c) (cj n c + 1)) ∧ LnC n c 3 = gp n (cr n (cf n c) (ci n c) (cj n c)) (cr n (cf n c) (ci n c + 1) (cj n c)) := ⟨rfl, rfl, rfl, rfl⟩
set_option maxHeartbeats 8000000 in
theorem len_ok (n c s : Nat) (w : World) (hn : 1 ≤ n ∧ n ≤ 32) (hc : c < 6 * n * n) (hs : s < 4) :
    Calls Tryz.prog 51 #[.int .i64 n, .int .i64 c, .int .i64 s] w fun e w' => e = .returned (.float .f64 (LnC n c s)) ∧ Below w.heap.size w w' := by
  have CO := hid (fun u => corners_ok n c u hn hc)
  obtain ⟨l0, l1, l2, l3⟩ := LnC_cases n c
  have GA0 : Hid (∀ u, Calls Tryz.prog 94 #[.agg #[.float .f64 (px n (cr n (cf n c) (ci n c + 1) (cj n c))), .float .f64 (py n (cr n (cf n c) (ci n c + 1) (cj n c))), .float .f64 (pz n (cr n (cf n c) (ci n c + 1) (cj n c)))], .agg #[.float .f64 (px n (cr n (cf n c) (ci n c + 1) (cj n c + 1))), .float .f64 (py n (cr n (cf n c) (ci n c + 1) (cj n c + 1))), .float .f64 (pz n (cr n (cf n c) (ci n c + 1) (cj n c + 1)))]] u fun e w' => e = .returned (.float .f64 (LnC n c 0)) ∧ Below u.heap.size u w') := fun u => by
    rw [l0]; exact gap_at _ _ _ _ _ _ u (px_lt _ _) (py_lt _ _) (pz_lt _ _) (px_lt _ _) (py_lt _ _) (pz_lt _ _)
  have GA1 : Hid (∀ u, Calls Tryz.prog 94 #[.agg #[.float .f64 (px n (cr n (cf n c) (ci n c) (cj n c + 1))), .float .f64 (py n (cr n (cf n c) (ci n c) (cj n c + 1))), .float .f64 (pz n (cr n (cf n c) (ci n c) (cj n c + 1)))], .agg #[.float .f64 (px n (cr n (cf n c) (ci n c + 1) (cj n c + 1))), .float .f64 (py n (cr n (cf n c) (ci n c + 1) (cj n c + 1))), .float .f64 (pz n (cr n (cf n c) (ci n c + 1) (cj n c + 1)))]] u fun e w' => e = .returned (.float .f64 (LnC n c 1)) ∧ Below u.heap.size u w') := fun u => by
    rw [l1]; exact gap_at _ _ _ _ _ _ u (px_lt _ _) (py_lt _ _) (pz_lt _ _) (px_lt _ _) (py_lt _ _) (pz_lt _ _)
  have GA2 : Hid (∀ u, Calls Tryz.prog 94 #[.agg #[.float .f64 (px n (cr n (cf n c) (ci n c) (cj n c))), .float .f64 (py n (cr n (cf n c) (ci n c) (cj n c))), .float .f64 (pz n (cr n (cf n c) (ci n c) (cj n c)))], .agg #[.float .f64 (px n (cr n (cf n c) (ci n c) (cj n c + 1))), .float .f64 (py n (cr n (cf n c) (ci n c) (cj n c + 1))), .float .f64 (pz n (cr n (cf n c) (ci n c) (cj n c + 1)))]] u fun e w' => e = .returned (.float .f64 (LnC n c 2)) ∧ Below u.heap.size u w') := fun u => by
    rw [l2]; exact gap_at _ _ _ _ _ _ u (px_lt _ _) (py_lt _ _) (pz_lt _ _) (px_lt _ _) (py_lt _ _) (pz_lt _ _)
  have GA3 : Hid (∀ u, Calls Tryz.prog 94 #[.agg #[.float .f64 (px n (cr n (cf n c) (ci n c) (cj n c))), .float .f64 (py n (cr n (cf n c) (ci n c) (cj n c))), .float .f64 (pz n (cr n (cf n c) (ci n c) (cj n c)))], .agg #[.float .f64 (px n (cr n (cf n c) (ci n c + 1) (cj n c))), .float .f64 (py n (cr n (cf n c) (ci n c + 1) (cj n c))), .float .f64 (pz n (cr n (cf n c) (ci n c + 1) (cj n c)))]] u fun e w' => e = .returned (.float .f64 (LnC n c 3)) ∧ Below u.heap.size u w') := fun u => by
    rw [l3]; exact gap_at _ _ _ _ _ _ u (px_lt _ _) (py_lt _ _) (pz_lt _ _) (px_lt _ _) (py_lt _ _) (pz_lt _ _)
  clear l0 l1 l2 l3
  generalize px n (cr n (cf n c) (ci n c) (cj n c)) = a0 at *
  generalize py n (cr n (cf n c) (ci n c) (cj n c)) = b0 at *
  generalize pz n (cr n (cf n c) (ci n c) (cj n c)) = d0 at *
  generalize px n (cr n (cf n c) (ci n c + 1) (cj n c)) = a1 at *
  generalize py n (cr n (cf n c) (ci n c + 1) (cj n c)) = b1 at *
  generalize pz n (cr n (cf n c) (ci n c + 1) (cj n c)) = d1 at *
  generalize px n (cr n (cf n c) (ci n c + 1) (cj n c + 1)) = a2 at *
  generalize py n (cr n (cf n c) (ci n c + 1) (cj n c + 1)) = b2 at *
  generalize pz n (cr n (cf n c) (ci n c + 1) (cj n c + 1)) = d2 at *
  generalize px n (cr n (cf n c) (ci n c) (cj n c + 1)) = a3 at *
  generalize py n (cr n (cf n c) (ci n c) (cj n c + 1)) = b3 at *
  generalize pz n (cr n (cf n c) (ci n c) (cj n c + 1)) = d3 at *
  rcases Cu.four hs with rfl | rfl | rfl | rfl
  · generalize LnC n c 0 = L at *
    clear hn hc hs GA1 GA2 GA3
    go_enter Tryz.func51, Tryz.ntmps51
    go_wp2_with fail
    refine (CO.out _).mono ?_
    rintro e v ⟨rfl, b1⟩
    go_wp2_with fail
    refine (GA0.out _).mono ?_
    rintro e v2 ⟨rfl, b2⟩
    go_wp2
    go_ret
    exact ⟨rfl, Ab.call ((Ab.refl w).call b1 |>.alloc _) b2⟩
  · generalize LnC n c 1 = L at *
    clear hn hc hs GA0 GA2 GA3
    go_enter Tryz.func51, Tryz.ntmps51
    go_wp2_with fail
    refine (CO.out _).mono ?_
    rintro e v ⟨rfl, b1⟩
    go_wp2_with fail
    refine (GA1.out _).mono ?_
    rintro e v2 ⟨rfl, b2⟩
    go_wp2
    go_ret
    exact ⟨rfl, Ab.call ((Ab.refl w).call b1 |>.alloc _) b2⟩
  · generalize LnC n c 2 = L at *
    clear hn hc hs GA0 GA1 GA3
    go_enter Tryz.func51, Tryz.ntmps51
    go_wp2_with fail
    refine (CO.out _).mono ?_
    rintro e v ⟨rfl, b1⟩
    go_wp2_with fail
    refine (GA2.out _).mono ?_
    rintro e v2 ⟨rfl, b2⟩
    go_wp2
    go_ret
    exact ⟨rfl, Ab.call ((Ab.refl w).call b1 |>.alloc _) b2⟩
  · generalize LnC n c 3 = L at *
    clear hn hc hs GA0 GA1 GA2
    go_enter Tryz.func51, Tryz.ntmps51
    go_wp2_with fail
    refine (CO.out _).mono ?_
    rintro e v ⟨rfl, b1⟩
    go_wp2_with fail
    refine (GA3.out _).mono ?_
    rintro e v2 ⟨rfl, b2⟩
    go_wp2
    go_ret
    exact ⟨rfl, Ab.call ((Ab.refl w).call b1 |>.alloc _) b2⟩
set_option maxHeartbeats 8000000 in
theorem len_no (n c s : Int) (w : World) (h : ¬ (inR c (clN n) = true ∧ inR s 4 = true)) :
    Calls Tryz.prog 51 #[.int .i64 n, .int .i64 c, .int .i64 s] w fun e w' => e = .returned (.float .f64 0) ∧ Below w.heap.size w w' := by
  cases hc : inR c (clN n) with
  | false =>
    have CO := hid (fun u => corners_no n c u hc)
    clear h hc
    go_enter Tryz.func51, Tryz.ntmps51
    go_wp2_with fail
    refine (CO.out _).mono ?_
    rintro e v ⟨rfl, b1⟩
    go_wp2
    go_ret
    exact ⟨rfl, ((Ab.refl w).call b1).alloc _⟩
  | true =>
    have hs : ¬ (0 ≤ s ∧ s < 4) := fun k => h ⟨hc, inR_iff.2 k⟩
    obtain ⟨m, d, rfl, rfl, hm, hd⟩ := nat_cell hc
    have CO := hid (fun u => corners_ok m d u hm hd)
    have s0 : s ≠ 0 := by omega
    have s1 : s ≠ 1 := by omega
    have s2 : s ≠ 2 := by omega
    have s3 : s ≠ 3 := by omega
    clear h hc hs hm hd
    generalize px m (cr m (cf m d) (ci m d) (cj m d)) = a0 at *
    generalize py m (cr m (cf m d) (ci m d) (cj m d)) = b0 at *
    generalize pz m (cr m (cf m d) (ci m d) (cj m d)) = d0 at *
    generalize px m (cr m (cf m d) (ci m d + 1) (cj m d)) = a1 at *
    generalize py m (cr m (cf m d) (ci m d + 1) (cj m d)) = b1 at *
    generalize pz m (cr m (cf m d) (ci m d + 1) (cj m d)) = d1 at *
    generalize px m (cr m (cf m d) (ci m d + 1) (cj m d + 1)) = a2 at *
    generalize py m (cr m (cf m d) (ci m d + 1) (cj m d + 1)) = b2 at *
    generalize pz m (cr m (cf m d) (ci m d + 1) (cj m d + 1)) = d2 at *
    generalize px m (cr m (cf m d) (ci m d) (cj m d + 1)) = a3 at *
    generalize py m (cr m (cf m d) (ci m d) (cj m d + 1)) = b3 at *
    generalize pz m (cr m (cf m d) (ci m d) (cj m d + 1)) = d3 at *
    go_enter Tryz.func51, Tryz.ntmps51
    go_wp2_with fail
    refine (CO.out _).mono ?_
    rintro e v ⟨rfl, b1⟩
    go_wp2
    go_ret
    exact ⟨rfl, ((Ab.refl w).call b1).alloc _⟩
set_option maxHeartbeats 8000000 in
theorem gap_ok (n c s : Nat) (w : World) (hn : 1 ≤ n ∧ n ≤ 32) (hc : c < 6 * n * n) (hs : s < 4) (hF : Fr w) :
    Calls Tryz.prog 52 #[.int .i64 n, .int .i64 c, .int .i64 s] w fun e w' => e = .returned (.float .f64 (GpC n c s)) ∧ Below w.heap.size w w' := by
  obtain ⟨hb, -⟩ := bs_lt hn.1 hc hs
  have BE := hid (beside_at n c s w hn hc hs hF)
  have M1 := hid (fun u => middle_ok n c u hn hc)
  have M2 := hid (fun u => middle_ok n (bsC n c s) u hn hb)
  have GA : Hid (∀ u, Calls Tryz.prog 94 #[.agg #[.float .f64 (px n (MD n c)), .float .f64 (py n (MD n c)), .float .f64 (pz n (MD n c))], .agg #[.float .f64 (px n (MD n (bsC n c s))), .float .f64 (py n (MD n (bsC n c s))), .float .f64 (pz n (MD n (bsC n c s)))]] u fun e w' => e = .returned (.float .f64 (GpC n c s)) ∧ Below u.heap.size u w') := fun u => gap_at _ _ _ _ _ _ u (px_lt _ _) (py_lt _ _) (pz_lt _ _) (px_lt _ _) (py_lt _ _) (pz_lt _ _)
  generalize px n (MD n c) = x at *
  generalize py n (MD n c) = y at *
  generalize pz n (MD n c) = z at *
  generalize px n (MD n (bsC n c s)) = x' at *
  generalize py n (MD n (bsC n c s)) = y' at *
  generalize pz n (MD n (bsC n c s)) = z' at *
  generalize GpC n c s = G at *
  generalize bsC n c s = c' at *
  generalize bsS n c s = s' at *
  clear hn hc hs hF hb
  go_enter Tryz.func52, Tryz.ntmps52
  go_wp2_with fail
  refine (BE.out).mono ?_
  rintro e v ⟨rfl, b1⟩
  go_wp2_with fail
  refine (M1.out _).mono ?_
  rintro e v2 ⟨rfl, b2⟩
  go_wp2_with fail
  refine (M2.out _).mono ?_
  rintro e v3 ⟨rfl, b3⟩
  have B2 : Hid (Ab w v2) := (Ab.call b1 b2)
  have B3 : Hid (Ab w v3) := Ab.call (B2.out.alloc _) b3
  have r2 : v3.heap[v2.heap.size]? = some (.cells #[.float .f64 x, .float .f64 y, .float .f64 z] 130) := newrow' b3
  have r2' : (v3.alloc (.cells #[.float .f64 x', .float .f64 y', .float .f64 z'] 130)).heap[v2.heap.size]? = some (.cells #[.float .f64 x, .float .f64 y, .float .f64 z] 130) := by
    rw [Below.heap_alloc _ _ _ (by have := b3.size; simp at this; omega)]; exact r2
  obtain ⟨-, q0, q1, q2⟩ := rowfacts r2'
  clear r2 r2' b1 b2 b3
  go_wp2_with fail
  refine (GA.out _).mono ?_
  rintro e v4 ⟨rfl, b4⟩
  go_wp2
  go_ret
  exact ⟨rfl, Ab.call (B3.out.alloc _) b4⟩
end Go.Proofs.YtgeipbegpflkhaaGreatDoor
