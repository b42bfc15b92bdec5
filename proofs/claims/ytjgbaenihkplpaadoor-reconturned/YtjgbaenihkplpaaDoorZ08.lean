/-
  Some of the texts of this proof, one behind the other.
-/
import Derived.Test.YtjgbaenihkplpaaDoorZ07
import Derived.Test.YtjgbaenihkplpaaDoorZ03
import Derived.Deep.RegionWith
import Derived.BigQuiet
import Derived.Deep.QuietTactic
import Derived.Deep.Quiet
import Derived.Deep.MidRow
import Derived.Deep.Cut
import Derived.Deep.CutRange
import Derived.Test.YtjgbaenihkplpaaDoorZ05
/-
  Careful sums, and sums of three: walks over the program.
-/
namespace Go.Proofs.YtjgbaenihkplpaaDoor
open Go.RowKit Tf
attribute [local go_sem] run_bits run_from raw_feq raw_fne raw_flt raw_fgt run_neg

theorem place_mg (x : Nat) : placeB (mg x) = mg x + 9223372036854775808 := by
  unfold placeB; rw [ng_of_lt (mg_lt x)]; rfl
theorem order_mg (a b : Nat) : orderB (mg a) (mg b) = if mg a < mg b then -1 else if mg b < mg a then 1 else 0 := by
  unfold orderB
  rw [place_mg, place_mg]
  by_cases h1 : mg a < mg b
  · rw [if_pos (by omega), if_pos h1]
  · rw [if_neg (by omega), if_neg h1]
    by_cases h2 : mg b < mg a
    · rw [if_pos (by omega), if_pos h2]
    · rw [if_neg (by omega), if_neg h2]
theorem key_lt (a b : Nat) (ha : a < 18446744073709551616) (hb : b < 18446744073709551616) : key b < key a ↔ mg b < mg a ∨ (mg a = mg b ∧ placeB b < placeB a) := by
  have h1 := word_eq a ha
  have h2 := word_eq b hb
  have h3 := mg_lt a
  have h4 := mg_lt b
  unfold key placeB
  revert h1 h2
  cases ng a <;> cases ng b <;> simp <;> omega
set_option maxHeartbeats 1000000 in
theorem behind_at (a b : Nat) (r : Bool) (w : World) (ha : a < 18446744073709551616) (hb : b < 18446744073709551616) (hr : decide (key b < key a) = r) :
    Calls Tryd.prog 103 #[.float .f64 a, .float .f64 b] w fun e w' => e = .returned (.bool r) ∧ w' = w := by
  have A := hid (fun w => abs_any a w ha)
  have B := hid (fun w => abs_any b w hb)
  have h3 := mg_lt a
  have h4 := mg_lt b
  have O := hid (fun o w h => orderB_at (mg a) (mg b) o w (by omega) (by omega) h)
  have O2 := hid (fun w => orderB_at a b _ w ha hb rfl)
  have hk := key_lt a b ha hb
  have ho := order_mg a b
  by_cases c1 : mg a < mg b
  · rw [if_pos c1] at ho
    have O' := hid (fun w => O.out _ w ho)
    have e : r = false := by rw [← hr]; exact decide_eq_false (fun x => by have := hk.1 x; omega)
    subst e
    clear O O2 hk hr ho c1 h3 h4 ha hb
    generalize mg a = ma at *
    generalize mg b = mb at *
    go_enter Tryd.func103, Tryd.ntmps103
    go_wp2_with fail
    refine (A.out _).mono ?_
    rintro e w' ⟨rfl, rfl⟩
    go_wp2_with fail
    refine (B.out _).mono ?_
    rintro e w' ⟨rfl, rfl⟩
    go_wp2_with fail
    refine (O'.out _).mono ?_
    rintro e w' ⟨rfl, rfl⟩
    go_wp2
    go_ret
    exact ⟨rfl, rfl⟩
  by_cases c2 : mg b < mg a
  · rw [if_neg c1, if_pos c2] at ho
    have O' := hid (fun w => O.out _ w ho)
    have e : r = true := by rw [← hr]; exact decide_eq_true (hk.2 (.inl c2))
    subst e
    clear O O2 hk hr ho c1 c2 h3 h4 ha hb
    generalize mg a = ma at *
    generalize mg b = mb at *
    go_enter Tryd.func103, Tryd.ntmps103
    go_wp2_with fail
    refine (A.out _).mono ?_
    rintro e w' ⟨rfl, rfl⟩
    go_wp2_with fail
    refine (B.out _).mono ?_
    rintro e w' ⟨rfl, rfl⟩
    go_wp2_with fail
    refine (O'.out _).mono ?_
    rintro e w' ⟨rfl, rfl⟩
    go_wp2
    go_ret
    exact ⟨rfl, rfl⟩
  · rw [if_neg c1, if_neg c2] at ho
    have O' := hid (fun w => O.out _ w ho)
    obtain ⟨o, ho2⟩ : ∃ o, orderB a b = o := ⟨_, rfl⟩
    have e : decide (0 < o) = r := by
      rw [← hr, ← ho2]
      refine decide_eq_decide.2 ?_
      rw [orderB_gt, hk]
      constructor
      · intro h; exact .inr ⟨by omega, h⟩
      · rintro (h | h)
        · omega
        · exact h.2
    rw [ho2] at O2
    clear O hk hr ho c1 c2 h3 h4 ha hb ho2
    generalize mg a = ma at *
    generalize mg b = mb at *
    go_enter Tryd.func103, Tryd.ntmps103
    go_wp2_with fail
    refine (A.out _).mono ?_
    rintro e w' ⟨rfl, rfl⟩
    go_wp2_with fail
    refine (B.out _).mono ?_
    rintro e w' ⟨rfl, rfl⟩
    go_wp2_with fail
    refine (O'.out _).mono ?_
    rintro e w' ⟨rfl, rfl⟩
    go_wp2_with fail
    refine (O2.out _).mono ?_
    rintro e w' ⟨rfl, rfl⟩
    go_wp2
    go_ret
    exact ⟨by first | rfl | (rw [← e]; try rfl) | skip, rfl⟩
set_option maxHeartbeats 1000000 in
theorem lesser_at (a b : Nat) (w : World) (ha : a < 18446744073709551616) (hb : b < 18446744073709551616) :
    Calls Tryd.prog 99 #[.float .f64 a, .float .f64 b] w fun e w' => e = .returned (.tuple #[.float .f64 (loB a b), .float .f64 (hiB a b)]) ∧ w' = w := by
  have B := hid (fun w => behind_at a b _ w ha hb rfl)
  unfold loB hiB
  by_cases c : key b < key a
  · rw [if_pos c, if_pos c]
    rw [decide_eq_true c] at B
    clear c
    go_enter Tryd.func99, Tryd.ntmps99
    go_wp2_with fail
    refine (B.out _).mono ?_
    rintro e w' ⟨rfl, rfl⟩
    go_wp2
    go_ret2
    exact ⟨rfl, rfl⟩
  · rw [if_neg c, if_neg c]
    rw [decide_eq_false c] at B
    clear c
    go_enter Tryd.func99, Tryd.ntmps99
    go_wp2_with fail
    refine (B.out _).mono ?_
    rintro e w' ⟨rfl, rfl⟩
    go_wp2
    go_ret2
    exact ⟨rfl, rfl⟩
theorem lo_lt {a b : Nat} (ha : a < 18446744073709551616) (hb : b < 18446744073709551616) : loB a b < 18446744073709551616 := by unfold loB; split <;> assumption
theorem hi_lt {a b : Nat} (ha : a < 18446744073709551616) (hb : b < 18446744073709551616) : hiB a b < 18446744073709551616 := by unfold hiB; split <;> assumption
set_option maxHeartbeats 2000000 in
theorem three_go (a b c a1 b1 b2 c2 a3 b3 r : Nat) (w : World)
    (L1 : Hid (∀ w, Calls Tryd.prog 99 #[.float .f64 a, .float .f64 b] w fun e w' => e = .returned (.tuple #[.float .f64 a1, .float .f64 b1]) ∧ w' = w))
    (L2 : Hid (∀ w, Calls Tryd.prog 99 #[.float .f64 b1, .float .f64 c] w fun e w' => e = .returned (.tuple #[.float .f64 b2, .float .f64 c2]) ∧ w' = w))
    (L3 : Hid (∀ w, Calls Tryd.prog 99 #[.float .f64 a1, .float .f64 b2] w fun e w' => e = .returned (.tuple #[.float .f64 a3, .float .f64 b3]) ∧ w' = w))
    (T : Hid (Calls Tryd.prog 100 #[.slice (some ⟨w.heap.size, 0, none⟩) 3 3] (w.alloc (.cells #[.float .f64 a3, .float .f64 b3, .float .f64 c2] 28)) fun e w' => e = .returned (.float .f64 r) ∧ Hid (Below w.heap.size w w'))) :
    Calls Tryd.prog 89 #[.float .f64 a, .float .f64 b, .float .f64 c] w fun e w' => e = .returned (.float .f64 r) ∧ Hid (Below w.heap.size w w') := by
  go_enter Tryd.func89, Tryd.ntmps89
  go_wp2_with fail
  refine (L1.out _).mono ?_
  rintro e w' ⟨rfl, rfl⟩
  go_wp2_with fail
  refine (L2.out _).mono ?_
  rintro e w' ⟨rfl, rfl⟩
  go_wp2_with fail
  refine (L3.out _).mono ?_
  rintro e w' ⟨rfl, rfl⟩
  go_wp2_with fail
  refine T.out.mono ?_
  rintro e w' ⟨rfl, hb⟩
  go_wp2
  go_ret
  exact ⟨rfl, hb⟩
/-- THREE -/
theorem three_at (a b c : Nat) (w : World) (ha : a < 18446744073709551616) (hb : b < 18446744073709551616) (hc : c < 18446744073709551616) :
    Calls Tryd.prog 89 #[.float .f64 a, .float .f64 b, .float .f64 c] w fun e w' => e = .returned (.float .f64 (thB a b c)) ∧ Hid (Below w.heap.size w w') := by
  have l1 := lo_lt ha hb
  have l2 := hi_lt ha hb
  have l3 := lo_lt l2 hc
  have l4 := hi_lt l2 hc
  refine three_go a b c _ _ _ _ _ _ _ w (fun w => lesser_at a b w ha hb) (fun w => lesser_at _ c w l2 hc) (fun w => lesser_at _ _ w l1 l3) ?_
  have l5 := lo_lt l1 l3
  have l6 := hi_lt l1 l3
  unfold thB
  generalize loB (loB a b) (loB (hiB a b) c) = u at *
  generalize hiB (loB a b) (loB (hiB a b) c) = v at *
  generalize hiB (hiB a b) c = z at *
  have hf : IsFl (w.alloc (.cells #[.float .f64 u, .float .f64 v, .float .f64 z] 28)) (some ⟨w.heap.size, 0, none⟩) 3 (fun j => if j = 0 then u else if j = 1 then v else z) := by
    refine fl_new w _ _ _ 3 (fun k hk => ?_)
    rcases (show k = 0 ∨ k = 1 ∨ k = 2 by omega) with rfl | rfl | rfl
    · exact ⟨l5, rfl⟩
    · exact ⟨l6, rfl⟩
    · exact ⟨l4, rfl⟩
  refine (inTurn_at _ 3 3 _ _ (Nat.le_refl _) (by decide) hf).mono ?_
  rintro e w' ⟨he, k, rfl⟩
  refine ⟨?_, below_drewN ((Below.refl _ _).alloc (Nat.le_refl _) _) k⟩
  rw [he]
  have : leftB (fun j => if j = 0 then u else if j = 1 then v else z) 3 = plB (plB (qB u) v) z := rfl
  rw [this, plB_ql]
end Go.Proofs.YtjgbaenihkplpaaDoor

/-
  What Split, Product and Add of package twin return: walks over the program.
-/
namespace Go.Proofs.YtjgbaenihkplpaaDoor
open Go.RowKit Tf
attribute [local go_sem] run_bits run_from raw_feq raw_fne raw_flt raw_fgt

theorem mul_ok (a b p : Nat) (ha : a < 18446744073709551616) (hb : b < 18446744073709551616) (h : Ieee.double.mul a b = some p) : p < 18446744073709551616 ∧ isN p = false := by
  rcases mul_cases a b ha hb with ⟨fa, fb⟩ | h' | ⟨s, h'⟩
  · have hm := mul_d a b ha hb fa fb
    rw [h] at hm
    have hm := Option.some.inj hm
    have hl : min (rung 52 1074 (mv (mg a) * mv (mg b))) 9218868437227405312 ≤ 9218868437227405312 := Nat.min_le_right _ _
    generalize min (rung 52 1074 (mv (mg a) * mv (mg b))) 9218868437227405312 = q at *
    rw [hm, isN_false]
    cases (ng a ^^ ng b)
    · simp only [Bool.false_eq_true, if_false]; exact ⟨by omega, by rw [mg_of_lt (by omega)]; exact hl⟩
    · simp only [if_true]; exact ⟨by omega, by rw [mg_of_ge (by omega) (by omega)]; omega⟩
  · rw [h] at h'; cases h'
  · rw [h] at h'
    obtain rfl := Option.some.inj h'
    exact ⟨infW_lt s, isN_false.2 (by rw [infW_mg]; omega)⟩
theorem mg_canon (s : Nat) (n : isN s = false) : mg (canonB s) = mg s := by
  unfold canonB
  rw [n, if_neg (by decide)]
  by_cases c : mg s = 0
  · rw [if_pos c, c]; rfl
  · rw [if_neg c]

end Go.Proofs.YtjgbaenihkplpaaDoor

/-
  The small helpers of the statements on twin, and that their own test of life answers true: walks over the program.
-/
namespace Go.Proofs.YtjgbaenihkplpaaDoor
open Go.RowKit Tf
attribute [local go_sem] run_bits run_from raw_feq raw_fne raw_flt raw_fgt run_neg

set_option maxHeartbeats 400000 in
theorem rawBits_any (x : Nat) (w : World) :
    Calls Tryd.prog 12 #[.float .f64 x] w fun e w' => e = .returned (.int .u64 (x : Nat)) ∧ w' = w := by
  go_enter Tryd.func12, Tryd.ntmps12
  go_wp2
  go_ret
  exact ⟨rfl, rfl⟩
theorem aw1 : addB 4591870180066957722 4596373779694328218 = 4599075939470750516 := by decide +kernel
theorem aw2 : sumE 4591870180066957722 4596373779694328218 = 13582856476149415936 := by decide +kernel
theorem aw3 : splitH 4728779608772575232 = 4728779608739020800 := by decide +kernel
theorem aw4 : splitL 4728779608772575232 = 4607182418800017408 := by decide +kernel
theorem aw5 : mulB 4591870180066957722 4613937818241073152 = 4599075939470750516 := by decide +kernel
theorem aw6 : prodE 4591870180066957722 4613937818241073152 = 13582856476149415936 := by decide +kernel
theorem rawSame_refl (x : Nat) (w : World) :
    Calls Tryd.prog 13 #[.float .f64 x, .float .f64 x] w fun e w' => e = .returned (.bool true) ∧ w' = w := by
  have h := rawSame_any x x w
  have hs : sameB x x = true := by unfold sameB; simp
  rwa [hs] at h
theorem canon_canon (x : Nat) (_hx : x < 18446744073709551616) : canonB (canonB x) = canonB x := by
  unfold canonB
  by_cases c : isN x = true
  · rw [if_pos c]; decide
  · rw [if_neg c]
    by_cases c2 : mg x = 0
    · rw [if_pos c2]; decide
    · rw [if_neg c2, if_neg c, if_neg c2]
theorem canon_rnf (v : Int) : canonB (rn false v) = rn false v := canon_rn false v
theorem canon_addB (a b : Nat) (ha : a < 18446744073709551616) (hb : b < 18446744073709551616) : canonB (addB a b) = addB a b := by
  rcases add_cases a b ha hb with ⟨h1, h2⟩ | h | ⟨s, h⟩
  · rw [addB_fin a b ha hb h1 h2, canon_rnf]
  · rw [addB_none h]; decide
  · rw [addB_some h, infW_canon, infW_canon]
theorem canon_zero : canonB 0 = 0 := by decide
theorem canon_sumE (a b : Nat) : canonB (sumE a b) = sumE a b := by
  unfold sumE; split
  · exact canon_rnf _
  · exact canon_zero
theorem canon_mulB (a b : Nat) (ha : a < 18446744073709551616) (hb : b < 18446744073709551616) : canonB (mulB a b) = mulB a b := by
  cases h : Ieee.double.mul a b with
  | none => rw [mulB_none h]; decide
  | some p => rw [mulB_some h, canon_canon p (mul_ok a b p ha hb h).1]
theorem canon_prodE (a b : Nat) : canonB (prodE a b) = prodE a b := by
  unfold prodE; split
  · exact canon_rnf _
  · exact canon_zero
theorem mulB_lt (a b : Nat) (ha : a < 18446744073709551616) (hb : b < 18446744073709551616) : mulB a b < 18446744073709551616 := by
  cases h : Ieee.double.mul a b with
  | none => rw [mulB_none h]; decide
  | some p => rw [mulB_some h]; exact canonB_lt (mul_ok a b p ha hb h).1
end Go.Proofs.YtjgbaenihkplpaaDoor

/-
  What the reference's calls of layer 1 return: walks over the program.
-/
namespace Go.Proofs.YtjgbaenihkplpaaDoor
open Go.RowKit Tf
attribute [local go_sem] run_bits run_from raw_feq raw_fne raw_flt raw_fgt run_neg
end Go.Proofs.YtjgbaenihkplpaaDoor

/-
  The reference's order of floats and its sum of three: walks over the program.
-/
namespace Go.Proofs.YtjgbaenihkplpaaDoor
open Go.RowKit Tf
attribute [local go_sem] run_bits run_from raw_feq raw_fne raw_flt raw_fgt run_neg

end Go.Proofs.YtjgbaenihkplpaaDoor

/-
  One operation on floats, whatever comes of it; squares, areas, roots, and vectors in the one form: walks over the program.
-/
namespace Go.Proofs.YtjgbaenihkplpaaDoor
open Go.RowKit Tf
theorem run_store_float {P : Program} {w : World} {a : Addr} {m : Mode} (k : FloatKind) (x : Nat) : (store a (.float k x) m).run P w = stored P w a (.float k x) m := run_store P w a _ m rfl
attribute [local go_sem] run_bits run_from raw_feq raw_fne raw_flt raw_fgt run_neg run_store_float
theorem mul_ql (a b : Nat) : Ieee.double.mul (qB a) b = Ieee.double.mul a b := by
  cases h : isN a
  · rw [qB_of h]
  · rw [mul_nan a b (.inl h), mul_nan _ _ (.inl (by rw [qB_isN]; exact h))]
theorem mul_qr (a b : Nat) : Ieee.double.mul a (qB b) = Ieee.double.mul a b := by rw [Go.Proofs.YtjgbaenihkplpaaDoor.mul_comm, mul_ql, Go.Proofs.YtjgbaenihkplpaaDoor.mul_comm]
theorem mul_any {P : Program} (w : World) (s q x y : Nat) (h : IsQ s q) (k : IsQ x y) : ∃ r n, (∀ t, (binOp .mul t (.float .f64 s) (.float .f64 x)).run P w = .ok (.float .f64 r) (w.drewN n)) ∧ IsQ r (mlB q y) := by
  have e0 : mlB q y = mlB s x := by unfold mlB; rw [← h.2, ← k.2, mul_ql, mul_qr]
  rw [e0]
  cases e : Ieee.double.mul s x with
  | none => exact ⟨nanOf w s x, 1, fun t => run_nan_mul w t s x e, nanOf_lt _ _ _, by rw [mlB_none e]; exact qB_N (isN_nanOf _ _ _)⟩
  | some r => exact ⟨r, 0, fun t => run_float_arith w .mul t .f64 s x r e, (mul_fact e h.1 k.1).1, by rw [mlB_some e]; exact qB_of (mul_fact e h.1 k.1).2⟩
theorem negB_q {x : Nat} (hx : x < 18446744073709551616) (h : isN x = false) : isN (negB x) = false := by rw [negB_isN hx]; exact h
theorem addB_q {a b c d : Nat} (hb : b < 18446744073709551616) (hd : d < 18446744073709551616) (h : qB a = qB c) (k : qB b = qB d) : addB a (negB b) = addB c (negB d) := by
  cases h1 : isN a
  · have h2 : isN c = false := by rw [← qB_isN, ← h, qB_isN]; exact h1
    rw [qB_of h1, qB_of h2] at h
    subst h
    cases h3 : isN b
    · have h4 : isN d = false := by rw [← qB_isN, ← k, qB_isN]; exact h3
      rw [qB_of h3, qB_of h4] at k
      rw [k]
    · have h4 : isN d = true := by rw [← qB_isN, ← k, qB_isN]; exact h3
      rw [addB_none (add_nan _ _ (.inr (by rw [negB_isN hb]; exact h3))), addB_none (add_nan _ _ (.inr (by rw [negB_isN hd]; exact h4)))]
  · have h2 : isN c = true := by rw [← qB_isN, ← h, qB_isN]; exact h1
    rw [addB_none (add_nan _ _ (.inl h1)), addB_none (add_nan _ _ (.inl h2))]
/-- a word whose one form is q -/
def IsC (s q : Nat) : Prop := s < 18446744073709551616 ∧ canonB s = q
theorem sub_any {P : Program} (w : World) (s q x y : Nat) (h : IsQ s q) (k : IsQ x y) : ∃ r n, (∀ t, (binOp .sub t (.float .f64 s) (.float .f64 x)).run P w = .ok (.float .f64 r) (w.drewN n)) ∧ IsC r (sbB q y) := by
  have e0 : sbB q y = addB s (negB x) := addB_q k.lt k.1 (by rw [← h.2, qB_qB]) (by rw [← k.2, qB_qB])
  rw [e0]
  have ea := sub_add s x k.1
  cases e : Ieee.double.sub s x with
  | none =>
    refine ⟨nanOf w s x, 1, fun t => run_nan_sub w t s x e, nanOf_lt _ _ _, ?_⟩
    rw [addB_none (by rw [← ea]; exact e)]
    unfold canonB; rw [if_pos (isN_nanOf _ _ _)]
  | some r =>
    rw [e] at ea
    exact ⟨r, 0, fun t => run_float_arith w .sub t .f64 s x r e, (add_facts h.1 (negB_lt' k.1) ea.symm).1, by rw [addB_some ea.symm]⟩
theorem run_nan_div {P : Program} (w : World) (t : TypeId) (x y : Nat) (h : Ieee.double.div x y = none) :
    (binOp .quo t (.float .f64 x) (.float .f64 y)).run P w = .ok (.float .f64 (nanOf w x y)) w.drew := by
  have h' : FloatKind.f64.format.div x y = none := h
  simp [binOp, Op.floatArith, h', nanOf, Question.forced]
theorem div_lt {x y r : Nat} (h : Ieee.double.div x y = some r) : r < 18446744073709551616 := Ieee.Format.div_lt Ieee.double h
theorem div_any {P : Program} (w : World) (s x : Nat) : ∃ r n, (∀ t, (binOp .quo t (.float .f64 s) (.float .f64 x)).run P w = .ok (.float .f64 r) (w.drewN n)) ∧ IsC r (dvB s x) := by
  cases e : Ieee.double.div s x with
  | none => exact ⟨nanOf w s x, 1, fun t => run_nan_div w t s x e, nanOf_lt _ _ _, by rw [dvB_none e]; unfold canonB; rw [if_pos (isN_nanOf _ _ _)]⟩
  | some r => exact ⟨r, 0, fun t => run_float_arith w .quo t .f64 s x r e, div_lt e, by rw [dvB_some e]⟩
theorem sqrt_lt {x r : Nat} (h : Ieee.double.sqrt x = some r) : r < 18446744073709551616 := Ieee.Format.sqrt_lt Ieee.double h
theorem run_sqrt (x : Nat) (w : World) : ∃ r n, (callFunc 98 #[.float .f64 x]).run Tryd.prog w = .ok (.value (.float .f64 r)) (w.drewN n) ∧ IsC r (rtB x) := by
  have e0 : Extern.MathSqrt.sqrt #[.float .f64 x] = (match FloatKind.f64.format.sqrt x with | some r => pure (.float .f64 r) | none => do pure (.float .f64 (← choose (.nanBits .f64 x x)))) := rfl
  rw [run_callFunc_extern (e := Extern.MathSqrt.sqrt) Tryd.func98 (by kernel_rfl) (by kernel_rfl) (by kernel_rfl) (by kernel_rfl), e0]
  cases e : Ieee.double.sqrt x with
  | none =>
    refine ⟨nanOf w x x, 1, ?_, nanOf_lt _ _ _, by rw [rtB_none e]; unfold canonB; rw [if_pos (isN_nanOf _ _ _)]⟩
    have h' : FloatKind.f64.format.sqrt x = none := e
    rw [h']
    simp [nanOf, Question.forced]
    rfl
  | some r =>
    refine ⟨r, 0, ?_, sqrt_lt e, by rw [rtB_some e]⟩
    have h' : FloatKind.f64.format.sqrt x = some r := e
    rw [h']
    simp
    rfl
set_option maxHeartbeats 1000000 in
theorem square_at (x : Nat) (w : World) (hx : x < 18446744073709551616) :
    Calls Tryd.prog 90 #[.float .f64 x] w fun e w' => ∃ r n, e = .returned (.float .f64 r) ∧ w' = w.drewN n ∧ IsQ r (sqB x) := by
  obtain ⟨r, n, hr, hq⟩ := mul_any (P := Tryd.prog) w x _ x _ (IsQ.self hx) (IsQ.self hx)
  have HQ : Hid (IsQ r (sqB x)) := by unfold sqB mlB; rw [← mul_ql, ← mul_qr]; exact hq
  clear hq hx
  go_enter Tryd.func90, Tryd.ntmps90
  go_wp2
  go_ret
  exact ⟨r, n, rfl, rfl, HQ.out⟩
set_option maxHeartbeats 1000000 in
theorem area_at (x y u v : Nat) (w : World) (hx : x < 18446744073709551616) (hy : y < 18446744073709551616) (hu : u < 18446744073709551616) (hv : v < 18446744073709551616) :
    Calls Tryd.prog 92 #[.float .f64 x, .float .f64 y, .float .f64 u, .float .f64 v] w fun e w' => ∃ r n, e = .returned (.float .f64 r) ∧ w' = w.drewN n ∧ IsC r (sbB (mlB x v) (mlB y u)) := by
  obtain ⟨p, n, hp, pq⟩ := mul_any (P := Tryd.prog) w x _ v _ (IsQ.self hx) (IsQ.self hv)
  obtain ⟨q, m, hq, qq⟩ := mul_any (P := Tryd.prog) (w.drewN n) y _ u _ (IsQ.self hy) (IsQ.self hu)
  obtain ⟨r, l, hr, rr⟩ := sub_any (P := Tryd.prog) (w.drewN (n + m)) p _ q _ pq qq
  rw [World.drewN_drewN] at hq hr
  have HQ : Hid (IsC r (sbB (mlB x v) (mlB y u))) := by
    have e1 : mlB x v = mlB (qB x) (qB v) := by unfold mlB; rw [mul_ql, mul_qr]
    have e2 : mlB y u = mlB (qB y) (qB u) := by unfold mlB; rw [mul_ql, mul_qr]
    rw [e1, e2]; exact rr
  clear pq qq rr hx hy hu hv
  go_enter Tryd.func92, Tryd.ntmps92
  go_wp2
  go_ret
  exact ⟨r, _, rfl, rfl, HQ.out⟩
set_option maxHeartbeats 1000000 in
theorem sqrt_at (x : Nat) (w : World) :
    Calls Tryd.prog 88 #[.float .f64 x] w fun e w' => ∃ r n, e = .returned (.float .f64 r) ∧ w' = w.drewN n ∧ IsC r (rtB x) := by
  obtain ⟨r, n, hr, hq⟩ := run_sqrt x w
  have HQ := hid hq
  clear hq
  go_enter Tryd.func88, Tryd.ntmps88
  go_wp2
  go_ret
  exact ⟨r, n, rfl, rfl, HQ.out⟩
set_option maxHeartbeats 2000000 in
theorem vcanon_at (x y z a b c : Nat) (w : World) (hx : IsC x a) (hy : IsC y b) (hz : IsC z c) :
    Calls Tryd.prog 91 #[.float .f64 x, .float .f64 y, .float .f64 z] w fun e w' => e = .returned (.agg #[.float .f64 a, .float .f64 b, .float .f64 c]) ∧ Below w.heap.size w w' := by
  obtain ⟨x1, x2⟩ := hx
  obtain ⟨y1, y2⟩ := hy
  obtain ⟨z1, z2⟩ := hz
  have CX : Hid (∀ w, Calls Tryd.prog 37 #[.float .f64 x] w fun e w' => e = .returned (.float .f64 a) ∧ w' = w) := fun w => by rw [← x2]; exact canon_any x w x1
  have CY : Hid (∀ w, Calls Tryd.prog 37 #[.float .f64 y] w fun e w' => e = .returned (.float .f64 b) ∧ w' = w) := fun w => by rw [← y2]; exact canon_any y w y1
  have CZ : Hid (∀ w, Calls Tryd.prog 37 #[.float .f64 z] w fun e w' => e = .returned (.float .f64 c) ∧ w' = w) := fun w => by rw [← z2]; exact canon_any z w z1
  have A0 := hid (bl1 w (.cells #[.float .f64 0, .float .f64 0, .float .f64 0] 122))
  have r0 := heap_alloc_new w (.cells #[.float .f64 0, .float .f64 0, .float .f64 0] 122)
  have R0 := hid r0
  clear x1 x2 y1 y2 z1 z2 r0
  go_enter Tryd.func91, Tryd.ntmps91
  go_wp2_with fail
  refine (CX.out _).mono ?_
  rintro e W ⟨rfl, hW⟩
  have r1 : W.heap[w.heap.size]? = some (.cells #[.float .f64 0, .float .f64 0, .float .f64 0] 122) := by rw [hW]; exact R0.out
  have A1 : Hid (Ab w W) := by rw [hW]; exact A0.out
  obtain ⟨⟨o0, o1, o2⟩, o3, o4, o5⟩ := rowfacts r1
  have R1 := hid r1
  clear hW r1 A0 R0
  go_wp2_with fail
  refine (CY.out _).mono ?_
  rintro e W ⟨rfl, rfl⟩
  go_wp2_with fail
  refine (CZ.out _).mono ?_
  rintro e W ⟨rfl, rfl⟩
  go_wp2
  refine bodyPost_ret ?_ rfl ⟨rfl, ?_⟩
  · exact results_cell_row Tryd.results91 _ _ w.heap.size _ _ (0, 0) _ rfl (row3 R1.out) Tryd.underlying122 rfl (by kernel_rfl)
  · exact ((Ab.setk A1.out (Nat.le_refl _) _).setk (Nat.le_refl _) _).setk (Nat.le_refl _) _
end Go.Proofs.YtjgbaenihkplpaaDoor

/-
  Differences, cross products, lengths, units and gaps of vectors: walks over the program.
-/
namespace Go.Proofs.YtjgbaenihkplpaaDoor
open Go.RowKit Tf
attribute [local go_sem] run_bits run_from raw_feq raw_fne raw_flt raw_fgt run_neg run_store_float
theorem sbB_q {a b : Nat} (hb : b < 18446744073709551616) : sbB (qB a) (qB b) = sbB a b := addB_q (qB_lt hb) hb (qB_qB a) (qB_qB b)
theorem Abx.drewN {W w : World} {g n : Nat} {T : TypeId} (h : Abx W g n T w) (k : Nat) : Abx W g n T (w.drewN k) := h
theorem W3rows (w : World) (A B C : Obj) : (((w.alloc A).alloc B).alloc C).heap[w.heap.size]? = some A ∧ (((w.alloc A).alloc B).alloc C).heap[w.heap.size + 1]? = some B ∧ (((w.alloc A).alloc B).alloc C).heap[w.heap.size + 1 + 1]? = some C := by
  refine ⟨?_, ?_, heap_alloc3_new _ _ _ _⟩
  · rw [Below.heap_alloc _ _ _ (by simp; omega)]; exact heap_alloc2_old _ _ _
  · rw [Below.heap_alloc _ _ _ (by simp)]; exact heap_alloc2_new _ _ _
set_option maxHeartbeats 4000000 in
theorem minus_at (x y z u v t : Nat) (w : World) (hx : x < 18446744073709551616) (hy : y < 18446744073709551616) (hz : z < 18446744073709551616) (hu : u < 18446744073709551616) (hv : v < 18446744073709551616) (ht : t < 18446744073709551616) :
    Calls Tryd.prog 83 #[.agg #[.float .f64 x, .float .f64 y, .float .f64 z], .agg #[.float .f64 u, .float .f64 v, .float .f64 t]] w fun e w' => e = .returned (.agg #[.float .f64 (sbB x u), .float .f64 (sbB y v), .float .f64 (sbB z t)]) ∧ Below w.heap.size w w' := by
  obtain ⟨r1, n1, k1, q1⟩ := sub_any (P := Tryd.prog) (((w.alloc (.cells #[.float .f64 x, .float .f64 y, .float .f64 z] 122)).alloc (.cells #[.float .f64 u, .float .f64 v, .float .f64 t] 122)).alloc (.cells #[.float .f64 0, .float .f64 0, .float .f64 0] 122)) x _ u _ (IsQ.self hx) (IsQ.self hu)
  obtain ⟨r2, n2, k2, q2⟩ := sub_any (P := Tryd.prog) ((((w.alloc (.cells #[.float .f64 x, .float .f64 y, .float .f64 z] 122)).alloc (.cells #[.float .f64 u, .float .f64 v, .float .f64 t] 122)).alloc (.cells #[.float .f64 0, .float .f64 0, .float .f64 0] 122)).drewN n1) y _ v _ (IsQ.self hy) (IsQ.self hv)
  obtain ⟨r3, n3, k3, q3⟩ := sub_any (P := Tryd.prog) ((((w.alloc (.cells #[.float .f64 x, .float .f64 y, .float .f64 z] 122)).alloc (.cells #[.float .f64 u, .float .f64 v, .float .f64 t] 122)).alloc (.cells #[.float .f64 0, .float .f64 0, .float .f64 0] 122)).drewN (n1 + n2)) z _ t _ (IsQ.self hz) (IsQ.self ht)
  rw [World.drewN_drewN] at k2 k3
  rw [sbB_q hu] at q1
  rw [sbB_q hv] at q2
  rw [sbB_q ht] at q3
  have CN := hid (fun w => vcanon_at r1 r2 r3 _ _ _ w q1 q2 q3)
  have A0 := hid (bl3 w (.cells #[.float .f64 x, .float .f64 y, .float .f64 z] 122) (.cells #[.float .f64 u, .float .f64 v, .float .f64 t] 122) (.cells #[.float .f64 0, .float .f64 0, .float .f64 0] 122))
  have R0 := hid (W3rows w (.cells #[.float .f64 x, .float .f64 y, .float .f64 z] 122) (.cells #[.float .f64 u, .float .f64 v, .float .f64 t] 122) (.cells #[.float .f64 0, .float .f64 0, .float .f64 0] 122))
  clear q1 q2 q3 hx hy hz hu hv ht
  go_enter Tryd.func83, Tryd.ntmps83
  go_wp2_with fail
  refine (CN.out _).mono ?_
  rintro e w4 ⟨rfl, b4⟩
  have A4 : Hid (Ab w w4) := Ab.call (Ab.drewN A0.out _) b4
  have r0 : w4.heap[w.heap.size + 1 + 1]? = some (.cells #[.float .f64 0, .float .f64 0, .float .f64 0] 122) := Ab.heap b4 R0.out.2.2
  obtain ⟨⟨o0, o1, o2⟩, o3, o4, o5⟩ := rowfacts r0
  have R4 := hid r0
  clear r0 b4 A0 R0 k1 k2 k3
  go_wp2
  refine bodyPost_ret ?_ rfl ⟨rfl, ?_⟩
  · exact results_cell_row Tryd.results83 _ _ (w.heap.size + 1 + 1) _ _ (0, 0) _ rfl (row3 R4.out) Tryd.underlying122 rfl (by kernel_rfl)
  · exact ((Ab.setk A4.out (by omega) _).setk (by omega) _).setk (by omega) _
set_option maxHeartbeats 8000000 in
theorem cross_at (x y z u v t : Nat) (w : World) (hx : x < 18446744073709551616) (hy : y < 18446744073709551616) (hz : z < 18446744073709551616) (hu : u < 18446744073709551616) (hv : v < 18446744073709551616) (ht : t < 18446744073709551616) :
    Calls Tryd.prog 82 #[.agg #[.float .f64 x, .float .f64 y, .float .f64 z], .agg #[.float .f64 u, .float .f64 v, .float .f64 t]] w fun e w' => e = .returned (.agg #[.float .f64 (sbB (mlB y t) (mlB z v)), .float .f64 (sbB (mlB z u) (mlB x t)), .float .f64 (sbB (mlB x v) (mlB y u))]) ∧ Below w.heap.size w w' := by
  obtain ⟨c0, hc0⟩ : ∃ c, sbB (mlB y t) (mlB z v) = c := ⟨_, rfl⟩
  obtain ⟨c1, hc1⟩ : ∃ c, sbB (mlB z u) (mlB x t) = c := ⟨_, rfl⟩
  obtain ⟨c2, hc2⟩ : ∃ c, sbB (mlB x v) (mlB y u) = c := ⟨_, rfl⟩
  rw [hc0, hc1, hc2]
  have T0 : Hid (∀ u0, Calls Tryd.prog 92 #[.float .f64 y, .float .f64 z, .float .f64 v, .float .f64 t] u0 fun e w' => ∃ r n, e = .returned (.float .f64 r) ∧ w' = u0.drewN n ∧ Hid (IsC r c0)) := fun u0 => by rw [← hc0]; exact area_at y z v t u0 hy hz hv ht
  have T1 : Hid (∀ u0, Calls Tryd.prog 92 #[.float .f64 z, .float .f64 x, .float .f64 t, .float .f64 u] u0 fun e w' => ∃ r n, e = .returned (.float .f64 r) ∧ w' = u0.drewN n ∧ Hid (IsC r c1)) := fun u0 => by rw [← hc1]; exact area_at z x t u u0 hz hx ht hu
  have T2 : Hid (∀ u0, Calls Tryd.prog 92 #[.float .f64 x, .float .f64 y, .float .f64 u, .float .f64 v] u0 fun e w' => ∃ r n, e = .returned (.float .f64 r) ∧ w' = u0.drewN n ∧ Hid (IsC r c2)) := fun u0 => by rw [← hc2]; exact area_at x y u v u0 hx hy hu hv
  have CN := hid (fun r1 r2 r3 w (q1 : IsC r1 c0) (q2 : IsC r2 c1) (q3 : IsC r3 c2) => vcanon_at r1 r2 r3 _ _ _ w q1 q2 q3)
  have A0 := hid (bl3 w (.cells #[.float .f64 x, .float .f64 y, .float .f64 z] 122) (.cells #[.float .f64 u, .float .f64 v, .float .f64 t] 122) (.cells #[.float .f64 0, .float .f64 0, .float .f64 0] 122))
  have R0 := hid (W3rows w (.cells #[.float .f64 x, .float .f64 y, .float .f64 z] 122) (.cells #[.float .f64 u, .float .f64 v, .float .f64 t] 122) (.cells #[.float .f64 0, .float .f64 0, .float .f64 0] 122))
  clear hx hy hz hu hv ht hc0 hc1 hc2
  go_enter Tryd.func82, Tryd.ntmps82
  go_upto_region 1 with fail
  generalize hW : World.alloc _ _ = W
  have AW : Hid (Ab w W) := by rw [← hW]; exact A0.out
  have ra : W.heap[w.heap.size]? = some (.cells #[.float .f64 x, .float .f64 y, .float .f64 z] 122) := by rw [← hW]; exact R0.out.1
  have rb : W.heap[w.heap.size + 1]? = some (.cells #[.float .f64 u, .float .f64 v, .float .f64 t] 122) := by rw [← hW]; exact R0.out.2.1
  have rc : W.heap[w.heap.size + 1 + 1]? = some (.cells #[.float .f64 0, .float .f64 0, .float .f64 0] 122) := by rw [← hW]; exact R0.out.2.2
  have KS : Hid (∀ w', Abx W (w.heap.size + 1 + 1) 3 122 w' → Abx W (w.heap.size + 1 + 1) 3 122 w' ∧ w'.cell? ⟨w.heap.size, 0, none⟩ = some (.float .f64 x) ∧ w'.cell? ⟨w.heap.size, 1, none⟩ = some (.float .f64 y) ∧ w'.cell? ⟨w.heap.size, 2, none⟩ = some (.float .f64 z) ∧ w'.cell? ⟨w.heap.size + 1, 0, none⟩ = some (.float .f64 u) ∧ w'.cell? ⟨w.heap.size + 1, 1, none⟩ = some (.float .f64 v) ∧ w'.cell? ⟨w.heap.size + 1, 2, none⟩ = some (.float .f64 t) ∧ w'.frozen? ⟨w.heap.size + 1 + 1, 0, none⟩ = false ∧ w'.frozen? ⟨w.heap.size + 1 + 1, 1, none⟩ = false ∧ w'.frozen? ⟨w.heap.size + 1 + 1, 2, none⟩ = false ∧ w'.cell? ⟨w.heap.size + 1 + 1, 0, none⟩ = some (rv w' (w.heap.size + 1 + 1) 0) ∧ w'.cell? ⟨w.heap.size + 1 + 1, 1, none⟩ = some (rv w' (w.heap.size + 1 + 1) 1) ∧ w'.cell? ⟨w.heap.size + 1 + 1, 2, none⟩ = some (rv w' (w.heap.size + 1 + 1) 2)) := by
    intro w' hw
    obtain ⟨-, p3, p4, p5⟩ := rowfacts (hw.heap (by omega) ra)
    obtain ⟨-, p6, p7, p8⟩ := rowfacts (hw.heap (by omega) rb)
    exact ⟨hw, p3, p4, p5, p6, p7, p8, hw.free 0, hw.free 1, hw.free 2, hw.some (by omega), hw.some (by omega), hw.some (by omega)⟩
  have A1 : Abx W (w.heap.size + 1 + 1) 3 122 W := (Ab.refl W).x rfl rc
  clear ra rb rc hW A0 R0
  go_region_held3 (fun w' => Abx W (w.heap.size + 1 + 1) 3 122 w' ∧ w'.cell? ⟨w.heap.size, 0, none⟩ = some (.float .f64 x) ∧ w'.cell? ⟨w.heap.size, 1, none⟩ = some (.float .f64 y) ∧ w'.cell? ⟨w.heap.size, 2, none⟩ = some (.float .f64 z) ∧ w'.cell? ⟨w.heap.size + 1, 0, none⟩ = some (.float .f64 u) ∧ w'.cell? ⟨w.heap.size + 1, 1, none⟩ = some (.float .f64 v) ∧ w'.cell? ⟨w.heap.size + 1, 2, none⟩ = some (.float .f64 t) ∧ w'.frozen? ⟨w.heap.size + 1 + 1, 0, none⟩ = false ∧ w'.frozen? ⟨w.heap.size + 1 + 1, 1, none⟩ = false ∧ w'.frozen? ⟨w.heap.size + 1 + 1, 2, none⟩ = false ∧ w'.cell? ⟨w.heap.size + 1 + 1, 0, none⟩ = some (rv w' (w.heap.size + 1 + 1) 0) ∧ w'.cell? ⟨w.heap.size + 1 + 1, 1, none⟩ = some (rv w' (w.heap.size + 1 + 1) 1) ∧ w'.cell? ⟨w.heap.size + 1 + 1, 2, none⟩ = some (rv w' (w.heap.size + 1 + 1) 2)) ((refine KS.out _ ?_; (with_reducible (repeat (first | assumption | apply Abx.drew | apply Abx.drewN | apply Abx.set | (refine Abx.call ?_ (by assumption))))); done)) (first
    | (go_at_call 92; have hh := q2.out; refine (T2.out _).mono ?_; rintro e w3 ⟨r3, n3, rfl, rfl, q3⟩)
    | (go_at_call 92; have hh := q1.out; refine (T1.out _).mono ?_; rintro e w2 ⟨r2, n2, rfl, rfl, q2⟩)
    | (go_at_call 92; refine (T0.out _).mono ?_; rintro e w1 ⟨r1, n1, rfl, rfl, q1⟩)
    | (go_at_call 91; refine (CN.out _ _ _ _ q1.out q2.out q3.out).mono ?_; rintro e w4 ⟨rfl, b4⟩))
  have A2 : Abx W (w.heap.size + 1 + 1) 3 122 w4 := Abx.call (A1.drewN _) b4
  clear KS A1 b4
  go_wp2
  refine bodyPost_ret ?_ rfl ⟨rfl, ?_⟩
  · exact results_cell_row Tryd.results82 _ _ (w.heap.size + 1 + 1) _ _ (0, 0) _ rfl (set3 A2) Tryd.underlying122 rfl (by kernel_rfl)
  · exact (((A2.set 0 _).set 1 _).set 2 _).ab AW.out (by omega)
set_option maxHeartbeats 8000000 in
theorem length_at (x y z : Nat) (w : World) (hx : x < 18446744073709551616) (hy : y < 18446744073709551616) (hz : z < 18446744073709551616) :
    Calls Tryd.prog 81 #[.agg #[.float .f64 x, .float .f64 y, .float .f64 z]] w fun e w' => e = .returned (.float .f64 (lnB x y z)) ∧ Below w.heap.size w w' := by
  obtain ⟨T, hT⟩ : ∃ T, thB (sqB x) (sqB y) (sqB z) = T := ⟨_, rfl⟩
  obtain ⟨l, hl⟩ : ∃ l, lnB x y z = l := ⟨_, rfl⟩
  have hlT : rtB T = l := by rw [← hT, ← hl]; rfl
  rw [hl]
  have TH : Hid (∀ r1 r2 r3 u0, IsQ r1 (sqB x) → IsQ r2 (sqB y) → IsQ r3 (sqB z) → Calls Tryd.prog 89 #[.float .f64 r1, .float .f64 r2, .float .f64 r3] u0 fun e w' => e = .returned (.float .f64 T) ∧ Below u0.heap.size u0 w') := fun r1 r2 r3 u0 q1 q2 q3 => by
    rw [← hT, ← q1.2, ← q2.2, ← q3.2, ← thB_q]
    exact three_at r1 r2 r3 u0 q1.1 q2.1 q3.1
  have T0 : Hid (∀ u0, Calls Tryd.prog 90 #[.float .f64 x] u0 fun e w' => ∃ r n, e = .returned (.float .f64 r) ∧ w' = u0.drewN n ∧ Hid (IsQ r (sqB x))) := fun u0 => square_at x u0 hx
  have T1 : Hid (∀ u0, Calls Tryd.prog 90 #[.float .f64 y] u0 fun e w' => ∃ r n, e = .returned (.float .f64 r) ∧ w' = u0.drewN n ∧ Hid (IsQ r (sqB y))) := fun u0 => square_at y u0 hy
  have T2 : Hid (∀ u0, Calls Tryd.prog 90 #[.float .f64 z] u0 fun e w' => ∃ r n, e = .returned (.float .f64 r) ∧ w' = u0.drewN n ∧ Hid (IsQ r (sqB z))) := fun u0 => square_at z u0 hz
  have SQ : Hid (∀ u0, Calls Tryd.prog 88 #[.float .f64 T] u0 fun e w' => ∃ r n, e = .returned (.float .f64 r) ∧ w' = u0.drewN n ∧ Hid (IsC r l)) := fun u0 => by rw [← hlT]; exact sqrt_at T u0
  have CN : Hid (∀ r u0, IsC r l → Calls Tryd.prog 37 #[.float .f64 r] u0 fun e w' => e = .returned (.float .f64 l) ∧ w' = u0) := fun r u0 q => by rw [← q.2]; exact canon_any r u0 q.1
  have A0 := hid (bl1 w (.cells #[.float .f64 x, .float .f64 y, .float .f64 z] 122))
  have R0 := hid (heap_alloc_new w (.cells #[.float .f64 x, .float .f64 y, .float .f64 z] 122))
  clear hx hy hz hT hl hlT
  go_enter Tryd.func81, Tryd.ntmps81
  go_upto_region 1 with fail
  generalize hW : World.alloc _ _ = W
  have AW : Hid (Ab w W) := by rw [← hW]; exact A0.out
  have ra : W.heap[w.heap.size]? = some (.cells #[.float .f64 x, .float .f64 y, .float .f64 z] 122) := by rw [← hW]; exact R0.out
  have KS : Hid (∀ w', Ab W w' → Ab W w' ∧ w'.cell? ⟨w.heap.size, 0, none⟩ = some (.float .f64 x) ∧ w'.cell? ⟨w.heap.size, 1, none⟩ = some (.float .f64 y) ∧ w'.cell? ⟨w.heap.size, 2, none⟩ = some (.float .f64 z)) := by
    intro w' hw
    obtain ⟨-, p3, p4, p5⟩ := rowfacts (hw.heap ra)
    exact ⟨hw, p3, p4, p5⟩
  have A1 : Ab W W := Ab.refl W
  clear ra hW A0 R0
  go_region_held3 (fun w' => Ab W w' ∧ w'.cell? ⟨w.heap.size, 0, none⟩ = some (.float .f64 x) ∧ w'.cell? ⟨w.heap.size, 1, none⟩ = some (.float .f64 y) ∧ w'.cell? ⟨w.heap.size, 2, none⟩ = some (.float .f64 z)) ((refine KS.out _ ?_; (with_reducible (repeat (first | assumption | apply Ab.drew | apply Ab.drewN | (refine Ab.call ?_ (by assumption))))); done)) (first
    | (go_at_call 90; have hh := q2.out; refine (T2.out _).mono ?_; rintro e w3 ⟨r3, n3, rfl, rfl, q3⟩)
    | (go_at_call 90; have hh := q1.out; refine (T1.out _).mono ?_; rintro e w2 ⟨r2, n2, rfl, rfl, q2⟩)
    | (go_at_call 90; refine (T0.out _).mono ?_; rintro e w1 ⟨r1, n1, rfl, rfl, q1⟩)
    | (go_at_call 89; refine (TH.out _ _ _ _ q1.out q2.out q3.out).mono ?_; rintro e w4 ⟨rfl, b4⟩)
    | (go_at_call 88; refine (SQ.out _).mono ?_; rintro e w5 ⟨r5, n5, rfl, rfl, q5⟩)
    | (go_at_call 37; refine (CN.out _ _ q5.out).mono ?_; rintro e w6 ⟨rfl, rfl⟩))
  have A2 : Hid (Ab w w4) := Ab.call (Ab.drewN AW.out _) b4
  clear KS A1 b4
  go_wp2
  go_ret
  exact ⟨rfl, Ab.drewN A2.out _⟩
set_option maxHeartbeats 4000000 in
theorem gap_at (x y z u v t : Nat) (w : World) (hx : x < 18446744073709551616) (hy : y < 18446744073709551616) (hz : z < 18446744073709551616) (hu : u < 18446744073709551616) (hv : v < 18446744073709551616) (ht : t < 18446744073709551616) :
    Calls Tryd.prog 85 #[.agg #[.float .f64 x, .float .f64 y, .float .f64 z], .agg #[.float .f64 u, .float .f64 v, .float .f64 t]] w fun e w' => e = .returned (.float .f64 (lnB (sbB x u) (sbB y v) (sbB z t))) ∧ Below w.heap.size w w' := by
  have MI := hid (fun w => minus_at x y z u v t w hx hy hz hu hv ht)
  have LN := hid (fun w => length_at _ _ _ w (sbB_lt hx hu) (sbB_lt hy hv) (sbB_lt hz ht))
  have A0 := hid (bl2 w (.cells #[.float .f64 x, .float .f64 y, .float .f64 z] 122) (.cells #[.float .f64 u, .float .f64 v, .float .f64 t] 122))
  clear hx hy hz hu hv ht
  go_enter Tryd.func85, Tryd.ntmps85
  go_wp2_with fail
  refine (MI.out _).mono ?_
  rintro e w1 ⟨rfl, b1⟩
  go_wp2_with fail
  refine (LN.out _).mono ?_
  rintro e w2 ⟨rfl, b2⟩
  have A2 : Hid (Ab w w2) := (Ab.call A0.out b1).call b2
  clear b1 b2 A0
  go_wp2
  go_ret
  exact ⟨rfl, A2.out⟩
end Go.Proofs.YtjgbaenihkplpaaDoor

/-
  Units of vectors: walks over the program.
-/
namespace Go.Proofs.YtjgbaenihkplpaaDoor
open Go.RowKit Tf
attribute [local go_sem] run_bits run_from raw_feq raw_fne raw_flt raw_fgt run_neg run_store_float
/-- is it a length by which a vector is divided? -/
def lvB (l : Nat) : Bool := fgt l 0 && !fgt l 9218868437227405311
def unB (l x : Nat) : Nat := if lvB l = true then dvB x l else 0
theorem unB_lt (l x : Nat) : unB l x < 18446744073709551616 := by
  unfold unB
  split
  · unfold dvB
    split
    · next r h => exact canon_lt (div_lt h)
    · decide
  · decide
theorem unB_canon (l x : Nat) : canonB (unB l x) = unB l x := by
  unfold unB
  split
  · exact dvB_canon x l
  · decide
set_option maxHeartbeats 1000000 in
theorem isInf_at (x : Nat) (w : World) :
    Calls Tryd.prog 105 #[.float .f64 x, .int .i64 1] w fun e w' => e = .returned (.bool (fgt x 9218868437227405311)) ∧ w' = w := by
  go_enter Tryd.func105, Tryd.ntmps105
  go_wp2
  go_ret
  exact ⟨rfl, rfl⟩
set_option maxHeartbeats 8000000 in
theorem unit_at (x y z : Nat) (w : World) (hx : x < 18446744073709551616) (hy : y < 18446744073709551616) (hz : z < 18446744073709551616) :
    Calls Tryd.prog 102 #[.agg #[.float .f64 x, .float .f64 y, .float .f64 z]] w fun e w' => e = .returned (.agg #[.float .f64 (unB (lnB x y z) x), .float .f64 (unB (lnB x y z) y), .float .f64 (unB (lnB x y z) z)]) ∧ Below w.heap.size w w' := by
  have LN := hid (fun w => length_at x y z w hx hy hz)
  obtain ⟨l, hl⟩ : ∃ l, lnB x y z = l := ⟨_, rfl⟩
  rw [hl]
  rw [hl] at LN
  have IF := hid (fun w => isInf_at l w)
  have A0 := hid (bl2 w (.cells #[.float .f64 x, .float .f64 y, .float .f64 z] 122) (.cells #[.float .f64 0, .float .f64 0, .float .f64 0] 122))
  have R0 := hid (And.intro (heap_alloc2_old w (.cells #[.float .f64 x, .float .f64 y, .float .f64 z] 122) (.cells #[.float .f64 0, .float .f64 0, .float .f64 0] 122)) (heap_alloc2_new w (.cells #[.float .f64 x, .float .f64 y, .float .f64 z] 122) (.cells #[.float .f64 0, .float .f64 0, .float .f64 0] 122)))
  clear hx hy hz hl
  obtain ⟨p1, hp1⟩ : ∃ p, fgt l 0 = p := ⟨_, rfl⟩
  obtain ⟨p2, hp2⟩ : ∃ p, fgt l 9218868437227405311 = p := ⟨_, rfl⟩
  rw [hp2] at IF
  cases p1 with
  | false =>
    have hu : ∀ k, unB l k = 0 := fun k => by simp [unB, lvB, hp1]
    rw [hu, hu, hu]
    clear hu
    go_enter Tryd.func102, Tryd.ntmps102
    go_wp2_with fail
    refine (LN.out _).mono ?_
    rintro e w1 ⟨rfl, b1⟩
    have r0 : w1.heap[w.heap.size + 1]? = some (.cells #[.float .f64 0, .float .f64 0, .float .f64 0] 122) := Ab.heap b1 R0.out.2
    have A1 : Hid (Ab w w1) := Ab.call A0.out b1
    obtain ⟨⟨o0, o1, o2⟩, o3, o4, o5⟩ := rowfacts r0
    have R1 := hid r0
    clear r0 b1 A0 R0
    go_wp2
    refine bodyPost_ret ?_ rfl ⟨rfl, ?_⟩
    · exact results_cell_row Tryd.results102 _ _ (w.heap.size + 1) _ _ (0, 0) _ rfl (row3 R1.out) Tryd.underlying122 rfl (by kernel_rfl)
    · exact ((Ab.setk A1.out (by omega) _).setk (by omega) _).setk (by omega) _
  | true =>
    cases p2 with
    | true =>
      have hu : ∀ k, unB l k = 0 := fun k => by simp [unB, lvB, hp2]
      rw [hu, hu, hu]
      clear hu hp2
      go_enter Tryd.func102, Tryd.ntmps102
      go_wp2_with fail
      refine (LN.out _).mono ?_
      rintro e w1 ⟨rfl, b1⟩
      have r0 : w1.heap[w.heap.size + 1]? = some (.cells #[.float .f64 0, .float .f64 0, .float .f64 0] 122) := Ab.heap b1 R0.out.2
      have A1 : Hid (Ab w w1) := Ab.call A0.out b1
      obtain ⟨⟨o0, o1, o2⟩, o3, o4, o5⟩ := rowfacts r0
      have R1 := hid r0
      clear r0 b1 A0 R0
      go_wp2_with fail
      refine (IF.out _).mono ?_
      rintro e w1 ⟨rfl, rfl⟩
      go_wp2
      refine bodyPost_ret ?_ rfl ⟨rfl, ?_⟩
      · exact results_cell_row Tryd.results102 _ _ (w.heap.size + 1) _ _ (0, 0) _ rfl (row3 R1.out) Tryd.underlying122 rfl (by kernel_rfl)
      · exact ((Ab.setk A1.out (by omega) _).setk (by omega) _).setk (by omega) _
    | false =>
      have hu : ∀ k, unB l k = dvB k l := fun k => by simp [unB, lvB, hp1, hp2]
      rw [hu, hu, hu]
      clear hu hp2
      go_enter Tryd.func102, Tryd.ntmps102
      go_wp2_with fail
      refine (LN.out _).mono ?_
      rintro e w1 ⟨rfl, b1⟩
      have r0 : w1.heap[w.heap.size + 1]? = some (.cells #[.float .f64 0, .float .f64 0, .float .f64 0] 122) := Ab.heap b1 R0.out.2
      have ra : w1.heap[w.heap.size]? = some (.cells #[.float .f64 x, .float .f64 y, .float .f64 z] 122) := Ab.heap b1 R0.out.1
      have A1 : Hid (Ab w w1) := Ab.call A0.out b1
      obtain ⟨-, a0, a1, a2⟩ := rowfacts ra
      have R1 := hid r0
      obtain ⟨r1, n1, k1, q1⟩ := div_any (P := Tryd.prog) w1 x l
      obtain ⟨r2, n2, k2, q2⟩ := div_any (P := Tryd.prog) (w1.drewN n1) y l
      obtain ⟨r3, n3, k3, q3⟩ := div_any (P := Tryd.prog) (w1.drewN (n1 + n2)) z l
      rw [World.drewN_drewN] at k2 k3
      have CN := hid (fun w => vcanon_at r1 r2 r3 _ _ _ w q1 q2 q3)
      clear r0 ra b1 A0 R0 q1 q2 q3
      go_wp2_with fail
      refine (IF.out _).mono ?_
      rintro e w1 ⟨rfl, rfl⟩
      go_wp2_with fail
      refine (CN.out _).mono ?_
      rintro e w4 ⟨rfl, b4⟩
      have A4 : Hid (Ab w w4) := Ab.call (Ab.drewN A1.out _) b4
      have r4 : w4.heap[w.heap.size + 1]? = some (.cells #[.float .f64 0, .float .f64 0, .float .f64 0] 122) := Ab.heap b4 R1.out
      obtain ⟨⟨o0, o1, o2⟩, o3, o4, o5⟩ := rowfacts r4
      have R4 := hid r4
      clear r4 b4 A1 R1 k1 k2 k3 a0 a1 a2
      go_wp2
      refine bodyPost_ret ?_ rfl ⟨rfl, ?_⟩
      · exact results_cell_row Tryd.results102 _ _ (w.heap.size + 1) _ _ (0, 0) _ rfl (row3 R4.out) Tryd.underlying122 rfl (by kernel_rfl)
      · exact ((Ab.setk A4.out (by omega) _).setk (by omega) _).setk (by omega) _
end Go.Proofs.YtjgbaenihkplpaaDoor

/-
  The small helpers of the statements on vectors: walks over the program.
-/
namespace Go.Proofs.YtjgbaenihkplpaaDoor
open Go.RowKit Tf
attribute [local go_sem] run_bits run_from raw_feq raw_fne raw_flt raw_fgt run_neg run_store_float
end Go.Proofs.YtjgbaenihkplpaaDoor

/-
  The program is awake: a walk over it.
-/
namespace Go.Proofs.YtjgbaenihkplpaaDoor
open Go.RowKit Tf
theorem lv_v1 : lnB 4613937818241073152 4616189618054758400 0 = 4617315517961601024 := by decide +kernel
theorem lv_v2 : sbB (mlB 0 0) (mlB 0 4607182418800017408) = 0 := by decide +kernel
theorem lv_v3 : sbB (mlB 0 0) (mlB 4607182418800017408 0) = 0 := by decide +kernel
theorem lv_v4 : sbB (mlB 4607182418800017408 4607182418800017408) (mlB 0 0) = 4607182418800017408 := by decide +kernel
theorem lv_v5 : unB (lnB 13835058055282163712 0 0) 13835058055282163712 = 13830554455654793216 := by decide +kernel
theorem lv_v6 : unB (lnB 13835058055282163712 0 0) 0 = 0 := by decide +kernel
theorem lv_v7 : lnB (sbB 4607182418800017408 4607182418800017408) (sbB 4611686018427387904 4611686018427387904) (sbB 4613937818241073152 4617315517961601024) = 4611686018427387904 := by decide +kernel
theorem lv_v8 : sbB 4607182418800017408 4613937818241073152 = 13835058055282163712 := by decide +kernel
theorem lv_v9 : sbB 4611686018427387904 4611686018427387904 = 0 := by decide +kernel
theorem lv_v10 : sbB 4613937818241073152 4607182418800017408 = 4611686018427387904 := by decide +kernel
end Go.Proofs.YtjgbaenihkplpaaDoor

/-
  The reference's differences, cross products, lengths, units and gaps of vectors: walks over the program.
-/
namespace Go.Proofs.YtjgbaenihkplpaaDoor
open Go.RowKit Tf
attribute [local go_sem] run_bits run_from raw_feq raw_fne raw_flt raw_fgt run_neg run_store_float
end Go.Proofs.YtjgbaenihkplpaaDoor

/-
  The reference's units of vectors, and lengths that a vector is divided by: walks over the program.
-/
namespace Go.Proofs.YtjgbaenihkplpaaDoor
open Go.RowKit Tf
attribute [local go_sem] run_bits run_from raw_feq raw_fne raw_flt raw_fgt run_neg run_store_float
open Ieee in
theorem rtB_ng (x : Nat) : ng (rtB x) = false := by
  have key : ∀ r, double.sqrt x = some r → ng (canonB r) = false := by
    intro r h
    unfold Format.sqrt at h
    cases e : double.read x with
    | nan s f => rw [e] at h; simp [Datum.root] at h
    | infinity s =>
      rw [e] at h
      cases s
      · simp [Datum.root, Format.write] at h; subst h; decide
      · simp [Datum.root] at h
    | number s m i =>
      rw [e] at h
      unfold Datum.root at h
      dsimp only at h
      by_cases hm : m = 0
      · rw [if_pos hm] at h
        simp only [Option.map_some, Option.some.injEq, Format.write, Format.nearest, hm, if_true] at h
        subst h
        cases s <;> decide
      · rw [if_neg hm] at h
        cases s
        · simp only [Bool.false_eq_true, if_false, Option.map_some, Option.some.injEq, Format.write] at h
          subst h
          have hw : ∀ a b, double.nearest false a b ≤ 9218868437227405312 := by
            intro a b
            unfold Format.nearest
            split
            · rw [d_word]; simp
            · rw [d_word, d_inf]; simp only [Bool.false_eq_true, if_false]; exact Nat.min_le_right _ _
          generalize hq : double.nearest false _ _ = q
          have hle : q ≤ 9218868437227405312 := by rw [← hq]; exact hw _ _
          unfold canonB
          split
          · decide
          · split
            · decide
            · exact ng_of_lt (by omega)
        · simp at h
  cases h : double.sqrt x with
  | none => rw [rtB_none h]; decide
  | some r => rw [rtB_some h]; exact key r h
theorem rtB_lt (x : Nat) : rtB x < 18446744073709551616 := by
  cases h : Ieee.double.sqrt x with
  | none => rw [rtB_none h]; decide
  | some r => rw [rtB_some h]; exact canon_lt (sqrt_lt h)
/-- of a length: lives, or what class it has -/
theorem lv_class {l : Nat} (hl : l < 18446744073709551616) (hn : ng l = false) : lvB l = (classB l == 1 || classB l == 2) := by
  unfold lvB
  rw [fgt_rk l 0 hl (by decide), fgt_rk l _ hl (by decide)]
  have e1 : rk 0 = 0 := by decide
  have e2 : rk 9218868437227405311 = 9218868437227405311 := by decide
  have e3 : isN 0 = false := by decide
  have e4 : isN 9218868437227405311 = false := by decide
  have e5 : rk l = (mg l : Int) := by unfold rk; rw [hn]; rfl
  rw [e1, e2, e3, e4, e5]
  unfold classB isN
  by_cases a : mg l = 0
  · simp [a]
  · rw [if_neg a]
    by_cases b : mg l < 4503599627370496
    · rw [if_pos b]
      have : ¬ 9218868437227405312 < mg l := by omega
      simp [this]; omega
    · rw [if_neg b]
      by_cases c : mg l < 9218868437227405312
      · rw [if_pos c]
        have : ¬ 9218868437227405312 < mg l := by omega
        simp [this]; omega
      · rw [if_neg c]
        by_cases d : mg l = 9218868437227405312
        · rw [if_pos d]; simp [d]
        · rw [if_neg d]
          have : 9218868437227405312 < mg l := by omega
          simp [this]
end Go.Proofs.YtjgbaenihkplpaaDoor

/-
  A length is no less than the parts, by plain numbers (no program).
-/
namespace Go.Proofs.YtjgbaenihkplpaaDoor
open Tf Ieee
theorem rung_ge2 {d r V : Nat} (h : mv r * 2 ^ d ≤ V) : r ≤ rung 52 d V := rung_ge (by omega) h
theorem rung_le2 {d r V : Nat} (h : V ≤ mv r * 2 ^ d) : rung 52 d V ≤ r := rung_le (by omega) h
/-- how far a rounded number is off -/
theorem near_err {d V R : Nat} (hR : rung 52 d V = R) (h : 4503599627370496 ≤ R) :
    9007199254740992 * V ≤ 9007199254740993 * (mv R * 2 ^ d) ∧ 9007199254740991 * (mv R * 2 ^ d) ≤ 9007199254740992 * V := by
  obtain ⟨q, h1, h2⟩ := floor_ex 52 d V
  have hb := rung_between 52 d q V (by omega) h1 h2
  rw [hR] at hb
  have e1 : mag 52 q = mv q := rfl
  have e2 : mag 52 (q + 1) = mv (q + 1) := rfl
  rw [e1, e2] at hb
  rw [e1] at h1
  rw [e2] at h2
  have hn := mv_next q
  have hbig : ∀ r, 4503599627370496 ≤ r → 4503599627370496 * 2 ^ (r / 4503599627370496 - 1) ≤ mv r := by
    intro r hr
    rw [mv_parts hr]
    exact Nat.mul_le_mul_right _ (by omega)
  have hmono : 2 ^ (q / 4503599627370496 - 1) ≤ 2 ^ ((q + 1) / 4503599627370496 - 1) := Nat.pow_le_pow_right (by omega) (by
    have : q / 4503599627370496 ≤ (q + 1) / 4503599627370496 := Nat.div_le_div_right (by omega)
    omega)
  have key : 4503599627370496 * 2 ^ (q / 4503599627370496 - 1) ≤ mv R := by
    split at hb
    · rw [hb]
      exact Nat.le_trans (Nat.mul_le_mul_left _ hmono) (hbig (q + 1) (by omega))
    · rw [hb]; exact hbig q (by omega)
  clear hbig hmono
  generalize 2 ^ (q / 4503599627370496 - 1) = g at *
  generalize 2 ^ d = b at *
  have kb := Nat.mul_le_mul_right b key
  rw [Nat.mul_assoc] at kb
  rw [hn, Nat.add_mul] at h2
  split at hb
  · next c =>
    rw [hb, hn] at kb ⊢
    rw [hn] at c
    rw [Nat.add_mul] at kb ⊢
    rw [Nat.add_mul, Nat.add_mul] at c
    generalize mv q * b = A at *
    generalize g * b = G at *
    omega
  · next c =>
    rw [hb] at kb ⊢
    rw [hn] at c
    rw [Nat.add_mul, Nat.add_mul] at c
    generalize mv q * b = A at *
    generalize g * b = G at *
    omega
/-- a number whose square is normal -/
def Gn (x : Nat) : Prop := 4503599627370496 ≤ mg (sqB x) ∧ mg (sqB x) < 9218868437227405312
theorem sq_word {x : Nat} (hx : x < 18446744073709551616) (fx : mg x < 9218868437227405312) : sqB x = min (rung 52 1074 (mv (mg x) * mv (mg x))) 9218868437227405312 := by
  unfold sqB
  rw [mlB_some (mul_d x x hx hx fx fx), Bool.xor_self]
  simp
theorem sq_inf {x : Nat} (hx : x < 18446744073709551616) (h : mg x = 9218868437227405312) : sqB x = 9218868437227405312 := by
  unfold sqB
  rw [mlB_some (mul_ii x x hx hx h h), Bool.xor_self]
  rfl
theorem Gn.fin {x : Nat} (hx : x < 18446744073709551616) (h : Gn x) : mg x < 9218868437227405312 := by
  rcases three x with k | k | k
  · exact k
  · exfalso
    have := h.2
    rw [sq_inf hx k] at this
    exact absurd this (by decide)
  · exfalso
    have := h.2
    unfold sqB at this
    rw [mlB_none (mul_nan _ _ (.inl k))] at this
    exact absurd this (by decide)
theorem sub_small : 4503599627370496 * 4503599627370496 ≤ mv 1 * 2 ^ K := by decide +kernel
theorem Gn.norm {x : Nat} (hx : x < 18446744073709551616) (h : Gn x) : 4503599627370496 ≤ mg x := by
  rcases Nat.lt_or_ge (mg x) 4503599627370496 with k | k
  · exfalso
    have h1 := h.1
    have e0 : mg x < 2 ^ 52 := by
      have e : (2 : Nat) ^ 52 = 4503599627370496 := by decide
      omega
    have e : mv (mg x) = mg x := by unfold mv mag; rw [if_pos e0]
    have h2 : mv (mg x) * mv (mg x) ≤ mv 1 * 2 ^ K := by
      rw [e]
      exact Nat.le_trans (Nat.mul_le_mul (by omega) (by omega)) sub_small
    have h3 : rung 52 1074 (mv (mg x) * mv (mg x)) ≤ 1 := rung_le2 (d := K) h2
    rw [sq_word hx (by omega)] at h1
    generalize rung 52 1074 (mv (mg x) * mv (mg x)) = r at *
    rw [mg_of_lt (by omega)] at h1
    omega
  · exact k
/-- the square in units, and how far it is off -/
theorem Gn.err {x : Nat} (hx : x < 18446744073709551616) (h : Gn x) :
    9007199254740992 * (mv (mg x) * mv (mg x)) ≤ 9007199254740993 * (mv (mg (sqB x)) * 2 ^ K) ∧ 9007199254740991 * (mv (mg (sqB x)) * 2 ^ K) ≤ 9007199254740992 * (mv (mg x) * mv (mg x)) := by
  have hf := h.fin hx
  have e := sq_word hx hf
  obtain ⟨h1, h2⟩ := h
  have hr : rung 52 1074 (mv (mg x) * mv (mg x)) = mg (sqB x) := by
    rw [e] at h2 ⊢
    generalize rung 52 1074 (mv (mg x) * mv (mg x)) = r at *
    have hm : mg (min r 9218868437227405312) = min r 9218868437227405312 := mg_of_lt (Nat.lt_of_le_of_lt (Nat.min_le_right _ _) (by decide))
    rw [hm] at h2 ⊢
    omega
  exact near_err (d := K) hr h1
theorem mul_sq (m g : Nat) : m * g * (m * g) = m * m * (g * g) := Nat.mul_mul_mul_comm m g m g
theorem sq_plus (t : Nat) : (2 * t + 1) * (2 * t + 1) = 4 * (t * t) + 4 * t + 1 := by
  rw [Nat.add_mul, Nat.mul_add, Nat.mul_mul_mul_comm]
  omega
theorem sq_minus (t : Nat) : (2 * t + 1) * (2 * t + 1) + 4 * (t + 1) = 4 * ((t + 1) * (t + 1)) + 1 := by
  have h1 := sq_plus t
  have h5 : (t + 1) * (t + 1) = t * t + 2 * t + 1 := by rw [Nat.add_mul, Nat.mul_add]; omega
  omega
/-- halfway below x, squared, is less than its rounded square; halfway above, more -/
theorem Gn.mid {x : Nat} (hx : x < 18446744073709551616) (h : Gn x) :
    (mv (mg x - 1) + mv (mg x)) * (mv (mg x - 1) + mv (mg x)) < 4 * (mv (mg (sqB x)) * 2 ^ K) ∧ 4 * (mv (mg (sqB x)) * 2 ^ K) < (mv (mg x) + mv (mg x + 1)) * (mv (mg x) + mv (mg x + 1)) := by
  have hn := h.norm hx
  obtain ⟨e1, e2⟩ := h.err hx
  generalize mv (mg (sqB x)) * 2 ^ K = N at *
  generalize mg x = r at *
  have hp := mv_parts hn
  have hq : r % 4503599627370496 < 4503599627370496 := Nat.mod_lt _ (by omega)
  have hnx := mv_next r
  have hpv := mv_next (r - 1)
  rw [show r - 1 + 1 = r by omega] at hpv
  by_cases c : r % 4503599627370496 = 0
  · -- a power of two: below it the numbers lie closer
    rw [c, Nat.add_zero] at hp
    have hg : 2 ^ (r / 4503599627370496 - 1) ≤ 2 * 2 ^ ((r - 1) / 4503599627370496 - 1) := by
      rw [show (2 : Nat) * 2 ^ ((r - 1) / 4503599627370496 - 1) = 2 ^ (((r - 1) / 4503599627370496 - 1) + 1) by rw [Nat.pow_succ, Nat.mul_comm]]
      exact Nat.pow_le_pow_right (by omega) (by omega)
    have gp := Nat.two_pow_pos (r / 4503599627370496 - 1)
    generalize 2 ^ (r / 4503599627370496 - 1) = g at *
    generalize 2 ^ ((r - 1) / 4503599627370496 - 1) = f at *
    rw [hnx]
    generalize mv (r - 1) = A at *
    generalize mv r = X at *
    have hA : 2 * (A + X) ≤ 18014398509481983 * g := by omega
    have hA2 := Nat.mul_le_mul hA hA
    have hB : (X + (X + g)) = 9007199254740993 * g := by omega
    rw [hB, mul_sq]
    rw [hp, mul_sq] at e1 e2
    have zp : 0 < g * g := Nat.mul_pos gp gp
    have hS : 2 * (A + X) * (2 * (A + X)) = 4 * ((A + X) * (A + X)) := by rw [Nat.mul_mul_mul_comm]
    rw [hS, mul_sq 18014398509481983 g] at hA2
    generalize (A + X) * (A + X) = S at *
    generalize g * g = Z at *
    omega
  · have hd : (r - 1) / 4503599627370496 = r / 4503599627370496 := by omega
    rw [hd] at hpv
    have gp := Nat.two_pow_pos (r / 4503599627370496 - 1)
    generalize 2 ^ (r / 4503599627370496 - 1) = g at *
    obtain ⟨m, hm⟩ : ∃ m, 4503599627370496 + r % 4503599627370496 = m := ⟨_, rfl⟩
    rw [hm] at hp
    have m1 : 4503599627370496 ≤ m := by omega
    have m2 : m ≤ 9007199254740991 := by omega
    rw [hnx]
    generalize mv (r - 1) = A at *
    generalize mv r = X at *
    have hA : A + X = (2 * m - 1) * g := by
      rw [Nat.sub_mul, Nat.mul_assoc, ← hp, Nat.one_mul]
      omega
    have hB : X + (X + g) = (2 * m + 1) * g := by
      rw [Nat.add_mul, Nat.mul_assoc, ← hp, Nat.one_mul]
      omega
    rw [hA, hB, mul_sq, mul_sq]
    rw [hp, mul_sq] at e1 e2
    have zp : 0 < g * g := Nat.mul_pos gp gp
    generalize g * g = Z at *
    have q1 : (2 * m - 1) * (2 * m - 1) + 4 * m = 4 * (m * m) + 1 := by
      obtain ⟨t, rfl⟩ : ∃ t, m = t + 1 := ⟨m - 1, by omega⟩
      rw [show 2 * (t + 1) - 1 = 2 * t + 1 by omega]
      exact sq_minus t
    have q2 := sq_plus m
    have q3 : (2 * m - 1) * (2 * m - 1) * Z + 4 * (m * Z) = 4 * (m * m * Z) + Z := by
      have := congrArg (· * Z) q1
      simp only [Nat.add_mul, Nat.one_mul] at this
      rw [Nat.mul_assoc 4 m Z, Nat.mul_assoc 4 (m * m) Z] at this
      exact this
    have q4 : (2 * m + 1) * (2 * m + 1) * Z = 4 * (m * m * Z) + 4 * (m * Z) + Z := by
      rw [q2, Nat.add_mul, Nat.add_mul, Nat.one_mul, Nat.mul_assoc 4 m Z, Nat.mul_assoc 4 (m * m) Z]
    have q5 : m * m * Z ≤ 9007199254740991 * (m * Z) := by
      rw [Nat.mul_assoc]
      exact Nat.mul_le_mul_right _ m2
    have q6 : 4503599627370496 * Z ≤ m * Z := Nat.mul_le_mul_right _ m1
    rw [q4]
    generalize (2 * m - 1) * (2 * m - 1) * Z = S at *
    generalize m * m * Z = Q at *
    generalize m * Z = L at *
    omega
/-- the root of a sum that holds the square of x is no less than x -/
theorem Gn.low {x T : Nat} (hx : x < 18446744073709551616) (h : Gn x) (hT : T < 9218868437227405312) (hle : sqB x ≤ T) : mg x ≤ rtB T := by
  have hs : sqB x = mg (sqB x) := by
    have := h.fin hx
    have e := sq_word hx this
    rw [mg_of_lt]
    rw [e]
    exact Nat.lt_of_le_of_lt (Nat.min_le_right _ _) (by decide)
  have hm : mg T = T := mg_of_lt (by omega)
  have h0 := h.1
  obtain ⟨n, d, hN, hW, hr, _, _⟩ := sqrt_core (T := T) (by omega) (ng_of_lt (by omega)) (by omega) (by omega)
  rw [hr]
  have hm1 := (h.mid hx).1
  have hn := h.norm hx
  have h3 := rt_low (n := n) (d := d) (r := mg x - 1) hW (by
    rw [show mg x - 1 + 1 = mg x by omega]
    refine Nat.lt_of_lt_of_le hm1 ?_
    rw [← hN]
    refine Nat.mul_le_mul_left _ (Nat.mul_le_mul_right _ (mv_le.2 ?_))
    omega)
  omega
/-- the root of the square -/
theorem Gn.root {x : Nat} (hx : x < 18446744073709551616) (h : Gn x) : rtB (sqB x) = mg x := by
  have hf := h.fin hx
  have e := sq_word hx hf
  have hlt : sqB x < 9223372036854775808 := by rw [e]; exact Nat.lt_of_le_of_lt (Nat.min_le_right _ _) (by decide)
  have hs : mg (sqB x) = sqB x := mg_of_lt hlt
  have h0 := h.1
  have h2 := h.2
  have hlow := h.low hx (T := sqB x) (by omega) (Nat.le_refl _)
  obtain ⟨n, d, hN, hW, hr, _, _⟩ := sqrt_core (T := sqB x) (by omega) (ng_of_lt hlt) (by omega) (by omega)
  have hup := rt_up (n := n) (d := d) (r := mg x) hW (by rw [← hN]; exact (h.mid hx).2)
  rw [← hr] at hup
  omega
end Go.Proofs.YtjgbaenihkplpaaDoor
