/-
  Some of the texts of this proof, one behind the other.
-/
import Derived.Test.YtgbaaafikphafaaZ05
import Derived.Test.YtgbaaafikphafaaZ04
/-
  Quotients of floats that aren't below nothing, by plain numbers (no program).
-/
namespace Go.Proofs.Ytgbaaafikphafaa
open Tf Ieee
theorem near_le (W : Nat) (p : Int) : ∃ r, r ≤ 9218868437227405312 ∧ double.nearest false W p = r := by
  have hlp := d_lp
  by_cases h : double.leastPlace ≤ p
  · obtain ⟨d, hd⟩ : ∃ d : Nat, p = double.leastPlace + (d : Int) := ⟨(p - double.leastPlace).toNat, by omega⟩
    rw [nearest_up double false W d _ hd, d_word, d_inf]
    simp only [Bool.false_eq_true, if_false]
    exact ⟨_, Nat.min_le_right _ _, rfl⟩
  · obtain ⟨d, hd⟩ : ∃ d : Nat, p = double.leastPlace - (d : Int) := ⟨(double.leastPlace - p).toNat, by omega⟩
    rw [hd, nearest_rung double false W d, d_word, d_inf]
    simp only [Bool.false_eq_true, if_false]
    exact ⟨_, Nat.min_le_right _ _, rfl⟩
theorem canon_nn {r : Nat} (h : r ≤ 9218868437227405312) : canonB r = r := by
  have mr : mg r = r := mg_of_lt (by omega)
  unfold canonB
  rw [mr, if_neg (by unfold isN; rw [mr]; simp; omega)]
  split <;> omega
/-- a float that isn't below nothing, as it is read -/
theorem read_nn {x : Nat} (h : x ≤ 9218868437227405312) : double.read x = .infinity false ∨ ∃ m p, double.read x = .number false m p := by
  have mx : mg x = x := mg_of_lt (by omega)
  by_cases c : x = 9218868437227405312
  · subst c
    exact .inl (by decide +kernel)
  · right
    obtain ⟨m, a, h1, -⟩ := read_fin double x (by show mg x < 9218868437227405312; omega)
    have hs : sg double x = false := by
      rw [sg_d x (by omega)]
      exact ng_of_lt (by omega)
    rw [hs] at h1
    exact ⟨m, _, h1⟩
theorem dv_nn {x y : Nat} (hx : x ≤ 9218868437227405312) (hy : y ≤ 9218868437227405312) : dvB x y = quiet ∨ dvB x y ≤ 9218868437227405312 := by
  have key : double.div x y = none ∨ ∃ r, r ≤ 9218868437227405312 ∧ double.div x y = some r := by
    show ((double.read x).quotient 54 (double.read y)).map double.write = none ∨ ∃ r, r ≤ 9218868437227405312 ∧ ((double.read x).quotient 54 (double.read y)).map double.write = some r
    rcases read_nn hx with e1 | ⟨m, p, e1⟩ <;> rcases read_nn hy with e2 | ⟨n, q, e2⟩ <;> rw [e1, e2] <;> unfold Datum.quotient <;> dsimp only
    · exact .inl rfl
    · exact .inr ⟨9218868437227405312, Nat.le_refl _, by decide +kernel⟩
    · obtain ⟨r, r1, r2⟩ := near_le 0 0
      exact .inr ⟨r, r1, by show some (double.nearest false 0 0) = _; rw [r2]⟩
    · by_cases hn : n = 0
      · rw [if_pos hn]
        by_cases hm : m = 0
        · rw [if_pos hm]; exact .inl rfl
        · rw [if_neg hm]; exact .inr ⟨9218868437227405312, Nat.le_refl _, by decide +kernel⟩
      · rw [if_neg hn]
        obtain ⟨r, r1, r2⟩ := near_le (2 * (m <<< (54 + n.log2 - m.log2) / n) + (m <<< (54 + n.log2 - m.log2) % n != 0).toNat) (p - q - ((54 + n.log2 - m.log2 : Nat) : Int) - 1)
        exact .inr ⟨r, r1, by show some (double.nearest false _ _) = _; rw [← r2]⟩
  rcases key with h | ⟨r, r1, h⟩
  · exact .inl (dvB_none h)
  · rw [dvB_some h, canon_nn r1]
    exact .inr r1
theorem ml_nn {x y : Nat} (hx : x ≤ 9218868437227405312) (hy : y ≤ 9218868437227405312) (x0 : 0 < x) (y0 : 0 < y) : mlB x y ≤ 9218868437227405312 := by
  have mx : mg x = x := mg_of_lt (by omega)
  have my : mg y = y := mg_of_lt (by omega)
  have nx : ng x = false := ng_of_lt (by omega)
  have ny : ng y = false := ng_of_lt (by omega)
  have hi : infW (false ^^ false) = 9218868437227405312 := by decide
  by_cases cx : x = 9218868437227405312
  · by_cases cy : y = 9218868437227405312
    · have e := mul_ii x y (by omega) (by omega) (by omega) (by omega)
      rw [mlB_some e, nx, ny, hi]
      exact Nat.le_refl _
    · have e := mul_if x y (by omega) (by omega) (by omega) (by omega)
      rw [if_neg (by omega)] at e
      rw [mlB_some e, nx, ny, hi]
      exact Nat.le_refl _
  · by_cases cy : y = 9218868437227405312
    · have e := mul_fi x y (by omega) (by omega) (by omega) (by omega)
      rw [if_neg (by omega)] at e
      rw [mlB_some e, nx, ny, hi]
      exact Nat.le_refl _
    · rw [ml_word (by omega) (by omega)]
      exact Nat.min_le_right _ _
/-- Leer above nothing: a NaN, or not below nothing -/
theorem leer_nn {a b : Nat} (ha : a ≤ 9218868437227405312) (hb : b ≤ 9218868437227405312) (a0 : 0 < a) (b0 : 0 < b) : leer a b = quiet ∨ leer a b ≤ 9218868437227405312 := by
  have d := d2_facts ha
  exact dv_nn (ml_nn d.1 hb (by omega) b0) (plB_nn ha hb).1
end Go.Proofs.Ytgbaaafikphafaa

/-
  Slopes of two differences, by plain numbers (no program).
-/
namespace Go.Proofs.Ytgbaaafikphafaa
open Tf Ieee
/-- above nothing; below nothing -/
def ps (a : Nat) : Bool := decide (0 < a ∧ a ≤ 9218868437227405312)
def ns (a : Nat) : Bool := decide (9223372036854775808 < a ∧ a ≤ 18442240474082181120)
theorem ps_iff {a : Nat} : ps a = true ↔ 0 < a ∧ a ≤ 9218868437227405312 := by unfold ps; rw [decide_eq_true_iff]
theorem ns_iff {a : Nat} : ns a = true ↔ 9223372036854775808 < a ∧ a ≤ 18442240474082181120 := by unfold ns; rw [decide_eq_true_iff]
theorem ps_no {a : Nat} : ps a = false ↔ a = 0 ∨ 9218868437227405312 < a := by unfold ps; rw [decide_eq_false_iff_not]; omega
theorem ns_no {a : Nat} : ns a = false ↔ a ≤ 9223372036854775808 ∨ 18442240474082181120 < a := by unfold ns; rw [decide_eq_false_iff_not]; omega
theorem rk_zero : rk 0 = 0 := by decide
theorem fgt_ps {a : Nat} (ha : a < 18446744073709551616) : fgt a 0 = ps a := by
  rw [fgt_rk a 0 ha (by decide), rk_zero, show isN 0 = false by decide]
  unfold ps isN rk ng mg
  by_cases c : 9223372036854775808 ≤ a
  · rw [decide_eq_true c, if_pos rfl, decide_eq_false (p := 0 < a ∧ _) (by omega), decide_eq_false (p := (0 : Int) < _) (by omega), Bool.and_false]
  · rw [decide_eq_false c, if_neg (by decide), Nat.mod_eq_of_lt (by omega)]
    by_cases d : 9218868437227405312 < a
    · rw [decide_eq_true d, decide_eq_false (p := 0 < a ∧ _) (by omega)]; rfl
    · rw [decide_eq_false d]
      by_cases e : 0 < a
      · rw [decide_eq_true (p := 0 < a ∧ _) (by omega), decide_eq_true (p := (0 : Int) < _) (by omega)]; rfl
      · rw [decide_eq_false (p := 0 < a ∧ _) (by omega), decide_eq_false (p := (0 : Int) < _) (by omega)]; rfl
theorem flt_ns {a : Nat} (ha : a < 18446744073709551616) : flt a 0 = ns a := by
  rw [flt_rk a 0 ha (by decide), rk_zero, show isN 0 = false by decide]
  unfold ns isN rk ng mg
  by_cases c : 9223372036854775808 ≤ a
  · rw [decide_eq_true c, if_pos rfl]
    have e : a % 9223372036854775808 = a - 9223372036854775808 := by omega
    rw [e]
    by_cases d : 9218868437227405312 < a - 9223372036854775808
    · rw [decide_eq_true d, decide_eq_false (p := 9223372036854775808 < a ∧ _) (by omega)]; rfl
    · rw [decide_eq_false d]
      by_cases e : 9223372036854775808 < a
      · rw [decide_eq_true (p := 9223372036854775808 < a ∧ _) (by omega), decide_eq_true (p := -_ < (0 : Int)) (by omega)]; rfl
      · rw [decide_eq_false (p := 9223372036854775808 < a ∧ _) (by omega), decide_eq_false (p := -_ < (0 : Int)) (by omega)]; rfl
  · rw [decide_eq_false c, if_neg (by decide), decide_eq_false (p := 9223372036854775808 < a ∧ _) (by omega), decide_eq_false (p := _ < (0 : Int)) (by omega), Bool.and_false]
theorem nn_N {a : Nat} (h : a ≤ 9218868437227405312) : isN a = false := isN_false.2 (by rw [mg_of_lt (by omega)]; exact h)
theorem flt_nn {a b : Nat} (ha : a ≤ 9218868437227405312) (hb : b ≤ 9218868437227405312) : flt a b = decide (a < b) := by
  rw [flt_rk a b (by omega) (by omega), rk_pos a (by omega), rk_pos b (by omega), nn_N ha, nn_N hb]
  by_cases c : a < b
  · rw [decide_eq_true c, decide_eq_true (by omega)]; rfl
  · rw [decide_eq_false c, decide_eq_false (by omega)]; rfl
theorem fgt_nn {a b : Nat} (ha : a ≤ 9218868437227405312) (hb : b ≤ 9218868437227405312) : fgt a b = decide (b < a) := by
  rw [fgt_rk a b (by omega) (by omega), rk_pos a (by omega), rk_pos b (by omega), nn_N ha, nn_N hb]
  by_cases c : b < a
  · rw [decide_eq_true c, decide_eq_true (by omega)]; rfl
  · rw [decide_eq_false c, decide_eq_false (by omega)]; rfl
theorem feq_nn {a b : Nat} (ha : a ≤ 9218868437227405312) (hb : b ≤ 9218868437227405312) : feq a b = decide (a = b) := by
  rw [feq_rk a b (by omega) (by omega), rk_pos a (by omega), rk_pos b (by omega), nn_N ha, nn_N hb]
  by_cases c : a = b
  · rw [decide_eq_true c, decide_eq_true (by omega)]; rfl
  · rw [decide_eq_false c, decide_eq_false (by omega)]; rfl
/-- Leer above nothing -/
def lr (a b : Nat) : Nat := if leer a b < 9218868437227405312 then leer a b else 0
/-- the slope of two that are above nothing -/
def lm (k : Int) (a b : Nat) : Nat := if k = 1 then min a b else if k = 2 then sbee a b else if k = 3 then lr a b else 0
/-- the opposite; of nothing: nothing -/
def op (x : Nat) : Nat := if x = 0 then 0 else x + 9223372036854775808
/-- the slope -/
def slp (k : Int) (a b : Nat) : Nat := if (ps a && ps b) = true then lm k a b else if (ns a && ns b) = true then op (lm k (a - 9223372036854775808) (b - 9223372036854775808)) else 0
theorem lr_le (a b : Nat) : lr a b < 9218868437227405312 := by unfold lr; split <;> omega
theorem lm_le (k : Int) {a b : Nat} (ha : a ≤ 9218868437227405312) (hb : b ≤ 9218868437227405312) : lm k a b ≤ 9218868437227405312 := by
  have s := sbee_facts ha hb
  have l := lr_le a b
  unfold lm
  split
  · omega
  · split
    · omega
    · split <;> omega
theorem op_lt {x : Nat} (h : x ≤ 9218868437227405312) : op x ≤ 18442240474082181120 := by unfold op; split <;> omega
theorem slp_lt (k : Int) (a b : Nat) : slp k a b < 18446744073709551616 := by
  unfold slp
  split
  · rename_i h
    rw [Bool.and_eq_true, ps_iff, ps_iff] at h
    have := lm_le k h.1.2 h.2.2
    omega
  · split
    · rename_i h
      rw [Bool.and_eq_true, ns_iff, ns_iff] at h
      have := op_lt (lm_le k (a := a - 9223372036854775808) (b := b - 9223372036854775808) (by omega) (by omega))
      omega
    · omega
theorem canon_op {x : Nat} (h : x ≤ 9218868437227405312) : canonB (negB x) = op x := by
  unfold negB op canonB
  rw [ng_of_lt (by omega)]
  simp only [Bool.false_eq_true, if_false]
  by_cases c : x = 0
  · subst c; decide
  · have m : mg (x + 9223372036854775808) = x := by unfold mg; omega
    unfold isN
    rw [m, if_neg c, if_neg (by simp; omega)]
theorem neg_ns {a : Nat} (h : 9223372036854775808 < a) : negB a = a - 9223372036854775808 := by
  unfold negB
  rw [if_pos]
  unfold ng; exact decide_eq_true (by omega)
/-- products and sums of what is above nothing have an answer -/
theorem mul_pp {x y : Nat} (hx : x ≤ 9218868437227405312) (hy : y ≤ 9218868437227405312) (x0 : 0 < x) (y0 : 0 < y) : Ieee.double.mul x y = some (mlB x y) := by
  have h := ml_nn hx hy x0 y0
  cases e : Ieee.double.mul x y with
  | none => rw [mlB_none e] at h; unfold quiet at h; omega
  | some r => rw [mlB_some e]
theorem add_pp {x y : Nat} (hx : x ≤ 9218868437227405312) (hy : y ≤ 9218868437227405312) : Ieee.double.add x y = some (plB x y) := by
  have h := (plB_nn hx hy).1
  cases e : Ieee.double.add x y with
  | none => rw [plB_none e] at h; unfold quiet at h; omega
  | some r => rw [plB_some e]
/-- the lesser and the greater of two -/
theorem order_pp {a b : Nat} (ha : a ≤ 9218868437227405312) (hb : b ≤ 9218868437227405312) : Ieee.double.order a b = some (if a < b then .lt else if b < a then .gt else .eq) := by
  have h1 := flt_nn ha hb
  have h2 := fgt_nn ha hb
  have h3 := feq_nn ha hb
  unfold flt at h1
  unfold fgt at h2
  unfold feq at h3
  by_cases c : a < b
  · rw [if_pos c]; rw [decide_eq_true c] at h1; simpa using h1
  · rw [if_neg c]
    by_cases d : b < a
    · rw [if_pos d]; rw [decide_eq_true d] at h2; simpa using h2
    · rw [if_neg d]; rw [decide_eq_true (by omega)] at h3; simpa using h3
/-- whether it is finite, whatever the word -/
theorem lr_le_of {r : Nat} {a b : Nat} (h : IsC r (leer a b)) (hn : leer a b = quiet ∨ leer a b ≤ 9218868437227405312) :
    (flt r 9218868437227405311 || feq r 9218868437227405311) = decide (leer a b < 9218868437227405312) ∧ (leer a b < 9218868437227405312 → canonB r = leer a b) := by
  obtain ⟨h1, h2⟩ := h
  refine ⟨?_, fun _ => h2⟩
  rcases hn with e | e
  · rw [e] at h2 ⊢
    have nr : isN r = true := by
      cases k : isN r
      · unfold canonB at h2
        rw [k] at h2
        have := isN_false.1 k
        simp only [Bool.false_eq_true, if_false] at h2
        split at h2
        · exact absurd h2 (by decide)
        · rw [h2] at k; exact absurd k (by decide)
      · rfl
    rw [flt_rk r _ h1 (by decide), feq_rk r _ h1 (by decide), nr]
    rfl
  · have nr : isN r = false := by
      cases k : isN r
      · rfl
      · unfold canonB at h2
        rw [k, if_pos rfl] at h2
        rw [← h2] at e
        unfold quiet at e
        omega
    have rr : rk r = leer a b := by
      unfold canonB at h2
      rw [nr, if_neg (by decide)] at h2
      split at h2
      · rename_i m
        rw [← h2]
        unfold rk
        rw [m]; split <;> rfl
      · rw [h2]; exact rk_pos _ (by omega)
    rw [flt_rk r _ h1 (by decide), feq_rk r _ h1 (by decide), nr, rr, show isN 9218868437227405311 = false by decide, rk_pos 9218868437227405311 (by decide)]
    by_cases c : leer a b < 9218868437227405312
    · rw [decide_eq_true c]
      by_cases d : leer a b = 9218868437227405311
      · rw [d]; decide
      · rw [decide_eq_true (p := (_ : Int) < _) (by omega)]; rfl
    · rw [decide_eq_false c, decide_eq_false (p := (_ : Int) < _) (by omega), decide_eq_false (p := (_ : Int) = _) (by omega)]; rfl
end Go.Proofs.Ytgbaaafikphafaa

/-
  Package limit: walks over the program.
-/
namespace Go.Proofs.Ytgbaaafikphafaa
open Go.RowKit Tf
attribute [local go_sem] run_bits run_from raw_feq raw_fne raw_flt raw_fgt run_neg
theorem run_min_f {P : Program} (w : World) (ts : Array TypeId) (t : TypeId) {a b : Nat} (ha : a ≤ 9218868437227405312) (hb : b ≤ 9218868437227405312) :
    (Builtin.min_ ts t #[.float .f64 a, .float .f64 b]).run P w = .ok (.float .f64 (min a b)) w := by
  have h : FloatKind.f64.format.order a b = _ := order_pp ha hb
  by_cases c : a < b
  · rw [if_pos c] at h
    simp [Builtin.min_, Builtin.min2, h]
    omega
  · rw [if_neg c] at h
    by_cases d : b < a
    · rw [if_pos d] at h
      simp [Builtin.min_, Builtin.min2, h]
      omega
    · rw [if_neg d] at h
      have e : a = b := by omega
      subst e
      simp [Builtin.min_, Builtin.min2, h]
theorem run_max_f {P : Program} (w : World) (ts : Array TypeId) (t : TypeId) {a b : Nat} (ha : a ≤ 9218868437227405312) (hb : b ≤ 9218868437227405312) :
    (Builtin.max_ ts t #[.float .f64 a, .float .f64 b]).run P w = .ok (.float .f64 (max a b)) w := by
  have h : FloatKind.f64.format.order a b = _ := order_pp ha hb
  by_cases c : a < b
  · rw [if_pos c] at h
    simp [Builtin.max_, Builtin.max2, h]
    omega
  · rw [if_neg c] at h
    by_cases d : b < a
    · rw [if_pos d] at h
      simp [Builtin.max_, Builtin.max2, h]
      omega
    · rw [if_neg d] at h
      have e : a = b := by omega
      subst e
      simp [Builtin.max_, Builtin.max2, h]
theorem plain_at (a b : Nat) (w : World) : Calls Try.prog 19 #[.float .f64 a, .float .f64 b] w fun e w' => e = .returned (.float .f64 0) ∧ w' = w := by
  go_enter Try.func19, Try.ntmps19
  go_wp2
  go_ret
  exact ⟨rfl, rfl⟩
theorem minmod_at (a b : Nat) (w : World) (ha : a ≤ 9218868437227405312) (hb : b ≤ 9218868437227405312) : Calls Try.prog 20 #[.float .f64 a, .float .f64 b] w fun e w' => e = .returned (.float .f64 (min a b)) ∧ w' = w := by
  have h : ∀ ts t, (Builtin.min_ ts t #[.float .f64 a, .float .f64 b]).run Try.prog w = .ok (.float .f64 (min a b)) w := fun ts t => run_min_f w ts t ha hb
  generalize e : min a b = m at h ⊢
  clear e ha hb
  go_enter Try.func20, Try.ntmps20
  go_wp2
  go_ret
  exact ⟨rfl, rfl⟩
set_option maxHeartbeats 1000000 in
theorem superbee_at (a b : Nat) (w : World) (ha : ps a = true) (hb : ps b = true) : Calls Try.prog 21 #[.float .f64 a, .float .f64 b] w fun e w' => e = .returned (.float .f64 (sbee a b)) ∧ w' = w := by
  obtain ⟨a0, a1⟩ := ps_iff.1 ha
  obtain ⟨b0, b1⟩ := ps_iff.1 hb
  have fa := (d2_facts a1).1
  have fb := (d2_facts b1).1
  have h1 : ∀ t, (binOp .mul t (.float .f64 4611686018427387904) (.float .f64 a)).run Try.prog w = .ok (.float .f64 (mlB 4611686018427387904 a)) w := fun t => run_float_arith w .mul t .f64 _ _ _ (mul_pp (by decide) a1 (by decide) a0)
  have h2 : ∀ t, (binOp .mul t (.float .f64 4611686018427387904) (.float .f64 b)).run Try.prog w = .ok (.float .f64 (mlB 4611686018427387904 b)) w := fun t => run_float_arith w .mul t .f64 _ _ _ (mul_pp (by decide) b1 (by decide) b0)
  have h3 : ∀ ts t, (Builtin.min_ ts t #[.float .f64 (mlB 4611686018427387904 a), .float .f64 b]).run Try.prog w = .ok (.float .f64 (min (mlB 4611686018427387904 a) b)) w := fun ts t => run_min_f w ts t fa b1
  have h4 : ∀ ts t, (Builtin.min_ ts t #[.float .f64 a, .float .f64 (mlB 4611686018427387904 b)]).run Try.prog w = .ok (.float .f64 (min a (mlB 4611686018427387904 b))) w := fun ts t => run_min_f w ts t a1 fb
  have h5 : ∀ ts t, (Builtin.max_ ts t #[.float .f64 (min (mlB 4611686018427387904 a) b), .float .f64 (min a (mlB 4611686018427387904 b))]).run Try.prog w = .ok (.float .f64 (sbee a b)) w := fun ts t => run_max_f w ts t (by omega) (by omega)
  generalize mlB 4611686018427387904 a = p at *
  generalize mlB 4611686018427387904 b = q at *
  generalize min p b = u at *
  generalize min a q = v at *
  generalize sbee a b = s at *
  clear a0 a1 b0 b1 fa fb ha hb
  go_enter Try.func21, Try.ntmps21
  go_wp2
  go_ret
  exact ⟨rfl, rfl⟩
set_option maxHeartbeats 1000000 in
theorem leer_at (a b : Nat) (w : World) (ha : ps a = true) (hb : ps b = true) : Calls Try.prog 22 #[.float .f64 a, .float .f64 b] w fun e w' => ∃ r, e = .returned (.float .f64 r) ∧ (∃ n, w' = w.drewN n) ∧ IsC r (lr a b) := by
  obtain ⟨a0, a1⟩ := ps_iff.1 ha
  obtain ⟨b0, b1⟩ := ps_iff.1 hb
  have fa := d2_facts a1
  have L := leer_nn a1 b1 a0 b0
  have h1 : ∀ t, (binOp .mul t (.float .f64 4611686018427387904) (.float .f64 a)).run Try.prog w = .ok (.float .f64 (mlB 4611686018427387904 a)) w := fun t => run_float_arith w .mul t .f64 _ _ _ (mul_pp (by decide) a1 (by decide) a0)
  have h2 : ∀ t, (binOp .mul t (.float .f64 (mlB 4611686018427387904 a)) (.float .f64 b)).run Try.prog w = .ok (.float .f64 (mlB (mlB 4611686018427387904 a) b)) w := fun t => run_float_arith w .mul t .f64 _ _ _ (mul_pp fa.1 b1 (by omega) b0)
  have h3 : ∀ t, (binOp .add t (.float .f64 a) (.float .f64 b)).run Try.prog w = .ok (.float .f64 (plB a b)) w := fun t => run_float_arith w .add t .f64 _ _ _ (add_pp a1 b1)
  obtain ⟨r, n, h4, hc⟩ := div_any (P := Try.prog) w (mlB (mlB 4611686018427387904 a) b) (plB a b)
  have hc : IsC r (leer a b) := hc
  obtain ⟨k1, k2⟩ := lr_le_of hc L
  have HL := lr_le a b
  by_cases c : leer a b < 9218868437227405312
  · have e : lr a b = leer a b := by unfold lr; rw [if_pos c]
    rw [decide_eq_true c] at k1
    have HC : Hid (IsC r (lr a b)) := by rw [e]; exact hc
    generalize mlB (mlB 4611686018427387904 a) b = q at *
    generalize mlB 4611686018427387904 a = p at *
    generalize plB a b = s at *
    clear e k2 c L fa a0 a1 b0 b1 ha hb HL
    clear hc
    go_enter Try.func22, Try.ntmps22
    go_wp2
    go_ret
    exact ⟨r, rfl, ⟨n, rfl⟩, HC.out⟩
  · have e : lr a b = 0 := by unfold lr; rw [if_neg c]
    rw [decide_eq_false c] at k1
    have HC : Hid (IsC 0 (lr a b)) := by rw [e]; exact ⟨by decide, by decide⟩
    generalize mlB (mlB 4611686018427387904 a) b = q at *
    generalize mlB 4611686018427387904 a = p at *
    generalize plB a b = s at *
    clear e k2 c L fa a0 a1 b0 b1 ha hb HL
    clear hc
    go_enter Try.func22, Try.ntmps22
    go_wp2
    go_ret
    exact ⟨0, rfl, ⟨n, rfl⟩, HC.out⟩
theorem run_store_func {P : Program} {w : World} {a : Addr} {m : Mode} (f : Fn) (x y : Array Value) : (store a (.func f x y) m).run P w = stored P w a (.func f x y) m := run_store P w a _ m rfl
attribute [local go_sem] run_store_func
set_option maxHeartbeats 1000000 in
theorem limiters_at (w : World) : Calls Try.prog 14 #[] w fun e w' => e = .returned (.agg #[.func (.func 19) #[] #[], .func (.func 20) #[] #[], .func (.func 21) #[] #[], .func (.func 22) #[] #[]]) ∧ Below w.heap.size w w' := by
  go_enter Try.func14, Try.ntmps14
  go_wp2
  refine bodyPost_ret ?_ rfl ⟨rfl, ?_⟩
  · exact results_cell_row Try.results14 _ _ w.heap.size _ _ (0, 0) _ rfl (heap_alloc_new w _) Try.underlying33 rfl (by kernel_rfl)
  · exact bl1 w _
set_option maxHeartbeats 1000000 in
theorem valid_at (k : Int) (w : World) : Calls Try.prog 13 #[.int .i64 k] w fun e w' => e = .returned (.bool (decide (0 ≤ k ∧ k ≤ 3))) ∧ Below w.heap.size w w' := by
  have L := hid (limiters_at w)
  by_cases c : 0 ≤ k
  · have e : decide (0 ≤ k ∧ k ≤ 3) = decide (k < 4) := by by_cases d : k < 4 <;> simp [d] <;> omega
    rw [e]
    clear e
    go_enter Try.func13, Try.ntmps13
    go_wp2_with fail
    refine L.out.mono ?_
    rintro e w1 ⟨rfl, b1⟩
    go_wp2
    go_ret
    exact ⟨rfl, b1⟩
  · have e : decide (0 ≤ k ∧ k ≤ 3) = false := decide_eq_false (by omega)
    rw [e]
    clear e
    go_enter Try.func13, Try.ntmps13
    go_wp2
    go_ret
    exact ⟨rfl, Below.refl _ _⟩
end Go.Proofs.Ytgbaaafikphafaa

/-
  Slopes: walks over the program.
-/
namespace Go.Proofs.Ytgbaaafikphafaa
open Go.RowKit Tf
attribute [local go_sem] run_bits run_from raw_feq raw_fne raw_flt raw_fgt run_neg
theorem canon_op2 {r x : Nat} (h : IsC r x) (hx : x ≤ 9218868437227405312) : canonB (negB r) = op x := by
  obtain ⟨h1, h2⟩ := h
  by_cases z : mg r = 0
  · have n : isN r = false := isN_false.2 (by omega)
    have e : x = 0 := by rw [← h2]; unfold canonB; rw [n, z]; rfl
    subst e
    have m : mg (negB r) = 0 := by rw [mg_negB]; exact z
    have n2 : isN (negB r) = false := isN_false.2 (by omega)
    unfold canonB
    rw [n2, m]
    rfl
  · have e : r = x := by
      unfold canonB at h2
      rw [if_neg z] at h2
      split at h2
      · rw [← h2] at hx; unfold quiet at hx; omega
      · exact h2
    subst e
    exact canon_op hx
theorem IsC.refl {x : Nat} (h : x ≤ 9218868437227405312) : IsC x x := ⟨by omega, canon_nn h⟩
/-- what a limiter says of two that are above nothing -/
def Lim (f : Nat) (k : Int) : Prop := ∀ a b w, ps a = true → ps b = true → Calls Try.prog f #[.float .f64 a, .float .f64 b] w fun e w' => ∃ r, e = .returned (.float .f64 r) ∧ (∃ n, w' = w.drewN n) ∧ IsC r (lm k a b)
theorem lim0 : Lim 19 0 := by
  intro a b w ha hb
  refine (plain_at a b w).mono ?_
  rintro e w' ⟨rfl, rfl⟩
  exact ⟨0, rfl, ⟨0, rfl⟩, IsC.refl (by decide)⟩
theorem lim1 : Lim 20 1 := by
  intro a b w ha hb
  have a1 := ps_iff.1 ha
  have b1 := ps_iff.1 hb
  refine (minmod_at a b w a1.2 b1.2).mono ?_
  rintro e w' ⟨rfl, rfl⟩
  exact ⟨_, rfl, ⟨0, rfl⟩, IsC.refl (lm_le 1 a1.2 b1.2)⟩
theorem lim2 : Lim 21 2 := by
  intro a b w ha hb
  have a1 := ps_iff.1 ha
  have b1 := ps_iff.1 hb
  refine (superbee_at a b w ha hb).mono ?_
  rintro e w' ⟨rfl, rfl⟩
  exact ⟨_, rfl, ⟨0, rfl⟩, IsC.refl (lm_le 2 a1.2 b1.2)⟩
theorem lim3 : Lim 22 3 := by
  intro a b w ha hb
  refine (leer_at a b w ha hb).mono ?_
  rintro e w' ⟨r, rfl, n, h⟩
  exact ⟨r, rfl, n, h⟩
set_option maxHeartbeats 2000000 in
theorem slope_p0 (a b : Nat) (w : World) (ha : a < 18446744073709551616) (hb : b < 18446744073709551616) (pa : ps a = true) (pb : ps b = true) : Calls Try.prog 7 #[.int .i64 0, .float .f64 a, .float .f64 b] w fun e w' => e = .returned (.float .f64 (lm 0 a b)) ∧ Below w.heap.size w w' := by
  have V := hid (valid_at 0 w)
  have L := hid limiters_at
  have IX : ∀ w : World, (Instr.index 33 (.agg #[.func (.func 19) #[] #[], .func (.func 20) #[] #[], .func (.func 21) #[] #[], .func (.func 22) #[] #[]]) (.int .i64 0)).run Try.prog w = .ok (.func (.func 19) #[] #[]) w := fun _ => by kernel_rfl
  have G := hid lim0
  have ga : fgt a 0 = true := by rw [fgt_ps ha]; exact pa
  have gb : fgt b 0 = true := by rw [fgt_ps hb]; exact pb
  have PA := hid pa
  have PB := hid pb
  clear pa pb ha hb
  go_enter Try.func7, Try.ntmps7
  go_wp2_with fail
  refine V.out.mono ?_
  rintro e w1 ⟨rfl, b1⟩
  have B1 := hid b1
  clear b1
  go_wp2_with fail
  refine (L.out _).mono ?_
  rintro e w2 ⟨rfl, b2⟩
  have B2 := hid b2
  clear b2
  go_wp2_with fail
  refine (G.out a b _ PA.out PB.out).mono ?_
  rintro e w3 ⟨r, rfl, ⟨n, rfl⟩, hr⟩
  have C := hid (canon_any r (w2.drewN n) hr.1)
  have HR := hid hr.2
  clear hr
  go_wp2_with fail
  refine C.out.mono ?_
  rintro e w4 ⟨rfl, rfl⟩
  go_wp2
  go_ret
  exact ⟨ret_flt HR.out, Ab.drewN (Ab.trans B1.out B2.out) n⟩
set_option maxHeartbeats 2000000 in
theorem slope_m0 (a b p q : Nat) (w : World) (ga : flt a 0 = true) (gb : flt b 0 = true) (ga2 : fgt a 0 = false) (na : Op.negFloat .f64 a = p) (nb : Op.negFloat .f64 b = q) (P : Hid (ps p = true)) (Q : Hid (ps q = true)) : Calls Try.prog 7 #[.int .i64 0, .float .f64 a, .float .f64 b] w fun e w' => e = .returned (.float .f64 (op (lm 0 p q))) ∧ Below w.heap.size w w' := by
  have V := hid (valid_at 0 w)
  have L := hid limiters_at
  have IX : ∀ w : World, (Instr.index 33 (.agg #[.func (.func 19) #[] #[], .func (.func 20) #[] #[], .func (.func 21) #[] #[], .func (.func 22) #[] #[]]) (.int .i64 0)).run Try.prog w = .ok (.func (.func 19) #[] #[]) w := fun _ => by kernel_rfl
  have G := hid lim0
  go_enter Try.func7, Try.ntmps7
  go_wp2_with fail
  refine V.out.mono ?_
  rintro e w1 ⟨rfl, b1⟩
  have B1 := hid b1
  clear b1
  go_wp2_with fail
  refine (L.out _).mono ?_
  rintro e w2 ⟨rfl, b2⟩
  have B2 := hid b2
  clear b2
  go_wp2_with fail
  refine (G.out p q _ P.out Q.out).mono ?_
  rintro e w3 ⟨r, rfl, ⟨n, rfl⟩, hr⟩
  have E : canonB (Op.negFloat .f64 r) = op (lm 0 p q) := by rw [negFloat_eq r hr.1]; exact canon_op2 hr (lm_le 0 (ps_iff.1 P.out).2 (ps_iff.1 Q.out).2)
  have C := canon_any (Op.negFloat .f64 r) (w2.drewN n) (by rw [negFloat_eq r hr.1]; exact negB_lt hr.1)
  rw [E] at C
  have C := hid C
  clear hr E
  go_wp2_with fail
  refine C.out.mono ?_
  rintro e w4 ⟨rfl, rfl⟩
  go_wp2
  go_ret
  exact ⟨rfl, Ab.drewN (Ab.trans B1.out B2.out) n⟩
theorem slope_n0 (a b : Nat) (w : World) (ha : a < 18446744073709551616) (hb : b < 18446744073709551616) (pa : ns a = true) (pb : ns b = true) : Calls Try.prog 7 #[.int .i64 0, .float .f64 a, .float .f64 b] w fun e w' => e = .returned (.float .f64 (op (lm 0 (a - 9223372036854775808) (b - 9223372036854775808)))) ∧ Below w.heap.size w w' := by
  have a1 := ns_iff.1 pa
  have b1 := ns_iff.1 pb
  exact slope_m0 a b _ _ w (by rw [flt_ns ha]; exact pa) (by rw [flt_ns hb]; exact pb) (by rw [fgt_ps ha]; exact ps_no.2 (by omega)) (by rw [negFloat_eq a ha, neg_ns a1.1]) (by rw [negFloat_eq b hb, neg_ns b1.1]) (ps_iff.2 ⟨by omega, by omega⟩) (ps_iff.2 ⟨by omega, by omega⟩)
set_option maxHeartbeats 2000000 in
theorem slope_z0 (a b : Nat) (w : World) (ha : a < 18446744073709551616) (hb : b < 18446744073709551616) (pa : (ps a && ps b) = false) (pb : (ns a && ns b) = false) : Calls Try.prog 7 #[.int .i64 0, .float .f64 a, .float .f64 b] w fun e w' => e = .returned (.float .f64 0) ∧ Below w.heap.size w w' := by
  have V := hid (valid_at 0 w)
  have L := hid limiters_at
  have IX : ∀ w : World, (Instr.index 33 (.agg #[.func (.func 19) #[] #[], .func (.func 20) #[] #[], .func (.func 21) #[] #[], .func (.func 22) #[] #[]]) (.int .i64 0)).run Try.prog w = .ok (.func (.func 19) #[] #[]) w := fun _ => by kernel_rfl
  rw [← fgt_ps ha, ← fgt_ps hb] at pa
  rw [← flt_ns ha, ← flt_ns hb] at pb
  clear ha hb
  cases g1 : fgt a 0 <;> cases g2 : flt a 0 <;> rw [g1] at pa <;> rw [g2] at pb <;> (try rw [Bool.true_and] at pa) <;> (try rw [Bool.true_and] at pb) <;> (
    go_enter Try.func7, Try.ntmps7
    go_wp2_with fail
    refine V.out.mono ?_
    rintro e w1 ⟨rfl, b1⟩
    have B1 := hid b1
    clear b1
    go_wp2_with fail
    refine (L.out _).mono ?_
    rintro e w2 ⟨rfl, b2⟩
    have B2 := hid b2
    clear b2
    go_wp2
    go_ret
    exact ⟨rfl, Ab.trans B1.out B2.out⟩)
set_option maxHeartbeats 2000000 in
theorem slope_p1 (a b : Nat) (w : World) (ha : a < 18446744073709551616) (hb : b < 18446744073709551616) (pa : ps a = true) (pb : ps b = true) : Calls Try.prog 7 #[.int .i64 1, .float .f64 a, .float .f64 b] w fun e w' => e = .returned (.float .f64 (lm 1 a b)) ∧ Below w.heap.size w w' := by
  have V := hid (valid_at 1 w)
  have L := hid limiters_at
  have IX : ∀ w : World, (Instr.index 33 (.agg #[.func (.func 19) #[] #[], .func (.func 20) #[] #[], .func (.func 21) #[] #[], .func (.func 22) #[] #[]]) (.int .i64 1)).run Try.prog w = .ok (.func (.func 20) #[] #[]) w := fun _ => by kernel_rfl
  have G := hid lim1
  have ga : fgt a 0 = true := by rw [fgt_ps ha]; exact pa
  have gb : fgt b 0 = true := by rw [fgt_ps hb]; exact pb
  have PA := hid pa
  have PB := hid pb
  clear pa pb ha hb
  go_enter Try.func7, Try.ntmps7
  go_wp2_with fail
  refine V.out.mono ?_
  rintro e w1 ⟨rfl, b1⟩
  have B1 := hid b1
  clear b1
  go_wp2_with fail
  refine (L.out _).mono ?_
  rintro e w2 ⟨rfl, b2⟩
  have B2 := hid b2
  clear b2
  go_wp2_with fail
  refine (G.out a b _ PA.out PB.out).mono ?_
  rintro e w3 ⟨r, rfl, ⟨n, rfl⟩, hr⟩
  have C := hid (canon_any r (w2.drewN n) hr.1)
  have HR := hid hr.2
  clear hr
  go_wp2_with fail
  refine C.out.mono ?_
  rintro e w4 ⟨rfl, rfl⟩
  go_wp2
  go_ret
  exact ⟨ret_flt HR.out, Ab.drewN (Ab.trans B1.out B2.out) n⟩
set_option maxHeartbeats 2000000 in
theorem slope_m1 (a b p q : Nat) (w : World) (ga : flt a 0 = true) (gb : flt b 0 = true) (ga2 : fgt a 0 = false) (na : Op.negFloat .f64 a = p) (nb : Op.negFloat .f64 b = q) (P : Hid (ps p = true)) (Q : Hid (ps q = true)) : Calls Try.prog 7 #[.int .i64 1, .float .f64 a, .float .f64 b] w fun e w' => e = .returned (.float .f64 (op (lm 1 p q))) ∧ Below w.heap.size w w' := by
  have V := hid (valid_at 1 w)
  have L := hid limiters_at
  have IX : ∀ w : World, (Instr.index 33 (.agg #[.func (.func 19) #[] #[], .func (.func 20) #[] #[], .func (.func 21) #[] #[], .func (.func 22) #[] #[]]) (.int .i64 1)).run Try.prog w = .ok (.func (.func 20) #[] #[]) w := fun _ => by kernel_rfl
  have G := hid lim1
  go_enter Try.func7, Try.ntmps7
  go_wp2_with fail
  refine V.out.mono ?_
  rintro e w1 ⟨rfl, b1⟩
  have B1 := hid b1
  clear b1
  go_wp2_with fail
  refine (L.out _).mono ?_
  rintro e w2 ⟨rfl, b2⟩
  have B2 := hid b2
  clear b2
  go_wp2_with fail
  refine (G.out p q _ P.out Q.out).mono ?_
  rintro e w3 ⟨r, rfl, ⟨n, rfl⟩, hr⟩
  have E : canonB (Op.negFloat .f64 r) = op (lm 1 p q) := by rw [negFloat_eq r hr.1]; exact canon_op2 hr (lm_le 1 (ps_iff.1 P.out).2 (ps_iff.1 Q.out).2)
  have C := canon_any (Op.negFloat .f64 r) (w2.drewN n) (by rw [negFloat_eq r hr.1]; exact negB_lt hr.1)
  rw [E] at C
  have C := hid C
  clear hr E
  go_wp2_with fail
  refine C.out.mono ?_
  rintro e w4 ⟨rfl, rfl⟩
  go_wp2
  go_ret
  exact ⟨rfl, Ab.drewN (Ab.trans B1.out B2.out) n⟩
theorem slope_n1 (a b : Nat) (w : World) (ha : a < 18446744073709551616) (hb : b < 18446744073709551616) (pa : ns a = true) (pb : ns b = true) : Calls Try.prog 7 #[.int .i64 1, .float .f64 a, .float .f64 b] w fun e w' => e = .returned (.float .f64 (op (lm 1 (a - 9223372036854775808) (b - 9223372036854775808)))) ∧ Below w.heap.size w w' := by
  have a1 := ns_iff.1 pa
  have b1 := ns_iff.1 pb
  exact slope_m1 a b _ _ w (by rw [flt_ns ha]; exact pa) (by rw [flt_ns hb]; exact pb) (by rw [fgt_ps ha]; exact ps_no.2 (by omega)) (by rw [negFloat_eq a ha, neg_ns a1.1]) (by rw [negFloat_eq b hb, neg_ns b1.1]) (ps_iff.2 ⟨by omega, by omega⟩) (ps_iff.2 ⟨by omega, by omega⟩)
set_option maxHeartbeats 2000000 in
theorem slope_z1 (a b : Nat) (w : World) (ha : a < 18446744073709551616) (hb : b < 18446744073709551616) (pa : (ps a && ps b) = false) (pb : (ns a && ns b) = false) : Calls Try.prog 7 #[.int .i64 1, .float .f64 a, .float .f64 b] w fun e w' => e = .returned (.float .f64 0) ∧ Below w.heap.size w w' := by
  have V := hid (valid_at 1 w)
  have L := hid limiters_at
  have IX : ∀ w : World, (Instr.index 33 (.agg #[.func (.func 19) #[] #[], .func (.func 20) #[] #[], .func (.func 21) #[] #[], .func (.func 22) #[] #[]]) (.int .i64 1)).run Try.prog w = .ok (.func (.func 20) #[] #[]) w := fun _ => by kernel_rfl
  rw [← fgt_ps ha, ← fgt_ps hb] at pa
  rw [← flt_ns ha, ← flt_ns hb] at pb
  clear ha hb
  cases g1 : fgt a 0 <;> cases g2 : flt a 0 <;> rw [g1] at pa <;> rw [g2] at pb <;> (try rw [Bool.true_and] at pa) <;> (try rw [Bool.true_and] at pb) <;> (
    go_enter Try.func7, Try.ntmps7
    go_wp2_with fail
    refine V.out.mono ?_
    rintro e w1 ⟨rfl, b1⟩
    have B1 := hid b1
    clear b1
    go_wp2_with fail
    refine (L.out _).mono ?_
    rintro e w2 ⟨rfl, b2⟩
    have B2 := hid b2
    clear b2
    go_wp2
    go_ret
    exact ⟨rfl, Ab.trans B1.out B2.out⟩)
set_option maxHeartbeats 2000000 in
theorem slope_p2 (a b : Nat) (w : World) (ha : a < 18446744073709551616) (hb : b < 18446744073709551616) (pa : ps a = true) (pb : ps b = true) : Calls Try.prog 7 #[.int .i64 2, .float .f64 a, .float .f64 b] w fun e w' => e = .returned (.float .f64 (lm 2 a b)) ∧ Below w.heap.size w w' := by
  have V := hid (valid_at 2 w)
  have L := hid limiters_at
  have IX : ∀ w : World, (Instr.index 33 (.agg #[.func (.func 19) #[] #[], .func (.func 20) #[] #[], .func (.func 21) #[] #[], .func (.func 22) #[] #[]]) (.int .i64 2)).run Try.prog w = .ok (.func (.func 21) #[] #[]) w := fun _ => by kernel_rfl
  have G := hid lim2
  have ga : fgt a 0 = true := by rw [fgt_ps ha]; exact pa
  have gb : fgt b 0 = true := by rw [fgt_ps hb]; exact pb
  have PA := hid pa
  have PB := hid pb
  clear pa pb ha hb
  go_enter Try.func7, Try.ntmps7
  go_wp2_with fail
  refine V.out.mono ?_
  rintro e w1 ⟨rfl, b1⟩
  have B1 := hid b1
  clear b1
  go_wp2_with fail
  refine (L.out _).mono ?_
  rintro e w2 ⟨rfl, b2⟩
  have B2 := hid b2
  clear b2
  go_wp2_with fail
  refine (G.out a b _ PA.out PB.out).mono ?_
  rintro e w3 ⟨r, rfl, ⟨n, rfl⟩, hr⟩
  have C := hid (canon_any r (w2.drewN n) hr.1)
  have HR := hid hr.2
  clear hr
  go_wp2_with fail
  refine C.out.mono ?_
  rintro e w4 ⟨rfl, rfl⟩
  go_wp2
  go_ret
  exact ⟨ret_flt HR.out, Ab.drewN (Ab.trans B1.out B2.out) n⟩
set_option maxHeartbeats 2000000 in
theorem slope_m2 (a b p q : Nat) (w : World) (ga : flt a 0 = true) (gb : flt b 0 = true) (ga2 : fgt a 0 = false) (na : Op.negFloat .f64 a = p) (nb : Op.negFloat .f64 b = q) (P : Hid (ps p = true)) (Q : Hid (ps q = true)) : Calls Try.prog 7 #[.int .i64 2, .float .f64 a, .float .f64 b] w fun e w' => e = .returned (.float .f64 (op (lm 2 p q))) ∧ Below w.heap.size w w' := by
  have V := hid (valid_at 2 w)
  have L := hid limiters_at
  have IX : ∀ w : World, (Instr.index 33 (.agg #[.func (.func 19) #[] #[], .func (.func 20) #[] #[], .func (.func 21) #[] #[], .func (.func 22) #[] #[]]) (.int .i64 2)).run Try.prog w = .ok (.func (.func 21) #[] #[]) w := fun _ => by kernel_rfl
  have G := hid lim2
  go_enter Try.func7, Try.ntmps7
  go_wp2_with fail
  refine V.out.mono ?_
  rintro e w1 ⟨rfl, b1⟩
  have B1 := hid b1
  clear b1
  go_wp2_with fail
  refine (L.out _).mono ?_
  rintro e w2 ⟨rfl, b2⟩
  have B2 := hid b2
  clear b2
  go_wp2_with fail
  refine (G.out p q _ P.out Q.out).mono ?_
  rintro e w3 ⟨r, rfl, ⟨n, rfl⟩, hr⟩
  have E : canonB (Op.negFloat .f64 r) = op (lm 2 p q) := by rw [negFloat_eq r hr.1]; exact canon_op2 hr (lm_le 2 (ps_iff.1 P.out).2 (ps_iff.1 Q.out).2)
  have C := canon_any (Op.negFloat .f64 r) (w2.drewN n) (by rw [negFloat_eq r hr.1]; exact negB_lt hr.1)
  rw [E] at C
  have C := hid C
  clear hr E
  go_wp2_with fail
  refine C.out.mono ?_
  rintro e w4 ⟨rfl, rfl⟩
  go_wp2
  go_ret
  exact ⟨rfl, Ab.drewN (Ab.trans B1.out B2.out) n⟩
theorem slope_n2 (a b : Nat) (w : World) (ha : a < 18446744073709551616) (hb : b < 18446744073709551616) (pa : ns a = true) (pb : ns b = true) : Calls Try.prog 7 #[.int .i64 2, .float .f64 a, .float .f64 b] w fun e w' => e = .returned (.float .f64 (op (lm 2 (a - 9223372036854775808) (b - 9223372036854775808)))) ∧ Below w.heap.size w w' := by
  have a1 := ns_iff.1 pa
  have b1 := ns_iff.1 pb
  exact slope_m2 a b _ _ w (by rw [flt_ns ha]; exact pa) (by rw [flt_ns hb]; exact pb) (by rw [fgt_ps ha]; exact ps_no.2 (by omega)) (by rw [negFloat_eq a ha, neg_ns a1.1]) (by rw [negFloat_eq b hb, neg_ns b1.1]) (ps_iff.2 ⟨by omega, by omega⟩) (ps_iff.2 ⟨by omega, by omega⟩)
set_option maxHeartbeats 2000000 in
theorem slope_z2 (a b : Nat) (w : World) (ha : a < 18446744073709551616) (hb : b < 18446744073709551616) (pa : (ps a && ps b) = false) (pb : (ns a && ns b) = false) : Calls Try.prog 7 #[.int .i64 2, .float .f64 a, .float .f64 b] w fun e w' => e = .returned (.float .f64 0) ∧ Below w.heap.size w w' := by
  have V := hid (valid_at 2 w)
  have L := hid limiters_at
  have IX : ∀ w : World, (Instr.index 33 (.agg #[.func (.func 19) #[] #[], .func (.func 20) #[] #[], .func (.func 21) #[] #[], .func (.func 22) #[] #[]]) (.int .i64 2)).run Try.prog w = .ok (.func (.func 21) #[] #[]) w := fun _ => by kernel_rfl
  rw [← fgt_ps ha, ← fgt_ps hb] at pa
  rw [← flt_ns ha, ← flt_ns hb] at pb
  clear ha hb
  cases g1 : fgt a 0 <;> cases g2 : flt a 0 <;> rw [g1] at pa <;> rw [g2] at pb <;> (try rw [Bool.true_and] at pa) <;> (try rw [Bool.true_and] at pb) <;> (
    go_enter Try.func7, Try.ntmps7
    go_wp2_with fail
    refine V.out.mono ?_
    rintro e w1 ⟨rfl, b1⟩
    have B1 := hid b1
    clear b1
    go_wp2_with fail
    refine (L.out _).mono ?_
    rintro e w2 ⟨rfl, b2⟩
    have B2 := hid b2
    clear b2
    go_wp2
    go_ret
    exact ⟨rfl, Ab.trans B1.out B2.out⟩)
set_option maxHeartbeats 2000000 in
theorem slope_p3 (a b : Nat) (w : World) (ha : a < 18446744073709551616) (hb : b < 18446744073709551616) (pa : ps a = true) (pb : ps b = true) : Calls Try.prog 7 #[.int .i64 3, .float .f64 a, .float .f64 b] w fun e w' => e = .returned (.float .f64 (lm 3 a b)) ∧ Below w.heap.size w w' := by
  have V := hid (valid_at 3 w)
  have L := hid limiters_at
  have IX : ∀ w : World, (Instr.index 33 (.agg #[.func (.func 19) #[] #[], .func (.func 20) #[] #[], .func (.func 21) #[] #[], .func (.func 22) #[] #[]]) (.int .i64 3)).run Try.prog w = .ok (.func (.func 22) #[] #[]) w := fun _ => by kernel_rfl
  have G := hid lim3
  have ga : fgt a 0 = true := by rw [fgt_ps ha]; exact pa
  have gb : fgt b 0 = true := by rw [fgt_ps hb]; exact pb
  have PA := hid pa
  have PB := hid pb
  clear pa pb ha hb
  go_enter Try.func7, Try.ntmps7
  go_wp2_with fail
  refine V.out.mono ?_
  rintro e w1 ⟨rfl, b1⟩
  have B1 := hid b1
  clear b1
  go_wp2_with fail
  refine (L.out _).mono ?_
  rintro e w2 ⟨rfl, b2⟩
  have B2 := hid b2
  clear b2
  go_wp2_with fail
  refine (G.out a b _ PA.out PB.out).mono ?_
  rintro e w3 ⟨r, rfl, ⟨n, rfl⟩, hr⟩
  have C := hid (canon_any r (w2.drewN n) hr.1)
  have HR := hid hr.2
  clear hr
  go_wp2_with fail
  refine C.out.mono ?_
  rintro e w4 ⟨rfl, rfl⟩
  go_wp2
  go_ret
  exact ⟨ret_flt HR.out, Ab.drewN (Ab.trans B1.out B2.out) n⟩
set_option maxHeartbeats 2000000 in
theorem slope_m3 (a b p q : Nat) (w : World) (ga : flt a 0 = true) (gb : flt b 0 = true) (ga2 : fgt a 0 = false) (na : Op.negFloat .f64 a = p) (nb : Op.negFloat .f64 b = q) (P : Hid (ps p = true)) (Q : Hid (ps q = true)) : Calls Try.prog 7 #[.int .i64 3, .float .f64 a, .float .f64 b] w fun e w' => e = .returned (.float .f64 (op (lm 3 p q))) ∧ Below w.heap.size w w' := by
  have V := hid (valid_at 3 w)
  have L := hid limiters_at
  have IX : ∀ w : World, (Instr.index 33 (.agg #[.func (.func 19) #[] #[], .func (.func 20) #[] #[], .func (.func 21) #[] #[], .func (.func 22) #[] #[]]) (.int .i64 3)).run Try.prog w = .ok (.func (.func 22) #[] #[]) w := fun _ => by kernel_rfl
  have G := hid lim3
  go_enter Try.func7, Try.ntmps7
  go_wp2_with fail
  refine V.out.mono ?_
  rintro e w1 ⟨rfl, b1⟩
  have B1 := hid b1
  clear b1
  go_wp2_with fail
  refine (L.out _).mono ?_
  rintro e w2 ⟨rfl, b2⟩
  have B2 := hid b2
  clear b2
  go_wp2_with fail
  refine (G.out p q _ P.out Q.out).mono ?_
  rintro e w3 ⟨r, rfl, ⟨n, rfl⟩, hr⟩
  have E : canonB (Op.negFloat .f64 r) = op (lm 3 p q) := by rw [negFloat_eq r hr.1]; exact canon_op2 hr (lm_le 3 (ps_iff.1 P.out).2 (ps_iff.1 Q.out).2)
  have C := canon_any (Op.negFloat .f64 r) (w2.drewN n) (by rw [negFloat_eq r hr.1]; exact negB_lt hr.1)
  rw [E] at C
  have C := hid C
  clear hr E
  go_wp2_with fail
  refine C.out.mono ?_
  rintro e w4 ⟨rfl, rfl⟩
  go_wp2
  go_ret
  exact ⟨rfl, Ab.drewN (Ab.trans B1.out B2.out) n⟩
theorem slope_n3 (a b : Nat) (w : World) (ha : a < 18446744073709551616) (hb : b < 18446744073709551616) (pa : ns a = true) (pb : ns b = true) : Calls Try.prog 7 #[.int .i64 3, .float .f64 a, .float .f64 b] w fun e w' => e = .returned (.float .f64 (op (lm 3 (a - 9223372036854775808) (b - 9223372036854775808)))) ∧ Below w.heap.size w w' := by
  have a1 := ns_iff.1 pa
  have b1 := ns_iff.1 pb
  exact slope_m3 a b _ _ w (by rw [flt_ns ha]; exact pa) (by rw [flt_ns hb]; exact pb) (by rw [fgt_ps ha]; exact ps_no.2 (by omega)) (by rw [negFloat_eq a ha, neg_ns a1.1]) (by rw [negFloat_eq b hb, neg_ns b1.1]) (ps_iff.2 ⟨by omega, by omega⟩) (ps_iff.2 ⟨by omega, by omega⟩)
set_option maxHeartbeats 2000000 in
theorem slope_z3 (a b : Nat) (w : World) (ha : a < 18446744073709551616) (hb : b < 18446744073709551616) (pa : (ps a && ps b) = false) (pb : (ns a && ns b) = false) : Calls Try.prog 7 #[.int .i64 3, .float .f64 a, .float .f64 b] w fun e w' => e = .returned (.float .f64 0) ∧ Below w.heap.size w w' := by
  have V := hid (valid_at 3 w)
  have L := hid limiters_at
  have IX : ∀ w : World, (Instr.index 33 (.agg #[.func (.func 19) #[] #[], .func (.func 20) #[] #[], .func (.func 21) #[] #[], .func (.func 22) #[] #[]]) (.int .i64 3)).run Try.prog w = .ok (.func (.func 22) #[] #[]) w := fun _ => by kernel_rfl
  rw [← fgt_ps ha, ← fgt_ps hb] at pa
  rw [← flt_ns ha, ← flt_ns hb] at pb
  clear ha hb
  cases g1 : fgt a 0 <;> cases g2 : flt a 0 <;> rw [g1] at pa <;> rw [g2] at pb <;> (try rw [Bool.true_and] at pa) <;> (try rw [Bool.true_and] at pb) <;> (
    go_enter Try.func7, Try.ntmps7
    go_wp2_with fail
    refine V.out.mono ?_
    rintro e w1 ⟨rfl, b1⟩
    have B1 := hid b1
    clear b1
    go_wp2_with fail
    refine (L.out _).mono ?_
    rintro e w2 ⟨rfl, b2⟩
    have B2 := hid b2
    clear b2
    go_wp2
    go_ret
    exact ⟨rfl, Ab.trans B1.out B2.out⟩)
set_option maxHeartbeats 2000000 in
theorem slope_i (k : Int) (a b : Nat) (w : World) (hk : decide (0 ≤ k ∧ k ≤ 3) = false) : Calls Try.prog 7 #[.int .i64 k, .float .f64 a, .float .f64 b] w fun e w' => e = .returned (.float .f64 0) ∧ Below w.heap.size w w' := by
  have V := valid_at k w
  rw [hk] at V
  have V := hid V
  clear hk
  go_enter Try.func7, Try.ntmps7
  go_wp2_with fail
  refine V.out.mono ?_
  rintro e w1 ⟨rfl, b1⟩
  have B1 := hid b1
  clear b1
  go_wp2
  go_ret
  exact ⟨rfl, B1.out⟩
theorem slope_at (k : Int) (a b : Nat) (w : World) (ha : a < 18446744073709551616) (hb : b < 18446744073709551616) : Calls Try.prog 7 #[.int .i64 k, .float .f64 a, .float .f64 b] w fun e w' => e = .returned (.float .f64 (slp k a b)) ∧ Below w.heap.size w w' := by
  by_cases hk : 0 ≤ k ∧ k ≤ 3
  · have hk : k = 0 ∨ k = 1 ∨ k = 2 ∨ k = 3 := by omega
    unfold slp
    cases p : (ps a && ps b)
    · cases n : (ns a && ns b)
      · rw [if_neg (by decide), if_neg (by decide)]
        rcases hk with rfl | rfl | rfl | rfl
        · exact slope_z0 a b w ha hb p n
        · exact slope_z1 a b w ha hb p n
        · exact slope_z2 a b w ha hb p n
        · exact slope_z3 a b w ha hb p n
      · rw [if_neg (by decide), if_pos rfl]
        rw [Bool.and_eq_true] at n
        rcases hk with rfl | rfl | rfl | rfl
        · exact slope_n0 a b w ha hb n.1 n.2
        · exact slope_n1 a b w ha hb n.1 n.2
        · exact slope_n2 a b w ha hb n.1 n.2
        · exact slope_n3 a b w ha hb n.1 n.2
    · rw [if_pos rfl]
      rw [Bool.and_eq_true] at p
      rcases hk with rfl | rfl | rfl | rfl
      · exact slope_p0 a b w ha hb p.1 p.2
      · exact slope_p1 a b w ha hb p.1 p.2
      · exact slope_p2 a b w ha hb p.1 p.2
      · exact slope_p3 a b w ha hb p.1 p.2
  · have e : slp k a b = 0 := by
      have h : ∀ x y, lm k x y = 0 := fun x y => by
        unfold lm
        rw [if_neg (by omega), if_neg (by omega), if_neg (by omega)]
      unfold slp op
      rw [h, h]
      simp
    rw [e]
    exact slope_i k a b w (decide_eq_false hk)
end Go.Proofs.Ytgbaaafikphafaa

/-
  Opposite and exchanged differences, by plain numbers (no program).
-/
namespace Go.Proofs.Ytgbaaafikphafaa
open Tf Ieee
theorem neg_ps {a : Nat} (h : a < 9223372036854775808) : negB a = a + 9223372036854775808 := by
  unfold negB
  rw [ng_of_lt h, if_neg (by decide)]
theorem two_neg {p : Nat} (hp : p ≤ 9218868437227405312) : mlB 4611686018427387904 (p + 9223372036854775808) = mlB 4611686018427387904 p + 9223372036854775808 := by
  by_cases c : p = 9218868437227405312
  · subst c; decide +kernel
  · have mp : mg p = p := mg_of_lt (by omega)
    have mq : mg (p + 9223372036854775808) = p := by unfold mg; omega
    have nq : ng (p + 9223372036854775808) = true := ng_of_ge (by omega)
    rw [mul_w (by decide) (by omega) (by decide) (by omega), mul_w (by decide) (by omega) (by decide) (by omega), mp, mq, nq, ng_of_lt (x := p) (by omega), show ng 4611686018427387904 = false by decide]
    simp only [Bool.false_xor, if_true, Bool.false_eq_true, if_false]
    exact Nat.add_comm _ _
theorem fin_two_p {a : Nat} (h : ps a = true) : fin (mlB 4611686018427387904 a) = decide (mlB 4611686018427387904 a < 9218868437227405312) := by
  obtain ⟨-, h⟩ := ps_iff.1 h
  have := (d2_facts h).1
  unfold fin
  rw [mg_of_lt (by omega)]
theorem fin_two_n {a : Nat} (h : ns a = true) : fin (mlB 4611686018427387904 a) = decide (mlB 4611686018427387904 (a - 9223372036854775808) < 9218868437227405312) := by
  obtain ⟨h0, h⟩ := ns_iff.1 h
  obtain ⟨p, e⟩ : ∃ p, a = p + 9223372036854775808 := ⟨a - 9223372036854775808, by omega⟩
  subst e
  rw [Nat.add_sub_cancel, two_neg (by omega)]
  have := (d2_facts (a := p) (by omega)).1
  unfold fin
  have m : mg (mlB 4611686018427387904 p + 9223372036854775808) = mlB 4611686018427387904 p := by unfold mg; omega
  rw [m]
theorem ps_neg {a : Nat} (ha : a < 18446744073709551616) : ps (negB a) = ns a := by
  by_cases c : a < 9223372036854775808
  · rw [neg_ps c, ps_no.2 (by omega), ns_no.2 (by omega)]
  · have e : negB a = a - 9223372036854775808 := by
      unfold negB
      rw [ng_of_ge (by omega), if_pos rfl]
    rw [e]
    by_cases d : ns a = true
    · have := ns_iff.1 d
      rw [d, ps_iff.2 (by omega)]
    · have d := Bool.eq_false_iff.2 d
      have := ns_no.1 d
      rw [d, ps_no.2 (by omega)]
theorem ns_neg {a : Nat} (ha : a < 18446744073709551616) : ns (negB a) = ps a := by
  rw [← ps_neg (negB_lt' ha), negB_negB' ha]
theorem ps_ns {a : Nat} (h : ps a = true) : ns a = false := ns_no.2 (by have := ps_iff.1 h; omega)
theorem ns_ps {a : Nat} (h : ns a = true) : ps a = false := ps_no.2 (by have := ns_iff.1 h; omega)
theorem slp_p {k : Int} {a b : Nat} (ha : ps a = true) (hb : ps b = true) : slp k a b = lm k a b := by unfold slp; rw [ha, hb]; rfl
theorem slp_n {k : Int} {a b : Nat} (ha : ns a = true) (hb : ns b = true) : slp k a b = op (lm k (a - 9223372036854775808) (b - 9223372036854775808)) := by
  unfold slp; rw [ns_ps ha, ns_ps hb, ha, hb]; simp
theorem slp_z {k : Int} {a b : Nat} (ha : (ps a && ps b) = false) (hb : (ns a && ns b) = false) : slp k a b = 0 := by
  unfold slp; rw [ha, hb]; simp
theorem canon_op' {x : Nat} (h : x ≤ 9218868437227405312) : canonB (negB (op x)) = x := by
  unfold op
  by_cases c : x = 0
  · subst c; decide
  · rw [if_neg c, neg_ns (by omega), Nat.add_sub_cancel]
    exact canon_nn h
theorem slp_neg (k : Int) {a b : Nat} (ha : a < 18446744073709551616) (hb : b < 18446744073709551616) : slp k (negB a) (negB b) = canonB (negB (slp k a b)) := by
  cases p : (ps a && ps b)
  · cases n : (ns a && ns b)
    · rw [slp_z p n, slp_z (by rw [ps_neg ha, ps_neg hb]; exact n) (by rw [ns_neg ha, ns_neg hb]; exact p)]
      decide
    · rw [Bool.and_eq_true] at n
      have h1 := ns_iff.1 n.1
      have h2 := ns_iff.1 n.2
      rw [slp_n n.1 n.2, slp_p (by rw [ps_neg ha]; exact n.1) (by rw [ps_neg hb]; exact n.2), neg_ns h1.1, neg_ns h2.1, canon_op' (lm_le k (by omega) (by omega))]
  · rw [Bool.and_eq_true] at p
    have h1 := ps_iff.1 p.1
    have h2 := ps_iff.1 p.2
    rw [slp_p p.1 p.2, slp_n (by rw [ns_neg ha]; exact p.1) (by rw [ns_neg hb]; exact p.2), neg_ps (by omega), neg_ps (by omega), Nat.add_sub_cancel, Nat.add_sub_cancel, canon_op (lm_le k h1.2 h2.2)]
theorem lr_comm {a b : Nat} (ha : ps a = true) (hb : ps b = true) (fa : mlB 4611686018427387904 a < 9218868437227405312) (fb : mlB 4611686018427387904 b < 9218868437227405312) : lr b a = lr a b := by
  have a1 := ps_iff.1 ha
  have b1 := ps_iff.1 hb
  have da := d2_facts a1.2
  have db := d2_facts b1.2
  have e : leer b a = leer a b := by
    unfold leer
    rw [leer_comm (by omega) (by omega) fb fa]
    congr 1
    unfold plB
    rw [addB_comm_fin b a (by omega) (by omega) (by rw [mg_of_lt (by omega)]; omega) (by rw [mg_of_lt (by omega)]; omega)]
  unfold lr
  rw [e]
theorem lm_comm {k : Int} {a b : Nat} (ha : ps a = true) (hb : ps b = true) (h : k = 3 → mlB 4611686018427387904 a < 9218868437227405312 ∧ mlB 4611686018427387904 b < 9218868437227405312) : lm k b a = lm k a b := by
  unfold lm
  rw [Nat.min_comm b a, sbee_comm b a]
  split
  · rfl
  · split
    · rfl
    · split
      · rename_i c
        exact lr_comm ha hb (h c).1 (h c).2
      · rfl
theorem slp_comm {k : Int} {a b : Nat} (h : k = 3 → fin (mlB 4611686018427387904 a) = true ∧ fin (mlB 4611686018427387904 b) = true) : slp k b a = slp k a b := by
  cases p : (ps a && ps b)
  · cases n : (ns a && ns b)
    · rw [slp_z p n, slp_z (by rw [Bool.and_comm]; exact p) (by rw [Bool.and_comm]; exact n)]
    · rw [Bool.and_eq_true] at n
      rw [slp_n n.1 n.2, slp_n n.2 n.1]
      have h1 := ns_iff.1 n.1
      have h2 := ns_iff.1 n.2
      rw [lm_comm (ps_iff.2 (by omega)) (ps_iff.2 (by omega)) (fun e => by
        have := h e
        rw [fin_two_n n.1, fin_two_n n.2, decide_eq_true_iff, decide_eq_true_iff] at this
        exact this)]
  · rw [Bool.and_eq_true] at p
    rw [slp_p p.1 p.2, slp_p p.2 p.1]
    exact lm_comm p.1 p.2 (fun e => by
        have := h e
        rw [fin_two_p p.1, fin_two_p p.2, decide_eq_true_iff, decide_eq_true_iff] at this
        exact this)
theorem fin_q {r q : Nat} (h : IsQ r q) : fin r = fin q := by
  obtain ⟨h1, h2⟩ := h
  cases n : isN r
  · rw [qB_of n] at h2; rw [h2]
  · rw [qB_N n] at h2
    rw [← h2]
    have := isN_true.1 n
    unfold fin
    rw [decide_eq_false (by omega), decide_eq_false (by decide)]
end Go.Proofs.Ytgbaaafikphafaa

/-
  Whether a float is finite, magnitudes, and that the program is awake: walks over it.
-/
namespace Go.Proofs.Ytgbaaafikphafaa
open Go.RowKit Tf
attribute [local go_sem] run_bits run_from raw_feq raw_fne raw_flt raw_fgt run_neg
set_option maxHeartbeats 400000 in
theorem same10_at (a b : Nat) (w : World) : Calls Try.prog 8 #[.float .f64 a, .float .f64 b] w fun e w' => e = .returned (.bool (sameB a b)) ∧ w' = w := by
  go_enter Try.func8, Try.ntmps8
  go_wp2_with (go_at_call 15; refine (rawSame_any a b _).mono ?_; rintro e w' ⟨rfl, rfl⟩)
  go_ret
  exact ⟨rfl, rfl⟩
theorem same10_yes (a b : Nat) (w : World) (h : a = b) : Calls Try.prog 8 #[.float .f64 a, .float .f64 b] w fun e w' => e = .returned (.bool true) ∧ w' = w := by
  have := same10_at a b w
  rwa [show sameB a b = true by unfold sameB; exact decide_eq_true h] at this
set_option maxHeartbeats 400000 in
theorem finite10_yes (x : Nat) (w : World) (hx : x < 18446744073709551616) (h : fin x = true) :
    Calls Try.prog 10 #[.float .f64 x] w fun e w' => e = .returned (.bool true) ∧ ∃ n, w' = w.drewN n := by
  have hs := fun (t : TypeId) (w : World) => run_float_arith (P := Try.prog) w .sub t .f64 x x 0 (sub_self x hx (by unfold fin at h; simpa using h))
  have h0 : feq 0 0 = true := by decide
  go_enter Try.func10, Try.ntmps10
  go_wp2
  go_ret
  exact ⟨rfl, 0, rfl⟩
set_option maxHeartbeats 400000 in
theorem finite10_no (x : Nat) (w : World) (h : fin x = false) :
    Calls Try.prog 10 #[.float .f64 x] w fun e w' => e = .returned (.bool false) ∧ ∃ n, w' = w.drewN n := by
  have hno : Ieee.double.sub x x = none := by
    unfold fin at h
    have h' : ¬ mg x < 9218868437227405312 := by simpa using h
    by_cases c : mg x = 9218868437227405312
    · exact sub_inf_self x c
    · exact sub_nan x x (.inl (isN_true.2 (by omega)))
  have hs := fun (t : TypeId) (w : World) => run_nan_sub (P := Try.prog) w t x x hno
  have hf := fun (w : World) => feq_nan (nanOf w x x) 0 (.inl (isN_nanOf w x x))
  go_enter Try.func10, Try.ntmps10
  go_wp2
  go_ret
  exact ⟨rfl, 1, rfl⟩
theorem finite10_at (x : Nat) (w : World) (hx : x < 18446744073709551616) :
    Calls Try.prog 10 #[.float .f64 x] w fun e w' => e = .returned (.bool (fin x)) ∧ ∃ n, w' = w.drewN n := by
  cases h : fin x
  · exact finite10_no x w h
  · exact finite10_yes x w hx h
set_option maxHeartbeats 400000 in
theorem mag10_p (x : Nat) (w : World) (h : flt x 0 = false) : Calls Try.prog 11 #[.float .f64 x] w fun e w' => e = .returned (.float .f64 x) ∧ w' = w := by
  go_enter Try.func11, Try.ntmps11
  go_wp2
  go_ret
  exact ⟨rfl, rfl⟩
set_option maxHeartbeats 400000 in
theorem mag10_n (x y : Nat) (w : World) (h : flt x 0 = true) (hy : Op.negFloat .f64 x = y) : Calls Try.prog 11 #[.float .f64 x] w fun e w' => e = .returned (.float .f64 y) ∧ w' = w := by
  go_enter Try.func11, Try.ntmps11
  go_wp2
  go_ret
  exact ⟨rfl, rfl⟩
theorem lv10_0 : slp 1 13830554455654793216 13837309855095848960 = 13830554455654793216 := by decide +kernel
theorem lv10_1 : slp 2 4607182418800017408 4613937818241073152 = 4611686018427387904 := by decide +kernel
theorem lv10_2 : slp 3 4607182418800017408 4613937818241073152 = 4609434218613702656 := by decide +kernel
theorem lv10_3 : slp 0 4607182418800017408 4613937818241073152 = 0 := by decide +kernel
set_option maxHeartbeats 2000000 in
theorem lives10_at (w : World) : Calls Try.prog 6 #[] w fun e w' => e = .returned (.bool true) ∧ Below w.heap.size w w' := by
  have C0 : Hid (∀ w, Calls Try.prog 7 #[.int .i64 1, .float .f64 13830554455654793216, .float .f64 13837309855095848960] w fun e w' => e = .returned (.float .f64 13830554455654793216) ∧ Below w.heap.size w w') := fun w => by
    have h := slope_at 1 13830554455654793216 13837309855095848960 w (by decide) (by decide)
    rwa [lv10_0] at h
  have S0 : Hid (∀ w, Calls Try.prog 8 #[.float .f64 13830554455654793216, .float .f64 13830554455654793216] w fun e w' => e = .returned (.bool true) ∧ w' = w) := fun w => same10_yes _ _ w rfl
  have C1 : Hid (∀ w, Calls Try.prog 7 #[.int .i64 2, .float .f64 4607182418800017408, .float .f64 4613937818241073152] w fun e w' => e = .returned (.float .f64 4611686018427387904) ∧ Below w.heap.size w w') := fun w => by
    have h := slope_at 2 4607182418800017408 4613937818241073152 w (by decide) (by decide)
    rwa [lv10_1] at h
  have S1 : Hid (∀ w, Calls Try.prog 8 #[.float .f64 4611686018427387904, .float .f64 4611686018427387904] w fun e w' => e = .returned (.bool true) ∧ w' = w) := fun w => same10_yes _ _ w rfl
  have C2 : Hid (∀ w, Calls Try.prog 7 #[.int .i64 3, .float .f64 4607182418800017408, .float .f64 4613937818241073152] w fun e w' => e = .returned (.float .f64 4609434218613702656) ∧ Below w.heap.size w w') := fun w => by
    have h := slope_at 3 4607182418800017408 4613937818241073152 w (by decide) (by decide)
    rwa [lv10_2] at h
  have S2 : Hid (∀ w, Calls Try.prog 8 #[.float .f64 4609434218613702656, .float .f64 4609434218613702656] w fun e w' => e = .returned (.bool true) ∧ w' = w) := fun w => same10_yes _ _ w rfl
  have C3 : Hid (∀ w, Calls Try.prog 7 #[.int .i64 0, .float .f64 4607182418800017408, .float .f64 4613937818241073152] w fun e w' => e = .returned (.float .f64 0) ∧ Below w.heap.size w w') := fun w => by
    have h := slope_at 0 4607182418800017408 4613937818241073152 w (by decide) (by decide)
    rwa [lv10_3] at h
  have S3 : Hid (∀ w, Calls Try.prog 8 #[.float .f64 0, .float .f64 0] w fun e w' => e = .returned (.bool true) ∧ w' = w) := fun w => same10_yes _ _ w rfl
  have V3 : Hid (∀ w, Calls Try.prog 13 #[.int .i64 3] w fun e w' => e = .returned (.bool true) ∧ Below w.heap.size w w') := fun w => valid_at 3 w
  have V4 : Hid (∀ w, Calls Try.prog 13 #[.int .i64 4] w fun e w' => e = .returned (.bool false) ∧ Below w.heap.size w w') := fun w => valid_at 4 w
  go_enter Try.func6, Try.ntmps6
  go_wp2_with fail
  refine (C0.out _).mono ?_
  rintro e w0 ⟨rfl, b0⟩
  have B0 : Hid (Ab w w0) := b0
  clear b0
  go_wp2_with fail
  refine (S0.out _).mono ?_
  rintro e w' ⟨rfl, hw⟩
  have hw2 := hw.symm
  subst hw2
  go_wp2_with fail
  refine (C1.out _).mono ?_
  rintro e w1 ⟨rfl, b1⟩
  have B1 : Hid (Ab w w1) := Ab.trans B0.out b1
  clear b1
  go_wp2_with fail
  refine (S1.out _).mono ?_
  rintro e w' ⟨rfl, hw⟩
  have hw2 := hw.symm
  subst hw2
  go_wp2_with fail
  refine (C2.out _).mono ?_
  rintro e w2 ⟨rfl, b2⟩
  have B2 : Hid (Ab w w2) := Ab.trans B1.out b2
  clear b2
  go_wp2_with fail
  refine (S2.out _).mono ?_
  rintro e w' ⟨rfl, hw⟩
  have hw2 := hw.symm
  subst hw2
  go_wp2_with fail
  refine (C3.out _).mono ?_
  rintro e w3 ⟨rfl, b3⟩
  have B3 : Hid (Ab w w3) := Ab.trans B2.out b3
  clear b3
  go_wp2_with fail
  refine (S3.out _).mono ?_
  rintro e w' ⟨rfl, hw⟩
  have hw2 := hw.symm
  subst hw2
  go_wp2_with fail
  refine (V3.out _).mono ?_
  rintro e w4 ⟨rfl, b4⟩
  have B4 : Hid (Ab w w4) := Ab.trans B3.out b4
  clear b4
  go_wp2_with fail
  refine (V4.out _).mono ?_
  rintro e w5 ⟨rfl, b5⟩
  have B5 : Hid (Ab w w5) := Ab.trans B4.out b5
  clear b5
  go_wp2
  go_ret
  exact ⟨rfl, B5.out⟩
end Go.Proofs.Ytgbaaafikphafaa
