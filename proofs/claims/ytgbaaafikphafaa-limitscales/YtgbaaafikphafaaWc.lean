/-
  What Order, Max, Min and Between of package bits return, and the small helpers of the statements: walks over the program.
-/
import Derived.Test.YtgbaaafikphafaaWb
namespace Go.Proofs.Ytgbaaafikphafaa
open Go.RowKit Tf
attribute [local go_sem] run_bits run_from raw_feq raw_fne raw_flt raw_fgt run_neg

def sameB (a b : Nat) : Bool := decide (a = b)

set_option maxHeartbeats 400000 in
theorem rawSame_any (a b : Nat) (w : World) :
    Calls Try.prog 15 #[.float .f64 a, .float .f64 b] w fun e w' => e = .returned (.bool (sameB a b)) ∧ w' = w := by
  go_enter Try.func15, Try.ntmps15
  go_wp2
  go_ret
  refine ⟨ret_bool ?_, rfl⟩
  unfold sameB
  by_cases h : a = b
  · subst h; simp
  · have : ¬ (a : Int) = (b : Int) := by omega
    simp only [h, decide_false, beq_eq_false_iff_ne, ne_eq, this, not_false_eq_true]
set_option maxHeartbeats 400000 in
theorem order_at (a b p q : Nat) (w : World) (ha : a < 18446744073709551616) (hb : b < 18446744073709551616) (hp : Hid (placeB a = p)) (hq : Hid (placeB b = q)) :
    Calls Try.prog 18 #[.float .f64 a, .float .f64 b] w fun e w' => e = .returned (.int .i64 (if p < q then -1 else if q < p then 1 else 0)) ∧ w' = w := by
  have pa : ∀ w, Calls Try.prog 26 #[.float .f64 a] w fun e w' => e = .returned (.int .u64 (p : Nat)) ∧ w' = w := by
    intro w; rw [← hp.out]; exact place_any a w ha
  have pb : ∀ w, Calls Try.prog 26 #[.float .f64 b] w fun e w' => e = .returned (.int .u64 (q : Nat)) ∧ w' = w := by
    intro w; rw [← hq.out]; exact place_any b w hb
  have PA := hid pa
  have PB := hid pb
  clear pa pb
  by_cases c1 : p < q
  · rw [if_pos c1]
    go_enter Try.func18, Try.ntmps18
    go_wp2_with fail
    refine (PA.out _).mono ?_
    rintro e w' ⟨rfl, rfl⟩
    go_wp2_with fail
    refine (PB.out _).mono ?_
    rintro e w' ⟨rfl, rfl⟩
    go_wp2
    go_ret
    exact ⟨rfl, rfl⟩
  · rw [if_neg c1]
    by_cases c2 : q < p
    · rw [if_pos c2]
      go_enter Try.func18, Try.ntmps18
      go_wp2_with fail
      refine (PA.out _).mono ?_
      rintro e w' ⟨rfl, rfl⟩
      go_wp2_with fail
      refine (PB.out _).mono ?_
      rintro e w' ⟨rfl, rfl⟩
      go_wp2
      go_ret
      exact ⟨rfl, rfl⟩
    · rw [if_neg c2]
      go_enter Try.func18, Try.ntmps18
      go_wp2_with fail
      refine (PA.out _).mono ?_
      rintro e w' ⟨rfl, rfl⟩
      go_wp2_with fail
      refine (PB.out _).mono ?_
      rintro e w' ⟨rfl, rfl⟩
      go_wp2
      go_ret
      exact ⟨rfl, rfl⟩
theorem order_any (a b : Nat) (w : World) (ha : a < 18446744073709551616) (hb : b < 18446744073709551616) :
    Calls Try.prog 18 #[.float .f64 a, .float .f64 b] w fun e w' => e = .returned (.int .i64 (orderB a b)) ∧ w' = w :=
  order_at a b (placeB a) (placeB b) w ha hb rfl rfl
theorem orderB_at (a b : Nat) (o : Int) (w : World) (ha : a < 18446744073709551616) (hb : b < 18446744073709551616) (ho : Hid (orderB a b = o)) :
    Calls Try.prog 18 #[.float .f64 a, .float .f64 b] w fun e w' => e = .returned (.int .i64 o) ∧ w' = w := by
  rw [← ho.out]; exact order_any a b w ha hb

theorem orderB_lt (a b : Nat) : orderB a b < 0 ↔ placeB a < placeB b := by
  unfold orderB; split
  · simp_all
  · split <;> simp_all
theorem orderB_gt (a b : Nat) : 0 < orderB a b ↔ placeB b < placeB a := by
  unfold orderB; split
  · simp; omega
  · split <;> simp_all

set_option maxHeartbeats 400000 in
theorem max_any (a b : Nat) (w : World) (ha : a < 18446744073709551616) (hb : b < 18446744073709551616) :
    Calls Try.prog 12 #[.float .f64 a, .float .f64 b] w fun e w' => e = .returned (.float .f64 (maxB a b)) ∧ w' = w := by
  obtain ⟨r, hr⟩ : ∃ r, maxB a b = r := ⟨_, rfl⟩
  obtain ⟨o, ho⟩ : ∃ o, orderB a b = o := ⟨_, rfl⟩
  have h1 := orderB_lt a b
  rw [ho] at h1
  have HO : Hid (orderB a b = o) := ho
  have HR : Hid (r = if isN a || isN b then quiet else if o < 0 then b else a) := by
    show r = _
    rw [← hr]; unfold maxB; simp only [h1]
  rw [hr]
  clear hr ho h1
  cases nA : isN a
  · cases nB : isN b
    · have h := HR.out
      rw [nA, nB] at h
      simp only [Bool.or_self, Bool.false_eq_true, if_false] at h
      by_cases c : o < 0
      · have e1 : decide (o < 0) = true := by simp; omega
        rw [if_pos c] at h
        rw [h]
        clear c HR h
        go_enter Try.func12, Try.ntmps12
        go_wp2_with fail
        refine (isNaN_any a _ ha).mono ?_
        rintro e w' ⟨rfl, rfl⟩
        go_wp2_with fail
        refine (isNaN_any b _ hb).mono ?_
        rintro e w' ⟨rfl, rfl⟩
        go_wp2_with fail
        refine (orderB_at a b o _ ha hb HO).mono ?_
        rintro e w' ⟨rfl, rfl⟩
        go_wp2
        go_ret
        exact ⟨rfl, rfl⟩
      · have e1 : decide (o < 0) = false := by simp; omega
        rw [if_neg c] at h
        rw [h]
        clear c HR h
        go_enter Try.func12, Try.ntmps12
        go_wp2_with fail
        refine (isNaN_any a _ ha).mono ?_
        rintro e w' ⟨rfl, rfl⟩
        go_wp2_with fail
        refine (isNaN_any b _ hb).mono ?_
        rintro e w' ⟨rfl, rfl⟩
        go_wp2_with fail
        refine (orderB_at a b o _ ha hb HO).mono ?_
        rintro e w' ⟨rfl, rfl⟩
        go_wp2
        go_ret
        exact ⟨rfl, rfl⟩
    · have h := HR.out
      rw [nA, nB] at h
      simp only [Bool.or_true, if_true] at h
      rw [h]
      clear HR h
      go_enter Try.func12, Try.ntmps12
      go_wp2_with fail
      refine (isNaN_any a _ ha).mono ?_
      rintro e w' ⟨rfl, rfl⟩
      go_wp2_with fail
      refine (isNaN_any b _ hb).mono ?_
      rintro e w' ⟨rfl, rfl⟩
      go_wp2_with fail
      refine (quietNaN_any _).mono ?_
      rintro e w' ⟨rfl, rfl⟩
      go_wp2
      go_ret
      exact ⟨rfl, rfl⟩
  · have h := HR.out
    rw [nA] at h
    simp only [Bool.true_or, if_true] at h
    rw [h]
    clear HR h
    go_enter Try.func12, Try.ntmps12
    go_wp2_with fail
    refine (isNaN_any a _ ha).mono ?_
    rintro e w' ⟨rfl, rfl⟩
    go_wp2_with fail
    refine (quietNaN_any _).mono ?_
    rintro e w' ⟨rfl, rfl⟩
    go_wp2
    go_ret
    exact ⟨rfl, rfl⟩

theorem rk_bound (x : Nat) (h : isN x = false) : -9218868437227405312 ≤ rk x ∧ rk x ≤ 9218868437227405312 := by
  have := isN_false.1 h
  unfold rk; split <;> omega
theorem bet_none (a b : Nat) (h : isN a = true ∨ isN b = true) : betOk a b = false ∧ betB a b = 0 := by
  have : betOk a b = false := by unfold betOk; rcases h with h | h <;> simp [h]
  exact ⟨this, by unfold betB; rw [this]; rfl⟩
theorem bet_yes (a b : Nat) (ha : isN a = false) (hb : isN b = false) (h1 : -9223372036854775808 ≤ rk b - rk a) (h2 : rk b - rk a < 9223372036854775808) : betOk a b = true ∧ betB a b = rk b - rk a := by
  have : betOk a b = true := by unfold betOk betD; simp [ha, hb]; omega
  exact ⟨this, by unfold betB; rw [this]; rfl⟩
theorem bet_no (a b : Nat) (h1 : rk b - rk a < -9223372036854775808 ∨ 9223372036854775808 ≤ rk b - rk a) : betOk a b = false ∧ betB a b = 0 := by
  have : betOk a b = false := by unfold betOk betD; simp; omega
  exact ⟨this, by unfold betB; rw [this]; rfl⟩

/-- the NaN that an operation without an answer gives: its bits are drawn -/
def nanOf (w : World) (x y : Nat) : Nat := (Question.nanBits .f64 x y).cut (w.tape w.drawn (.nanBits .f64 x y))
theorem nanOf_lt (w : World) (x y : Nat) : nanOf w x y < 18446744073709551616 := by
  unfold nanOf Question.cut
  simp only []
  omega
theorem isN_nanOf (w : World) (x y : Nat) : isN (nanOf w x y) = true := by
  rw [isN_true]
  unfold nanOf Question.cut mg
  simp only []
  generalize w.tape w.drawn (Question.nanBits FloatKind.f64 x y) = t
  have hb : t / 2 % (2 ^ 52 - 1) < 2 ^ 52 - 1 := Nat.mod_lt _ (by omega)
  generalize t / 2 % (2 ^ 52 - 1) = b at *
  have ha : t % 2 = 0 ∨ t % 2 = 1 := by omega
  rcases ha with h | h <;> rw [h] <;> omega
theorem run_nan_sub {P : Program} (w : World) (t : TypeId) (x y : Nat) (h : Ieee.double.sub x y = none) :
    (binOp .sub t (.float .f64 x) (.float .f64 y)).run P w = .ok (.float .f64 (nanOf w x y)) w.drew := by
  have h' : FloatKind.f64.format.sub x y = none := h
  simp [binOp, Op.floatArith, h', nanOf, Question.forced]
theorem feq_nan (a b : Nat) (h : isN a = true ∨ isN b = true) : feq a b = false := by unfold feq; rw [order_nan a b h]; rfl
theorem flt_nan (a b : Nat) (h : isN a = true ∨ isN b = true) : flt a b = false := by unfold flt; rw [order_nan a b h]; rfl
theorem fgt_nan (a b : Nat) (h : isN a = true ∨ isN b = true) : fgt a b = false := by unfold fgt; rw [order_nan a b h]; rfl

end Go.Proofs.Ytgbaaafikphafaa
