/-
  Lists of finite floats, scaled by powers of two, and whole numbers, by plain numbers.
-/
import Derived.Test.YtpnijbdoceladaaHb
namespace Go.Proofs.Ytpnijbdoceladaa
open Go.RowKit Tf

/-- all of a list, in units of 2^-1074 -/
def svL : List Nat → Int
  | [] => 0
  | x :: l => sv x + svL l
theorem svL_append (l : List Nat) (x : Nat) : svL (l ++ [x]) = svL l + sv x := by
  induction l with
  | nil => show sv x + 0 = 0 + sv x; omega
  | cons y l ih => show sv y + svL (l ++ [x]) = sv y + svL l + sv x; rw [ih]; omega
/-- finite, and not -0 -/
def okF (x : Nat) : Prop := x < 18446744073709551616 ∧ mg x < 9218868437227405312 ∧ ¬ (mg x = 0 ∧ ng x = true)
theorem unitA_ok (x : Nat) (h : okF x) : unitA x = ⟨1, 0, sv x * ((2 ^ K : Nat) : Int), false, false, false⟩ := by
  rw [unitA_fin x h.2.1, if_neg]
  intro e
  rw [Bool.and_eq_true] at e
  exact h.2.2 ⟨by have := e.1; unfold zeroB at this; simpa using this, e.2⟩
theorem sumS_list (l : List Nat) (h : ∀ x ∈ l, okF x) : ∀ k, k ≤ l.length → sumS (fun j => l.getD j 0) k = ⟨(k : Nat), 0, svL (l.take k) * ((2 ^ K : Nat) : Int), false, false, false⟩ := by
  intro k
  induction k with
  | zero => intro _; apply AS.eq <;> simp [sumS, S0, svL]
  | succ k ih =>
    intro hk
    have hlt : k < l.length := by omega
    have ho : okF (l.getD k 0) := by
      have e : l.getD k 0 = l[k] := by simp [hlt]
      rw [e]; exact h _ (List.getElem_mem hlt)
    show stepA (sumS _ k) (l.getD k 0) = _
    rw [stepA_plus, unitA_ok _ ho, ih (by omega)]
    have et : l.take (k + 1) = l.take k ++ [l.getD k 0] := by
      rw [List.take_add_one]
      congr 1
      simp [hlt]
    rw [et, svL_append]
    apply AS.eq
    · simp [plusS]
    · simp [plusS]
    · simp only [plusS]; rw [Int.add_mul]
    all_goals rfl
theorem val_list (l : List Nat) (h : ∀ x ∈ l, okF x) : valB (sumS (fun j => l.getD j 0) l.length) = rn false (svL l) := by
  rw [sumS_list l h l.length (Nat.le_refl _), List.take_length]
  unfold valB
  simp only [Bool.or_false, Bool.and_false, Bool.false_eq_true, if_false]
  rw [if_neg (by omega), canon_rv_scale]

/-! scaling -/
theorem rung_up (V k : Nat) (h : 2 ^ 52 ≤ V) : rung 52 0 (V * 2 ^ k) = rung 52 0 V + k * 4503599627370496 := by
  have hV : V ≠ 0 := by have := pow_pos 52; omega
  have hl : 52 ≤ V.log2 := (Nat.le_log2 hV).2 h
  have e52 : (2 : Nat) ^ 52 = 4503599627370496 := by decide
  unfold rung
  rw [log2_mul_pow V k hV, Nat.add_zero, Nat.add_zero, Nat.add_zero, show V.log2 + k - 52 = V.log2 - 52 + k by omega, Nat.pow_add, rne_scale _ _ _ (pow_pos k), e52, Nat.add_mul]
  omega
theorem mv_up (r k : Nat) (h : 4503599627370496 ≤ r) : mv (r + k * 4503599627370496) = mv r * 2 ^ k := by
  have e52 : (2 : Nat) ^ 52 = 4503599627370496 := by decide
  unfold mv mag
  rw [e52, if_neg (by omega), if_neg (by omega)]
  have e1 : (r + k * 4503599627370496) % 4503599627370496 = r % 4503599627370496 := by omega
  have e2 : (r + k * 4503599627370496) / 4503599627370496 - 1 = r / 4503599627370496 - 1 + k := by omega
  rw [e1, e2, Nat.pow_add, Nat.mul_assoc]
theorem mv_great (r : Nat) (h : 4503599627370496 ≤ r) : 2 ^ 52 ≤ mv r := by
  have : mv 4503599627370496 ≤ mv r := mv_le.2 h
  have e : mv 4503599627370496 = 2 ^ 52 := by decide +kernel
  omega
/-- the product by a power of two, where nothing is lost -/
theorem mul_pow (t k : Nat) (hk : k < 400) (ht : t < 18446744073709551616) (h1 : 4503599627370496 ≤ mg t) (h2 : mg t + k * 4503599627370496 < 9218868437227405312) :
    Ieee.double.mul t ((k + 1023) * 4503599627370496) = some (t + k * 4503599627370496) := by
  have e52 : (2 : Nat) ^ 52 = 4503599627370496 := by decide
  have hP : mv ((k + 1023) * 4503599627370496) = 2 ^ k * one := mv_from_one k _ (by rw [e52])
  have hPm : mg ((k + 1023) * 4503599627370496) = (k + 1023) * 4503599627370496 := mg_of_lt (by omega)
  have hPn : ng ((k + 1023) * 4503599627370496) = false := ng_of_lt (by omega)
  rw [mul_d t _ ht (by omega) (by omega) (by rw [hPm]; omega), hPm, hP, hPn, one_pow]
  have hr : rung 52 1074 (mv (mg t) * (2 ^ k * 2 ^ K)) = mg t + k * 4503599627370496 := by
    have h3 := rung_scale 52 0 K (mv (mg t) * 2 ^ k)
    rw [Nat.zero_add] at h3
    have h4 : rung 52 1074 (mv (mg t) * (2 ^ k * 2 ^ K)) = rung 52 K (mv (mg t) * 2 ^ k * 2 ^ K) := by rw [Nat.mul_assoc]; rfl
    rw [h4, h3, rung_up _ _ (mv_great _ h1), rung_mv]
  rw [hr, Nat.min_eq_left (by omega), Bool.xor_false]
  have hw := word_eq t ht
  cases hn : ng t
  · rw [hn, if_neg (by decide)] at hw
    rw [if_neg (by decide)]
    exact congrArg some (by omega)
  · rw [hn, if_pos rfl] at hw
    rw [if_pos rfl]
    exact congrArg some (by omega)
theorem sv_scaled (t k : Nat) (ht : t < 18446744073709551616) (h1 : 4503599627370496 ≤ mg t) (h2 : mg t + k * 4503599627370496 < 9218868437227405312) :
    mg (t + k * 4503599627370496) = mg t + k * 4503599627370496 ∧ ng (t + k * 4503599627370496) = ng t ∧ t + k * 4503599627370496 < 18446744073709551616 ∧ sv (t + k * 4503599627370496) = sv t * ((2 ^ k : Nat) : Int) := by
  have hw := word_eq t ht
  have h3 := mg_lt t
  cases hn : ng t
  · rw [hn, if_neg (by decide)] at hw
    have l1 : t + k * 4503599627370496 < 9223372036854775808 := by omega
    have m1 : mg (t + k * 4503599627370496) = mg t + k * 4503599627370496 := by rw [mg_of_lt l1]; omega
    have n1 : ng (t + k * 4503599627370496) = false := ng_of_lt l1
    refine ⟨m1, n1, by omega, ?_⟩
    unfold sv
    rw [n1, m1, hn, mv_up _ _ h1]
    simp
  · rw [hn, if_pos rfl] at hw
    have l1 : 9223372036854775808 ≤ t + k * 4503599627370496 := by omega
    have l2 : t + k * 4503599627370496 < 18446744073709551616 := by omega
    have m1 : mg (t + k * 4503599627370496) = mg t + k * 4503599627370496 := by rw [mg_of_ge l1 l2]; omega
    have n1 : ng (t + k * 4503599627370496) = true := ng_of_ge l1
    refine ⟨m1, n1, l2, ?_⟩
    unfold sv
    rw [n1, m1, hn, mv_up _ _ h1]
    simp [Int.neg_mul]
theorem rn_up (A : Int) (k : Nat) (h : 2 ^ 52 ≤ A.natAbs) (h2 : rung 52 0 A.natAbs + k * 4503599627370496 < 9218868437227405312) : rn false (A * ((2 ^ k : Nat) : Int)) = rn false A + k * 4503599627370496 := by
  have hp := pow_pos k
  have hp52 := pow_pos 52
  have hA : A ≠ 0 := by omega
  have hab : (A * ((2 ^ k : Nat) : Int)).natAbs = A.natAbs * 2 ^ k := by rw [Int.natAbs_mul, Int.natAbs_natCast]
  have hpos : (0 : Int) < ((2 ^ k : Nat) : Int) := by omega
  have hne : A * ((2 ^ k : Nat) : Int) ≠ 0 := Int.mul_ne_zero hA (by omega)
  unfold rn
  rw [hab, rung_up _ _ h, if_neg hA, if_neg hne, Nat.min_eq_left (by omega), Nat.min_eq_left (by omega)]
  by_cases c : A < 0
  · rw [decide_eq_true c, decide_eq_true (Int.mul_neg_of_neg_of_pos c hpos), if_pos rfl, if_pos rfl]; omega
  · have h0 : 0 ≤ A * ((2 ^ k : Nat) : Int) := Int.mul_nonneg (by omega) (by omega)
    rw [decide_eq_false c, decide_eq_false (by omega : ¬ A * ((2 ^ k : Nat) : Int) < 0), if_neg (by decide), if_neg (by decide)]

/-- middling floats: their size, and what divides them -/
def midF (x : Nat) : Prop := x < 18446744073709551616 ∧ 724 * 4503599627370496 ≤ mg x ∧ mg x < 1323 * 4503599627370496
def D7 : Nat := 723
def D13 : Nat := 1322 + 52
theorem mv_mid (r : Nat) (h1 : 724 * 4503599627370496 ≤ r) (h2 : r < 1323 * 4503599627370496) : 2 ^ D7 ∣ mv r ∧ mv r < 2 ^ D13 := by
  have e52 : (2 : Nat) ^ 52 = 4503599627370496 := by decide
  have hd : D7 = 723 := rfl
  have hd2 : D13 = 1374 := rfl
  refine ⟨?_, ?_⟩
  · unfold mv mag
    rw [e52, if_neg (by omega)]
    have e : r / 4503599627370496 - 1 = D7 + (r / 4503599627370496 - 1 - D7) := by omega
    rw [e, Nat.pow_add, ← Nat.mul_assoc, Nat.mul_right_comm]
    exact Nat.dvd_mul_left _ _
  · have h3 : mv r < mv (1323 * 4503599627370496) := mv_lt.2 h2
    have h4 := mv_two_pow (D13 - 52) (1323 * 4503599627370496) (by rw [e52, hd2])
    rw [h4, show 52 + (D13 - 52) = D13 by omega] at h3
    exact h3
theorem svL_mid (l : List Nat) (h : ∀ x ∈ l, midF x) : (∃ z : Int, svL l = z * ((2 ^ D7 : Nat) : Int)) ∧ (svL l).natAbs ≤ l.length * 2 ^ D13 := by
  induction l with
  | nil => exact ⟨⟨0, by simp [svL]⟩, by simp [svL]⟩
  | cons x l ih =>
    obtain ⟨⟨z, hz⟩, hb⟩ := ih (fun y hy => h y (by simp [hy]))
    have hx := h x (by simp)
    obtain ⟨⟨q, hq⟩, hl⟩ := mv_mid (mg x) hx.2.1 hx.2.2
    have hab : (sv x).natAbs = mv (mg x) := by unfold sv; split <;> omega
    refine ⟨?_, ?_⟩
    · show ∃ z' : Int, sv x + svL l = z' * _
      have hs : ∃ y : Int, sv x = y * ((2 ^ D7 : Nat) : Int) := by
        unfold sv
        rw [hq]
        cases ng x
        · exact ⟨(q : Int), by simp [Int.mul_comm]⟩
        · exact ⟨-(q : Int), by simp [Int.mul_comm, Int.neg_mul]⟩
      obtain ⟨y, hy⟩ := hs
      exact ⟨y + z, by rw [hy, hz, Int.add_mul]⟩
    · show (sv x + svL l).natAbs ≤ (l.length + 1) * 2 ^ D13
      rw [Nat.add_mul, Nat.one_mul]
      omega
theorem mid_ok (x : Nat) (h : midF x) : okF x := ⟨h.1, by have := h.2.2; omega, fun e => by have := h.2.1; omega⟩

/-- THE SUM OF MIDDLING FLOATS, times a power of two -/
theorem scaled (l : List Nat) (h : ∀ x ∈ l, midF x) (hl : l.length ≤ 4096) (k : Nat) (hk : k < 400) :
    ∃ t, Ieee.double.mul (rn false (svL l)) ((k + 1023) * 4503599627370496) = some t ∧ rn false (svL (l.map (· + k * 4503599627370496))) = t := by
  obtain ⟨⟨z, hz⟩, hb⟩ := svL_mid l h
  have hs : svL (l.map (· + k * 4503599627370496)) = svL l * ((2 ^ k : Nat) : Int) := by
    clear hz hb hl
    induction l with
    | nil => simp [svL]
    | cons x l ih =>
      have hx := h x (by simp)
      have := (sv_scaled x k hx.1 (by have := hx.2.1; omega) (by have := hx.2.2; omega)).2.2.2
      show sv (x + k * 4503599627370496) + svL (l.map _) = (sv x + svL l) * _
      rw [this, ih (fun y hy => h y (by simp [hy])), Int.add_mul]
  rw [hs]
  generalize svL l = A at *
  by_cases c : A = 0
  · subst c
    rw [Int.zero_mul, rn_zero]
    refine ⟨0, ?_, rfl⟩
    have hP : mg ((k + 1023) * 4503599627370496) = (k + 1023) * 4503599627370496 := mg_of_lt (by omega)
    have hPn : ng ((k + 1023) * 4503599627370496) = false := ng_of_lt (by omega)
    have z0 : mg 0 = 0 := by decide
    have z1 : ng 0 = false := by decide
    show Ieee.double.mul 0 _ = _
    rw [mul_d 0 _ (by decide) (by omega) (by decide) (by rw [hP]; omega), z0, z1, hPn, mv_zero, Nat.zero_mul]
    decide +kernel
  · have hz0 : z ≠ 0 := fun e => c (by rw [hz, e, Int.zero_mul])
    have hge : 2 ^ 52 ≤ A.natAbs := by
      rw [hz, Int.natAbs_mul, Int.natAbs_natCast]
      have h1 : 2 ^ 52 ≤ 2 ^ D7 := Nat.pow_le_pow_right (by decide) (by decide)
      have h2 : 1 * 2 ^ D7 ≤ z.natAbs * 2 ^ D7 := Nat.mul_le_mul_right _ (by omega)
      omega
    have hle : A.natAbs ≤ 2 ^ (D13 + 12) := by
      rw [Nat.pow_add]
      have h1 : l.length * 2 ^ D13 ≤ 4096 * 2 ^ D13 := Nat.mul_le_mul_right _ hl
      have e12 : (2 : Nat) ^ 12 = 4096 := by decide
      rw [e12, Nat.mul_comm]; omega
    have e52 : (2 : Nat) ^ 52 = 4503599627370496 := by decide
    have hr : rung 52 0 A.natAbs ≤ 1335 * 4503599627370496 := by
      have h4 := mv_two_pow (D13 + 12 - 52) (1335 * 4503599627370496) (by rw [e52]; rfl)
      refine rung_le (by omega) ?_
      rw [Nat.pow_zero, Nat.mul_one]
      show A.natAbs ≤ mv _
      rw [h4, show 52 + (D13 + 12 - 52) = D13 + 12 by decide]; exact hle
    have hr1 : 4503599627370496 ≤ rung 52 0 A.natAbs := by
      have e : mag 52 4503599627370496 = 2 ^ 52 := by decide +kernel
      exact rung_ge (by omega) (by rw [Nat.pow_zero, Nat.mul_one, e]; exact hge)
    have hmg : mg (rn false A) = rung 52 0 A.natAbs := by rw [rn_mg]; exact Nat.min_eq_left (by omega)
    refine ⟨rn false A + k * 4503599627370496, ?_, rn_up A k hge (by omega)⟩
    exact mul_pow _ k hk (rn_lt _ _) (by rw [hmg]; exact hr1) (by rw [hmg]; omega)
end Go.Proofs.Ytpnijbdoceladaa
