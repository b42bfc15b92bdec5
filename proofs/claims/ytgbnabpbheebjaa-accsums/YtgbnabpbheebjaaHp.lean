/-
  Lists scaled, put together and in another order, and the walks of the statements on them, in one text (Hd, He, Hf, Hg).
-/
import Derived.Test.YtgbnabpbheebjaaHb
import Derived.Deep.AppendLies
import Derived.OwnWalk
import Derived.Test.YtgbnabpbheebjaaGy
import Derived.Test.YtgbnabpbheebjaaRi
import Derived.Deep.OwnRows
namespace Go.Proofs.Ytgbnabpbheebjaa
open Go.RowKit Tf

/-- all of a list, in units of 2^-1074 -/
def svL : List Nat → Int
  | [] => 0
  | x :: l => sv x + svL l
theorem svL_append (l : List Nat) (x : Nat) : svL (l ++ [x]) = svL l + sv x := by
  induction l with
  | nil => show sv x + 0 = 0 + sv x; omega
  | cons y l ih => show sv y + svL (l ++ [x]) = sv y + svL l + sv x; rw [ih]; omega
/-- finite, and not -0 -/
def okF (x : Nat) : Prop := x < 18446744073709551616 ∧ mg x < 9218868437227405312 ∧ ¬ (mg x = 0 ∧ ng x = true)
theorem unitA_ok (x : Nat) (h : okF x) : unitA x = ⟨1, 0, sv x * ((2 ^ K : Nat) : Int), false, false, false⟩ := by
  rw [unitA_fin x h.2.1, if_neg]
  intro e
  rw [Bool.and_eq_true] at e
  exact h.2.2 ⟨by have := e.1; unfold zeroB at this; simpa using this, e.2⟩
theorem sumS_list (l : List Nat) (h : ∀ x ∈ l, okF x) : ∀ k, k ≤ l.length → sumS (fun j => l.getD j 0) k = ⟨(k : Nat), 0, svL (l.take k) * ((2 ^ K : Nat) : Int), false, false, false⟩ := by
  intro k
  induction k with
  | zero => intro _; apply AS.eq <;> simp [sumS, S0, svL]
  | succ k ih =>
    intro hk
    have hlt : k < l.length := by omega
    have ho : okF (l.getD k 0) := by
      have e : l.getD k 0 = l[k] := by simp [hlt]
      rw [e]; exact h _ (List.getElem_mem hlt)
    show stepA (sumS _ k) (l.getD k 0) = _
    rw [stepA_plus, unitA_ok _ ho, ih (by omega)]
    have et : l.take (k + 1) = l.take k ++ [l.getD k 0] := by
      rw [List.take_add_one]
      congr 1
      simp [hlt]
    rw [et, svL_append]
    apply AS.eq
    · simp [plusS]
    · simp [plusS]
    · simp only [plusS]; rw [Int.add_mul]
    all_goals rfl
theorem val_list (l : List Nat) (h : ∀ x ∈ l, okF x) : valB (sumS (fun j => l.getD j 0) l.length) = rn false (svL l) := by
  rw [sumS_list l h l.length (Nat.le_refl _), List.take_length]
  unfold valB
  simp only [Bool.or_false, Bool.and_false, Bool.false_eq_true, if_false]
  rw [if_neg (by omega), canon_rv_scale]

/-! scaling -/
theorem rung_up (V k : Nat) (h : 2 ^ 52 ≤ V) : rung 52 0 (V * 2 ^ k) = rung 52 0 V + k * 4503599627370496 := by
  have hV : V ≠ 0 := by have := pow_pos 52; omega
  have hl : 52 ≤ V.log2 := (Nat.le_log2 hV).2 h
  have e52 : (2 : Nat) ^ 52 = 4503599627370496 := by decide
  unfold rung
  rw [log2_mul_pow V k hV, Nat.add_zero, Nat.add_zero, Nat.add_zero, show V.log2 + k - 52 = V.log2 - 52 + k by omega, Nat.pow_add, rne_scale _ _ _ (pow_pos k), e52, Nat.add_mul]
  omega
theorem mv_up (r k : Nat) (h : 4503599627370496 ≤ r) : mv (r + k * 4503599627370496) = mv r * 2 ^ k := by
  have e52 : (2 : Nat) ^ 52 = 4503599627370496 := by decide
  unfold mv mag
  rw [e52, if_neg (by omega), if_neg (by omega)]
  have e1 : (r + k * 4503599627370496) % 4503599627370496 = r % 4503599627370496 := by omega
  have e2 : (r + k * 4503599627370496) / 4503599627370496 - 1 = r / 4503599627370496 - 1 + k := by omega
  rw [e1, e2, Nat.pow_add, Nat.mul_assoc]
theorem mv_great (r : Nat) (h : 4503599627370496 ≤ r) : 2 ^ 52 ≤ mv r := by
  have : mv 4503599627370496 ≤ mv r := mv_le.2 h
  have e : mv 4503599627370496 = 2 ^ 52 := by decide +kernel
  omega
/-- the product by a power of two, where nothing is lost -/
theorem mul_pow (t k : Nat) (hk : k < 400) (ht : t < 18446744073709551616) (h1 : 4503599627370496 ≤ mg t) (h2 : mg t + k * 4503599627370496 < 9218868437227405312) :
    Ieee.double.mul t ((k + 1023) * 4503599627370496) = some (t + k * 4503599627370496) := by
  have e52 : (2 : Nat) ^ 52 = 4503599627370496 := by decide
  have hP : mv ((k + 1023) * 4503599627370496) = 2 ^ k * one := mv_from_one k _ (by rw [e52])
  have hPm : mg ((k + 1023) * 4503599627370496) = (k + 1023) * 4503599627370496 := mg_of_lt (by omega)
  have hPn : ng ((k + 1023) * 4503599627370496) = false := ng_of_lt (by omega)
  rw [mul_d t _ ht (by omega) (by omega) (by rw [hPm]; omega), hPm, hP, hPn, one_pow]
  have hr : rung 52 1074 (mv (mg t) * (2 ^ k * 2 ^ K)) = mg t + k * 4503599627370496 := by
    have h3 := rung_scale 52 0 K (mv (mg t) * 2 ^ k)
    rw [Nat.zero_add] at h3
    have h4 : rung 52 1074 (mv (mg t) * (2 ^ k * 2 ^ K)) = rung 52 K (mv (mg t) * 2 ^ k * 2 ^ K) := by rw [Nat.mul_assoc]; rfl
    rw [h4, h3, rung_up _ _ (mv_great _ h1), rung_mv]
  rw [hr, Nat.min_eq_left (by omega), Bool.xor_false]
  have hw := word_eq t ht
  cases hn : ng t
  · rw [hn, if_neg (by decide)] at hw
    rw [if_neg (by decide)]
    exact congrArg some (by omega)
  · rw [hn, if_pos rfl] at hw
    rw [if_pos rfl]
    exact congrArg some (by omega)
theorem sv_scaled (t k : Nat) (ht : t < 18446744073709551616) (h1 : 4503599627370496 ≤ mg t) (h2 : mg t + k * 4503599627370496 < 9218868437227405312) :
    mg (t + k * 4503599627370496) = mg t + k * 4503599627370496 ∧ ng (t + k * 4503599627370496) = ng t ∧ t + k * 4503599627370496 < 18446744073709551616 ∧ sv (t + k * 4503599627370496) = sv t * ((2 ^ k : Nat) : Int) := by
  have hw := word_eq t ht
  have h3 := mg_lt t
  cases hn : ng t
  · rw [hn, if_neg (by decide)] at hw
    have l1 : t + k * 4503599627370496 < 9223372036854775808 := by omega
    have m1 : mg (t + k * 4503599627370496) = mg t + k * 4503599627370496 := by rw [mg_of_lt l1]; omega
    have n1 : ng (t + k * 4503599627370496) = false := ng_of_lt l1
    refine ⟨m1, n1, by omega, ?_⟩
    unfold sv
    rw [n1, m1, hn, mv_up _ _ h1]
    simp
  · rw [hn, if_pos rfl] at hw
    have l1 : 9223372036854775808 ≤ t + k * 4503599627370496 := by omega
    have l2 : t + k * 4503599627370496 < 18446744073709551616 := by omega
    have m1 : mg (t + k * 4503599627370496) = mg t + k * 4503599627370496 := by rw [mg_of_ge l1 l2]; omega
    have n1 : ng (t + k * 4503599627370496) = true := ng_of_ge l1
    refine ⟨m1, n1, l2, ?_⟩
    unfold sv
    rw [n1, m1, hn, mv_up _ _ h1]
    simp [Int.neg_mul]
theorem rn_up (A : Int) (k : Nat) (h : 2 ^ 52 ≤ A.natAbs) (h2 : rung 52 0 A.natAbs + k * 4503599627370496 < 9218868437227405312) : rn false (A * ((2 ^ k : Nat) : Int)) = rn false A + k * 4503599627370496 := by
  have hp := pow_pos k
  have hp52 := pow_pos 52
  have hA : A ≠ 0 := by omega
  have hab : (A * ((2 ^ k : Nat) : Int)).natAbs = A.natAbs * 2 ^ k := by rw [Int.natAbs_mul, Int.natAbs_natCast]
  have hpos : (0 : Int) < ((2 ^ k : Nat) : Int) := by omega
  have hne : A * ((2 ^ k : Nat) : Int) ≠ 0 := Int.mul_ne_zero hA (by omega)
  unfold rn
  rw [hab, rung_up _ _ h, if_neg hA, if_neg hne, Nat.min_eq_left (by omega), Nat.min_eq_left (by omega)]
  by_cases c : A < 0
  · rw [decide_eq_true c, decide_eq_true (Int.mul_neg_of_neg_of_pos c hpos), if_pos rfl, if_pos rfl]; omega
  · have h0 : 0 ≤ A * ((2 ^ k : Nat) : Int) := Int.mul_nonneg (by omega) (by omega)
    rw [decide_eq_false c, decide_eq_false (by omega : ¬ A * ((2 ^ k : Nat) : Int) < 0), if_neg (by decide), if_neg (by decide)]

/-- middling floats: their size, and what divides them -/
def midF (x : Nat) : Prop := x < 18446744073709551616 ∧ 724 * 4503599627370496 ≤ mg x ∧ mg x < 1323 * 4503599627370496
def D7 : Nat := 723
def D13 : Nat := 1322 + 52
theorem mv_mid (r : Nat) (h1 : 724 * 4503599627370496 ≤ r) (h2 : r < 1323 * 4503599627370496) : 2 ^ D7 ∣ mv r ∧ mv r < 2 ^ D13 := by
  have e52 : (2 : Nat) ^ 52 = 4503599627370496 := by decide
  have hd : D7 = 723 := rfl
  have hd2 : D13 = 1374 := rfl
  refine ⟨?_, ?_⟩
  · unfold mv mag
    rw [e52, if_neg (by omega)]
    have e : r / 4503599627370496 - 1 = D7 + (r / 4503599627370496 - 1 - D7) := by omega
    rw [e, Nat.pow_add, ← Nat.mul_assoc, Nat.mul_right_comm]
    exact Nat.dvd_mul_left _ _
  · have h3 : mv r < mv (1323 * 4503599627370496) := mv_lt.2 h2
    have h4 := mv_two_pow (D13 - 52) (1323 * 4503599627370496) (by rw [e52, hd2])
    rw [h4, show 52 + (D13 - 52) = D13 by omega] at h3
    exact h3
theorem svL_mid (l : List Nat) (h : ∀ x ∈ l, midF x) : (∃ z : Int, svL l = z * ((2 ^ D7 : Nat) : Int)) ∧ (svL l).natAbs ≤ l.length * 2 ^ D13 := by
  induction l with
  | nil => exact ⟨⟨0, by simp [svL]⟩, by simp [svL]⟩
  | cons x l ih =>
    obtain ⟨⟨z, hz⟩, hb⟩ := ih (fun y hy => h y (by simp [hy]))
    have hx := h x (by simp)
    obtain ⟨⟨q, hq⟩, hl⟩ := mv_mid (mg x) hx.2.1 hx.2.2
    have hab : (sv x).natAbs = mv (mg x) := by unfold sv; split <;> omega
    refine ⟨?_, ?_⟩
    · show ∃ z' : Int, sv x + svL l = z' * _
      have hs : ∃ y : Int, sv x = y * ((2 ^ D7 : Nat) : Int) := by
        unfold sv
        rw [hq]
        cases ng x
        · exact ⟨(q : Int), by simp [Int.mul_comm]⟩
        · exact ⟨-(q : Int), by simp [Int.mul_comm, Int.neg_mul]⟩
      obtain ⟨y, hy⟩ := hs
      exact ⟨y + z, by rw [hy, hz, Int.add_mul]⟩
    · show (sv x + svL l).natAbs ≤ (l.length + 1) * 2 ^ D13
      rw [Nat.add_mul, Nat.one_mul]
      omega
theorem mid_ok (x : Nat) (h : midF x) : okF x := ⟨h.1, by have := h.2.2; omega, fun e => by have := h.2.1; omega⟩

/-- THE SUM OF MIDDLING FLOATS, times a power of two -/
theorem scaled (l : List Nat) (h : ∀ x ∈ l, midF x) (hl : l.length ≤ 4096) (k : Nat) (hk : k < 400) :
    ∃ t, Ieee.double.mul (rn false (svL l)) ((k + 1023) * 4503599627370496) = some t ∧ rn false (svL (l.map (· + k * 4503599627370496))) = t := by
  obtain ⟨⟨z, hz⟩, hb⟩ := svL_mid l h
  have hs : svL (l.map (· + k * 4503599627370496)) = svL l * ((2 ^ k : Nat) : Int) := by
    clear hz hb hl
    induction l with
    | nil => simp [svL]
    | cons x l ih =>
      have hx := h x (by simp)
      have := (sv_scaled x k hx.1 (by have := hx.2.1; omega) (by have := hx.2.2; omega)).2.2.2
      show sv (x + k * 4503599627370496) + svL (l.map _) = (sv x + svL l) * _
      rw [this, ih (fun y hy => h y (by simp [hy])), Int.add_mul]
  rw [hs]
  generalize svL l = A at *
  by_cases c : A = 0
  · subst c
    rw [Int.zero_mul, rn_zero]
    refine ⟨0, ?_, rfl⟩
    have hP : mg ((k + 1023) * 4503599627370496) = (k + 1023) * 4503599627370496 := mg_of_lt (by omega)
    have hPn : ng ((k + 1023) * 4503599627370496) = false := ng_of_lt (by omega)
    have z0 : mg 0 = 0 := by decide
    have z1 : ng 0 = false := by decide
    show Ieee.double.mul 0 _ = _
    rw [mul_d 0 _ (by decide) (by omega) (by decide) (by rw [hP]; omega), z0, z1, hPn, mv_zero, Nat.zero_mul]
    decide +kernel
  · have hz0 : z ≠ 0 := fun e => c (by rw [hz, e, Int.zero_mul])
    have hge : 2 ^ 52 ≤ A.natAbs := by
      rw [hz, Int.natAbs_mul, Int.natAbs_natCast]
      have h1 : 2 ^ 52 ≤ 2 ^ D7 := Nat.pow_le_pow_right (by decide) (by decide)
      have h2 : 1 * 2 ^ D7 ≤ z.natAbs * 2 ^ D7 := Nat.mul_le_mul_right _ (by omega)
      omega
    have hle : A.natAbs ≤ 2 ^ (D13 + 12) := by
      rw [Nat.pow_add]
      have h1 : l.length * 2 ^ D13 ≤ 4096 * 2 ^ D13 := Nat.mul_le_mul_right _ hl
      have e12 : (2 : Nat) ^ 12 = 4096 := by decide
      rw [e12, Nat.mul_comm]; omega
    have e52 : (2 : Nat) ^ 52 = 4503599627370496 := by decide
    have hr : rung 52 0 A.natAbs ≤ 1335 * 4503599627370496 := by
      have h4 := mv_two_pow (D13 + 12 - 52) (1335 * 4503599627370496) (by rw [e52]; rfl)
      refine rung_le (by omega) ?_
      rw [Nat.pow_zero, Nat.mul_one]
      show A.natAbs ≤ mv _
      rw [h4, show 52 + (D13 + 12 - 52) = D13 + 12 by decide]; exact hle
    have hr1 : 4503599627370496 ≤ rung 52 0 A.natAbs := by
      have e : mag 52 4503599627370496 = 2 ^ 52 := by decide +kernel
      exact rung_ge (by omega) (by rw [Nat.pow_zero, Nat.mul_one, e]; exact hge)
    have hmg : mg (rn false A) = rung 52 0 A.natAbs := by rw [rn_mg]; exact Nat.min_eq_left (by omega)
    refine ⟨rn false A + k * 4503599627370496, ?_, rn_up A k hge (by omega)⟩
    exact mul_pow _ k hk (rn_lt _ _) (by rw [hmg]; exact hr1) (by rw [hmg]; omega)
end Go.Proofs.Ytgbnabpbheebjaa
namespace Go.Proofs.Ytgbnabpbheebjaa
open Go.RowKit Tf
attribute [local go_sem] run_bits run_from raw_feq raw_fne raw_flt raw_fgt

theorem info_f64 : (Try.prog.info? 30).map (fun i => (i.zero, i.size, i.bytes)) = some (some (.float .f64 0), 1, 8) := by kernel_rfl
/-- a list of the call's own, of so many floats -/
def OwnF (B : Nat) (v : Value) (l : List Nat) (w : World) : Prop := w.ownsRow B 30 1 v l.length (l.map (Value.float .f64))
theorem own_fl {B : Nat} {v : Value} {l : List Nat} {w : World} (h : OwnF B v l w) (hl : ∀ x ∈ l, x < 18446744073709551616) : ∃ a0 cap, v = .slice a0 l.length cap ∧ IsFl w a0 l.length (fun j => l.getD j 0) := by
  rcases h.2 with ⟨rfl, h0⟩ | ⟨g, cap, cur, rfl, hb, hg, h1, h2, h3, h4⟩
  · refine ⟨none, 0, by rw [h0], fun k hk => by omega⟩
  · refine ⟨some ⟨g, 0, none⟩, cap, rfl, fun k hk => ?_⟩
    have hc := World.ownsRow.cells h (g := g) rfl k (.float .f64 l[k]) (by simp [hk])
    have e : l.getD k 0 = l[k] := by simp [hk]
    have ha : (⟨g, 0, none⟩ : Addr).add k = ⟨g, k, none⟩ := by unfold Addr.add; split <;> simp_all
    rw [ha] at hc
    refine ⟨by simp only [e]; exact hl _ (List.getElem_mem hk), g, 0, rfl, row_lt hg, ?_⟩
    rw [Nat.zero_add]; simp only [e]; exact hc
/-- two lists that lie apart -/
def Apart (v u : Value) : Prop := ∀ g, v.ownBlock = some g → u.ownBlock ≠ some g

theorem apart_new {v u : Value} {l m : List Nat} {B : Nat} {w : World} (h : Apart v u) (_hv : OwnF B v l w) (hu : OwnF B u m w) (g n c : Nat) (hg : v.ownBlock = some g ∨ w.heap.size ≤ g) : Apart (.slice (some ⟨g, 0, none⟩) n c) u := by
  intro g' e
  simp [Value.ownBlock] at e
  subst e
  rcases hg with hg | hg
  · exact h g hg
  · intro e
    have := (World.ownsRow.lt hu g e).2
    omega
theorem Apart.symm {v u : Value} (h : Apart v u) : Apart u v := fun g e f => h g f e
theorem own_new (w : World) (B : Nat) (hB : B ≤ w.heap.size) : OwnF B (.slice (some ⟨w.heap.size, 0, none⟩) 0 0) [] (w.alloc (.cells #[] 30)) :=
  ⟨by simp, .inr ⟨w.heap.size, 0, #[], rfl, hB, heap_alloc_new _ _, Nat.le_refl _, by unfold maxLen; omega, by simp, by simp⟩⟩
theorem OwnF.alloc {B : Nat} {v : Value} {l : List Nat} {w : World} (h : OwnF B v l w) (o : Obj) : OwnF B v l (w.alloc o) := World.ownsRow.alloc h o
theorem OwnF.grown {B : Nat} {v u : Value} {l : List Nat} {w w' : World} (h : OwnF B u l w) (hg : w.grownBy w' v.ownBlock) (ha : Apart v u) : OwnF B u l w' := by
  refine World.ownsRow.kept h hg ?_
  cases hu : u.ownBlock with
  | none => exact Or.inl rfl
  | some g =>
    right
    intro e
    exact ha g e.symm hu
theorem own_push {B : Nat} {v : Value} {l : List Nat} {w : World} {x : Nat} (h : w.ownsRow B 30 1 v (l.length + 1) (l.map (Value.float .f64) ++ [.float .f64 x])) : OwnF B v (l ++ [x]) w := by
  unfold OwnF
  rw [List.length_append, List.map_append]
  exact h
theorem one_cells (x : Nat) : ∀ u ∈ [Value.float .f64 x], u.oneCell' = true := by
  intro u hu; simp at hu; subst hu; rfl
theorem one_cell {w : World} {x : Nat} (j : Nat) (u : Value) (h : [Value.float .f64 x][j]? = some u) (T : TypeId) : (w.alloc (.cells #[.float .f64 x] T)).cell? ((⟨w.heap.size, 0, none⟩ : Addr).add j) = some u := by
  match j, h with
  | 0, h => simp at h; subst h; simp [Addr.add]

theorem foi (n : Int) : floatOfInt .f64 n = rn false (n * one) := ofInt_d n
theorem int_ok (n : Int) (h : n.natAbs ≤ 9007199254740992) : okF (rn false (n * one)) ∧ sv (rn false (n * one)) = n * one := by
  have hab : (n * (one : Int)).natAbs = n.natAbs * one := by rw [Int.natAbs_mul, Int.natAbs_natCast]
  obtain ⟨r, hr, hr2⟩ := rep_one n.natAbs h
  have hD : isD (n * one) := ⟨r, by rw [hab]; exact hr⟩
  have ht : (n * (one : Int)).natAbs < top := by
    rw [hab, ← hr]
    exact mv_lt.2 (by omega)
  obtain ⟨h1, h2⟩ := rn_exact false (n * one) hD ht
  refine ⟨⟨rn_lt _ _, h1, ?_⟩, h2⟩
  rintro ⟨h3, h4⟩
  have h5 : n * (one : Int) = 0 := by rw [← h2]; exact zero_sv _ h3
  rw [h5, rn_zero] at h4
  exact absurd h4 (by decide)
theorem tmod40 (v : Int) : (v.tmod 1099511627776).natAbs < 1099511627776 := by
  rw [Int.natAbs_tmod]
  exact Nat.mod_lt _ (by decide)
/-- A LIST OF WHOLE NUMBERS -/
def IsIn (w : World) (a0 : Option Addr) (len : Nat) (ns : Nat → Int) : Prop := ∀ k, k < len → (-9223372036854775808 ≤ ns k ∧ ns k ≤ 9223372036854775807) ∧ ∃ b o, a0 = some ⟨b, o, none⟩ ∧ b < w.heap.size ∧ w.cell? ⟨b, o + k, none⟩ = some (.int .i64 (ns k))
/-- what one append does, to one list -/
theorem pushed1 {v : Value} {l : List Nat} {w0 wr w' : World} {x g c : Nat} {O : Obj} (hv : OwnF w0.heap.size v l wr) (hb : Below w0.heap.size w0 wr)
    (o : w'.ownsRow w0.heap.size 30 1 (.slice (some ⟨g, 0, none⟩) (l.length + 1) c) (l.length + 1) (l.map (Value.float .f64) ++ [.float .f64 x])) (hg : (wr.alloc O).grownBy w' v.ownBlock) :
    OwnF w0.heap.size (.slice (some ⟨g, 0, none⟩) (l.length + 1) c) (l ++ [x]) w' ∧ Below w0.heap.size w0 w' := by
  refine ⟨own_push o, ?_⟩
  refine (hb.alloc hb.size O).grown hg (by have := hb.size; simp; omega) (fun k hk => ?_)
  exact (World.ownsRow.lt hv k hk).1
/-- what one append does -/
theorem pushed {v u : Value} {l m : List Nat} {w0 wr w' : World} {x g c : Nat} {O : Obj} (hv : OwnF w0.heap.size v l wr) (hu : OwnF w0.heap.size u m wr) (ha : Apart v u) (hb : Below w0.heap.size w0 wr)
    (o : w'.ownsRow w0.heap.size 30 1 (.slice (some ⟨g, 0, none⟩) (l.length + 1) c) (l.length + 1) (l.map (Value.float .f64) ++ [.float .f64 x])) (hg : (wr.alloc O).grownBy w' v.ownBlock) (e : v.ownBlock = some g ∨ g = (wr.alloc O).heap.size) :
    OwnF w0.heap.size (.slice (some ⟨g, 0, none⟩) (l.length + 1) c) (l ++ [x]) w' ∧ OwnF w0.heap.size u m w' ∧ Apart (.slice (some ⟨g, 0, none⟩) (l.length + 1) c) u ∧ Below w0.heap.size w0 w' := by
  refine ⟨own_push o, (hu.alloc O).grown hg ha, apart_new ha hv hu g _ _ ?_, ?_⟩
  · rcases e with e | e
    · exact Or.inl e
    · right; rw [e]; simp
  · refine (hb.alloc hb.size O).grown hg (by have := hb.size; simp; omega) (fun k hk => ?_)
    exact (World.ownsRow.lt hv k hk).1

set_option maxHeartbeats 8000000 in
set_option maxRecDepth 100000 in
theorem sc_go (a1 a2 : Option Addr) (len cap len2 cap2 : Nat) (k : Int) (xs : Nat → Nat) (w : World) (hl : Hid (len ≤ 4096)) (hl2 : (len : Int) ≤ 4096) (hm2 : (len2 : Int) ≤ 4096) (h1 : Hid (IsFl w a1 len xs)) (ns : Nat → Int) (h2 : Hid (IsIn w a2 len2 ns)) (q : Int) (kq pw : Nat) (hq : (IntKind.u64.wrap k).tmod 400 = q) (q0 : 0 ≤ q) (q1 : q < 400) (HQ : Hid (q = kq)) (HP : Hid (((1023 + q) * 4503599627370496).toNat = pw)) (HPW : Hid (pw = (kq + 1023) * 4503599627370496)) :
    Calls Try.prog 7 #[.slice a1 len cap, .slice a2 len2 cap2, .int .i64 k] w fun e w' => e = .returned (.bool true) ∧ Below w.heap.size w w' := by
  obtain ⟨i0, hi, hz0, hz1, hz2⟩ := info_parts info_f64
  have IP := hid (⟨hi, hz0, hz1, hz2⟩ : Try.prog.info? 30 = some i0 ∧ i0.zero = some (.float .f64 0) ∧ i0.size = 1 ∧ i0.bytes = 8)
  clear hi hz0 hz1 hz2
  have AW := hid awake_any
  have RF := hid rawFrom_any
  have RB := hid rawBits_any
  go_enter Try.func7, Try.ntmps7
  go_wp2_with fail
  refine (AW.out _).mono ?_
  rintro e w1 ⟨rfl, b1⟩
  go_wp2_with fail
  refine (RF.out _ _).mono ?_
  rintro e w2 ⟨rfl, rfl⟩
  rw [HP.out]
  have hs := b1.out.size
  have O1 := (own_new w2 w.heap.size hs).alloc (.cells #[] 30)
  have O2 := own_new (w2.alloc (.cells #[] 30)) w.heap.size (by simp; omega)
  have hsz : (w2.alloc (.cells #[] 30)).heap.size = w2.heap.size + 1 := by simp
  rw [hsz] at O2
  have AP : Apart (.slice (some ⟨w2.heap.size, 0, none⟩) 0 0) (.slice (some ⟨w2.heap.size + 1, 0, none⟩) 0 0) := by
    intro g e; simp [Value.ownBlock] at e ⊢; omega
  have B2 : Below w.heap.size w ((w2.alloc (.cells #[] 30)).alloc (.cells #[] 30)) := (b1.out.alloc hs _).alloc (by simp; omega) _
  have O1' := hid O1
  have O2' := hid O2
  have AP' := hid AP
  have B2' := hid B2
  clear O1 O2 AP B2 hs hsz b1
  go_wp2
  go_loopw [9, 10, 11] (fun av bv iv wr => ∃ (i : Nat) (la : List Nat), i ≤ len ∧ iv = .int .i64 (i : Nat) ∧ (∀ x ∈ la, midF x) ∧ la.length ≤ i ∧ OwnF w.heap.size av la wr ∧ OwnF w.heap.size bv (la.map (· + kq * 4503599627370496)) wr ∧ Apart av bv ∧ Below w.heap.size w wr) (fun _ _ iv _ => len - (intOf iv).toNat)
  case atStart => exact ⟨0, [], by omega, rfl, by simp, by simp, O1'.out, O2'.out, AP'.out, B2'.out⟩
  case round =>
    clear O1' O2' AP' B2'
    obtain ⟨i, la, hi, rfl, hla, hll, oa, ob, ap, bel⟩ := hrel
    have hl' := hl.out
    by_cases hil : i < len
    · obtain ⟨x0, b, o, ea, hb, cx⟩ := h1.out i hil
      have cx2 : wr.cell? ⟨b, o + i, none⟩ = some (.float .f64 (xs i)) := by rw [bel.cell (p := ⟨b, o + i, none⟩) hb]; exact cx
      subst ea
      have il : ((i : Nat) : Int) < len := by omega
      have i2 : ((i : Nat) : Int) < 4096 := by omega
      have HX := hid x0
      have HB := hid hb
      have HI := hid hil
      have HLA := hid hla
      have HLL := hid hll
      have OA := hid oa
      have OB := hid ob
      have AP := hid ap
      have BE := hid bel
      obtain ⟨x, hx⟩ : ∃ x, xs i = x := ⟨_, rfl⟩
      rw [hx] at cx2 HX
      obtain ⟨e, he⟩ : ∃ e : Int, ((x : Nat) : Int) / 4503599627370496 % 2048 = e := ⟨_, rfl⟩
      have HE := hid he
      have e0 : 0 ≤ e := by omega
      clear hb cx x0 hl' hil hi hla hll oa ob ap bel hx
      by_cases hm : 723 < e ∧ e < 1323
      · obtain ⟨m1, m2⟩ := hm
        have hmid : midF x := ⟨HX.out, by have := HE.out; have := HX.out; unfold mg; omega, by have := HE.out; have := HX.out; unfold mg; omega⟩
        have hmul := fun (ty : TypeId) (w : World) => run_float_arith (P := Try.prog) w .mul ty .f64 x pw (x + kq * 4503599627370496) (by
          rw [HPW.out]
          exact mul_pow x kq (by have := HQ.out; omega) HX.out (by have := hmid.2.1; omega) (by have := hmid.2.2; have := HQ.out; omega))
        have HM := hid hmid
        obtain ⟨y, hy⟩ : ∃ y, x + kq * 4503599627370496 = y := ⟨_, rfl⟩
        rw [hy] at hmul
        have HY := hid hy
        clear hmid hy
        go_wp2_with fail
        refine (RB.out _ _).mono ?_
        rintro e' w3 ⟨rfl, rfl⟩
        have hlen : la.length < 4096 := by have := HLL.out; omega
        have hlb : (la.map (· + kq * 4503599627370496)).length = la.length := by simp
        have HLB := hid hlb
        have hbs := BE.out.size
        have HBS := hid hbs
        clear hlb hbs
        go_wp2_with (first
          | (at_builtin; refine wpList_append_lies _ rfl (.tmp 67) (.tmp 72) 43 rfl w.heap.size 30 i0 (.float .f64 0) 1 8 Try.underlying43 IP.out.1 IP.out.2.1 IP.out.2.2.1 IP.out.2.2.2 rfl (by decide) _ _ _ rfl (World.ownsRow.alloc OA.out _) ⟨w3.heap.size, 0, none⟩ 1 1 [.float .f64 x] rfl rfl (fun j u h => one_cell j u h _) (one_cells x) (by decide) (by unfold maxLen; omega) (by omega) (by have := HBS.out; simp; omega) _ rfl ?_; intro g1 c1 w4 o4 g4 e4 l4; have R1 := hid (pushed OA.out OB.out AP.out BE.out o4 g4 e4); have cx4 : w4.cell? ⟨b, o + i, none⟩ = some (.float .f64 x) := (R1.out.2.2.2.cell (p := ⟨b, o + i, none⟩) HB.out).trans ((BE.out.cell (p := ⟨b, o + i, none⟩) HB.out).symm.trans cx2); clear o4 g4 e4 l4)
          | (at_builtin; refine wpList_append_lies _ rfl (.tmp 74) (.tmp 81) 43 rfl w.heap.size 30 i0 (.float .f64 0) 1 8 Try.underlying43 IP.out.1 IP.out.2.1 IP.out.2.2.1 IP.out.2.2.2 rfl (by decide) _ _ _ rfl (World.ownsRow.alloc R1.out.2.1 _) ⟨w4.heap.size, 0, none⟩ 1 1 [.float .f64 y] rfl rfl (fun j u h => one_cell j u h _) (one_cells y) (by decide) (by have := HLB.out; unfold maxLen; omega) (by have := HLB.out; omega) (by have := R1.out.2.2.2.size; simp; omega) _ rfl ?_; intro g2 c2 w5 o5 g5 e5 l5; have R2 := hid (pushed R1.out.2.1 R1.out.1 R1.out.2.2.1.symm R1.out.2.2.2 o5 g5 e5); clear o5 g5 e5 l5 cx4))
        refine ⟨⟨i + 1, la ++ [x], HI.out, by simp, ?_, by have := HLL.out; simp; omega, R2.out.2.1, ?_, ?_, R2.out.2.2.2⟩, by have := HI.out; simp [intOf]; omega⟩
        · intro z hz
          rcases List.mem_append.1 hz with hz | hz
          · exact HLA.out z hz
          · simp at hz; rw [hz]; exact HM.out
        · have h := R2.out.1
          rw [HLB.out] at h
          rw [List.map_append]
          show OwnF _ _ (_ ++ [x + kq * 4503599627370496]) _
          rw [HY.out]; exact h
        · have h := R2.out.2.2.1.symm
          rw [HLB.out] at h; exact h
      · have hm' : e ≤ 723 ∨ 1323 ≤ e := by omega
        rcases hm' with m1 | m1
        · go_wp2_with fail
          refine (RB.out _ _).mono ?_
          rintro e' w3 ⟨rfl, rfl⟩
          go_wp2
          refine ⟨⟨i + 1, la, HI.out, by simp, HLA.out, by have := HLL.out; omega, OA.out, OB.out, AP.out, BE.out⟩, by have := HI.out; simp [intOf]; omega⟩
        · go_wp2_with fail
          refine (RB.out _ _).mono ?_
          rintro e' w3 ⟨rfl, rfl⟩
          go_wp2
          refine ⟨⟨i + 1, la, HI.out, by simp, HLA.out, by have := HLL.out; omega, OA.out, OB.out, AP.out, BE.out⟩, by have := HI.out; simp [intOf]; omega⟩
    · have e : i = len := by omega
      subst e
      have il : decide (((i : Nat) : Int) < (i : Nat)) = false := by simp
      have hlen : la.length ≤ 4096 := by omega
      have hk : kq < 400 := by have := HQ.out; omega
      have hlb : (la.map (· + kq * 4503599627370496)).length = la.length := by simp
      obtain ⟨t, ht1, ht2⟩ := scaled la hla hlen kq hk
      have okb : ∀ z ∈ la.map (· + kq * 4503599627370496), okF z := by
        intro z hz
        obtain ⟨y, hy, rfl⟩ := List.mem_map.1 hz
        have hm := hla y hy
        obtain ⟨s1, s2, s3, _⟩ := sv_scaled y kq hm.1 (by have := hm.2.1; omega) (by have := hm.2.2; omega)
        exact ⟨s3, by rw [s1]; have := hm.2.2; omega, fun e => by rw [s1] at e; have := hm.2.1; omega⟩
      obtain ⟨aa, ca, rfl, fa⟩ := own_fl oa (fun z hz => (hla z hz).1)
      obtain ⟨ab, cb, rfl, fb⟩ := own_fl ob (fun z hz => (okb z hz).1)
      have va := val_list la (fun z hz => mid_ok z (hla z hz))
      have vb := val_list _ okb
      have S1 := hid (sum_at aa la.length ca _ wr (by omega) fa)
      rw [va] at S1
      have S2 := hid (fun (W : World) (hW : Below wr.heap.size wr W) => sum_at ab _ cb _ W (by rw [hlb]; omega) (fb.below hW))
      rw [vb, ht2] at S2
      have hmul := fun (ty : TypeId) (w : World) => run_float_arith (P := Try.prog) w .mul ty .f64 (rn false (svL la)) pw t (by rw [HPW.out]; exact ht1)
      have RS := hid same_self
      have BE := hid bel
      obtain ⟨lb, hlb2⟩ : ∃ n, (la.map (· + kq * 4503599627370496)).length = n := ⟨_, rfl⟩
      rw [hlb2] at S2 ⊢
      obtain ⟨r1, hr1⟩ : ∃ r, rn false (svL la) = r := ⟨_, rfl⟩
      rw [hr1] at S1 hmul
      obtain ⟨nla, hnla⟩ : ∃ n, la.length = n := ⟨_, rfl⟩
      rw [hnla] at S1 ⊢
      clear hlb hlb2 hr1 hnla ht1 ht2 okb fa fb va vb oa ob ap hla hll hl' hil hi bel hlen hk
      go_wp2_with fail
      refine S1.out.mono ?_
      rintro e w3 ⟨rfl, b3⟩
      have B3 : Hid (Below w.heap.size w w3) := BE.out.trans (b3.out.mono BE.out.size)
      have S3 := hid (S2.out w3 b3.out)
      clear S1 S2 b3 BE
      go_wp2_with fail
      refine S3.out.mono ?_
      rintro e w4 ⟨rfl, b4⟩
      have B4 : Hid (Below w.heap.size w w4) := B3.out.trans (b4.out.mono B3.out.size)
      clear S3 b4 B3
      go_wp2_with fail
      refine (RS.out _ _).mono ?_
      rintro e w5 ⟨rfl, rfl⟩
      have hs5 := B4.out.size
      have O5 := hid (own_new w5 w.heap.size hs5)
      have B5 : Hid (Below w.heap.size w (w5.alloc (.cells #[] 30))) := B4.out.alloc hs5 _
      clear hs5 B4 hmul
      go_wp2
      go_loopw [17, 18, 19] (fun cv tv iv wr => ∃ (j : Nat) (lc : List Nat) (T : Int), j ≤ len2 ∧ iv = .int .i64 (j : Nat) ∧ tv = .int .i64 T ∧ OwnF w.heap.size cv lc wr ∧ svL lc = T * one ∧ (∀ x ∈ lc, okF x) ∧ lc.length = j ∧ T.natAbs ≤ j * 1099511627776 ∧ Below w.heap.size w wr) (fun _ _ iv _ => len2 - (intOf iv).toNat)
      case atStart => exact ⟨0, [], 0, by omega, rfl, rfl, O5.out, by simp [svL], by simp, rfl, by simp, B5.out⟩
      case round =>
        clear O5 B5
        obtain ⟨j, lc, T, hj, rfl, rfl, oc, hsv, hok, hlj, hT, bel⟩ := hrel
        by_cases hjl : j < len2
        · obtain ⟨⟨n0, n1⟩, b, o, ea, hb, cx⟩ := h2.out j hjl
          have cx2 : wr.cell? ⟨b, o + j, none⟩ = some (.int .i64 (ns j)) := by rw [bel.cell (p := ⟨b, o + j, none⟩) hb]; exact cx
          subst ea
          have jl : ((j : Nat) : Int) < len2 := by omega
          have j2 : ((j : Nat) : Int) < 4096 := by omega
          have htm := tmod40 (ns j)
          obtain ⟨n, hn⟩ : ∃ n, (ns j).tmod 1099511627776 = n := ⟨_, rfl⟩
          rw [hn] at htm
          obtain ⟨io, isv⟩ := int_ok n (by omega)
          have hcv := fun (w : World) => run_convert_int_float (P := Try.prog) w 2 30 .i64 .f64 n (by kernel_rfl) (by kernel_rfl)
          rw [foi] at hcv
          obtain ⟨y, hy⟩ : ∃ y, rn false (n * (one : Int)) = y := ⟨_, rfl⟩
          rw [hy] at hcv io isv
          obtain ⟨v, hv⟩ : ∃ v, ns j = v := ⟨_, rfl⟩
          rw [hv] at cx2 hn n0 n1
          have n2 : -1099511627776 < n := by omega
          have n3 : n < 1099511627776 := by omega
          have t1 : -4503599627370496 ≤ T := by omega
          have t2 : T ≤ 4503599627370496 := by omega
          have OC := hid oc
          have HSV := hid hsv
          have HOK := hid hok
          have HLJ := hid hlj
          have HT := hid hT
          have BE := hid bel
          have HIO := hid io
          have HIS := hid isv
          have HJ := hid hjl
          have hlc : lc.length < 4096 := by omega
          have HBS := hid bel.size
          have HTM := hid htm
          clear oc hsv hok hlj hT bel io isv hjl hj hb cx htm hy hv
          go_wp2_with ((at_builtin; refine wpList_append_lies _ rfl (.tmp 114) (.tmp 117) 43 rfl w.heap.size 30 i0 (.float .f64 0) 1 8 Try.underlying43 IP.out.1 IP.out.2.1 IP.out.2.2.1 IP.out.2.2.2 rfl (by decide) _ _ _ rfl (World.ownsRow.alloc OC.out _) ⟨wr.heap.size, 0, none⟩ 1 1 [.float .f64 y] rfl rfl (fun j u h => one_cell j u h _) (one_cells y) (by decide) (by unfold maxLen; omega) (by omega) (by have := HBS.out; simp; omega) _ rfl ?_; intro g1 c1 w6 o6 g6 e6 l6; have R1 := hid (pushed1 OC.out BE.out o6 g6); clear o6 g6 e6 l6))
          refine ⟨⟨j + 1, lc ++ [y], T + n, HJ.out, by simp, rfl, R1.out.1, ?_, ?_, by rw [List.length_append, HLJ.out]; rfl, ?_, R1.out.2⟩, by have := HJ.out; simp [intOf]; omega⟩
          · rw [svL_append, HSV.out, HIS.out, Int.add_mul]
          · intro z hz
            rcases List.mem_append.1 hz with hz | hz
            · exact HOK.out z hz
            · simp at hz; rw [hz]; exact HIO.out
          · have := HT.out; have := HTM.out; omega
        · have e : j = len2 := by omega
          subst e
          have jl : decide (((j : Nat) : Int) < (j : Nat)) = false := by simp
          obtain ⟨ac, cc, rfl, fc⟩ := own_fl oc (fun z hz => (hok z hz).1)
          have vc := val_list lc hok
          rw [hsv] at vc
          have S1 := hid (sum_at ac lc.length cc _ wr (by omega) fc)
          rw [vc] at S1
          have hcv := fun (w : World) => run_convert_int_float (P := Try.prog) w 2 30 .i64 .f64 T (by kernel_rfl) (by kernel_rfl)
          rw [foi] at hcv
          have hfe := feq_own (rn false (T * (one : Int))) (isN_rn _ _) (rn_lt _ _)
          obtain ⟨y, hy⟩ : ∃ y, rn false (T * (one : Int)) = y := ⟨_, rfl⟩
          rw [hy] at hcv hfe S1
          have BE := hid bel
          clear oc hsv hok hlj hT bel hjl hj fc vc hy
          go_wp2_with fail
          refine S1.out.mono ?_
          rintro e w6 ⟨rfl, b6⟩
          have B6 : Hid (Below w.heap.size w w6) := BE.out.trans (b6.out.mono BE.out.size)
          clear b6 BE S1
          go_wp2
          go_ret
          exact ⟨rfl, B6.out⟩
end Go.Proofs.Ytgbnabpbheebjaa
namespace Go.Proofs.Ytgbnabpbheebjaa
open Go.RowKit Tf
theorem sumS_succ (xs : Nat → Nat) (k : Nat) : sumS xs (k + 1) = plusS (sumS xs k) (unitA (xs k)) := stepA_plus _ _
theorem sumS_congr {xs ys : Nat → Nat} {n : Nat} (h : ∀ k, k < n → xs k = ys k) : sumS xs n = sumS ys n := by
  induction n with
  | zero => rfl
  | succ n ih => rw [sumS_succ, sumS_succ, ih (fun k hk => h k (by omega)), h n (by omega)]
theorem sumS_add (xs : Nat → Nat) (a b : Nat) : sumS xs (a + b) = plusS (sumS xs a) (sumS (fun k => xs (a + k)) b) := by
  induction b with
  | zero => exact (plusS_zero _).symm
  | succ b ih => rw [← Nat.add_assoc, sumS_succ, sumS_succ, ih, plusS_assoc]
theorem sumS_back (n : Nat) : ∀ xs : Nat → Nat, sumS (fun k => xs (n - 1 - k)) n = sumS xs n := by
  induction n with
  | zero => intro _; rfl
  | succ n ih =>
    intro xs
    rw [sumS_succ]
    have e : sumS (fun k => xs (n + 1 - 1 - k)) n = sumS (fun k => xs (1 + k)) n := by
      rw [← ih (fun k => xs (1 + k))]
      exact sumS_congr (fun k hk => by show xs _ = xs _; congr 1; omega)
    rw [e, Nat.add_comm n 1, sumS_add xs 1 n]
    have e2 : sumS xs 1 = unitA (xs 0) := by rw [sumS_succ]; exact zero_plusS _
    rw [e2, plusS_comm]
    congr 2
    congr 1
    omega
theorem sumS_two (xs : Nat → Nat) (a n : Nat) (h : a ≤ n) : plusS (sumS xs a) (sumS (fun k => xs (a + k)) (n - a)) = sumS xs n := by
  rw [← sumS_add]; congr 1; omega
theorem sumS_round (xs : Nat → Nat) (a n : Nat) (h : a < n) : sumS (fun k => xs ((a + k) % n)) n = sumS xs n := by
  have e := sumS_add (fun k => xs ((a + k) % n)) (n - a) a
  rw [show n - a + a = n by omega] at e
  rw [e, ← sumS_two xs a n (by omega), plusS_comm]
  congr 1
  · exact sumS_congr (fun k hk => by
      show xs _ = xs _
      rw [show a + (n - a + k) = k + n by omega, Nat.add_mod_right, Nat.mod_eq_of_lt (by omega)])
  · exact sumS_congr (fun k hk => by
      show xs _ = xs _
      rw [Nat.mod_eq_of_lt (by omega)])
end Go.Proofs.Ytgbnabpbheebjaa
namespace Go.Proofs.Ytgbnabpbheebjaa
open Go.RowKit Tf
attribute [local go_sem] run_bits run_from raw_feq raw_fne raw_flt raw_fgt
theorem run_store_flt {P : Program} (w : World) (a : Addr) (k : FloatKind) (b : Nat) (m : Mode) : (store a (.float k b) m).run P w = stored P w a (.float k b) m := run_store P w a _ m rfl
attribute [local go_sem] run_store_flt

theorem fl_of_row {w : World} {g n : Nat} {f : Nat → Nat} (h : w.rowIs g 30 n (fun k => .float .f64 (f k))) (hf : ∀ k, k < n → f k < 18446744073709551616) : IsFl w (some ⟨g, 0, none⟩) n f :=
  fun k hk => ⟨hf k hk, g, 0, rfl, h.lt, by rw [Nat.zero_add]; exact h.cell hk⟩
set_option maxHeartbeats 4000000 in
set_option maxRecDepth 100000 in
theorem su_none (a1 : Option Addr) (cap : Nat) (k : Int) (xs : Nat → Nat) (w : World) (h1 : Hid (IsFl w a1 0 xs)) :
    Calls Try.prog 4 #[.slice a1 0 cap, .int .i64 k] w fun e w' => e = .returned (.bool true) ∧ Below w.heap.size w w' := by
  have AW := hid awake_any
  have RB := hid rawBits_any
  have SS := hid same_self
  have S1 := hid (fun w' (hb : Below w.heap.size w w') => sum_at a1 0 cap xs w' (by omega) (h1.out.below hb))
  have S2 := hid (fun w' (hb : Below w.heap.size w w') => rsum_at a1 0 cap xs w' (by omega) (h1.out.below hb))
  have V0 : Hid (valB (sumS xs 0) = 0) := valB_S0
  go_enter Try.func4, Try.ntmps4
  go_wp2_with fail
  refine (AW.out _).mono ?_
  rintro e w1 ⟨rfl, b1⟩
  go_wp2_with fail
  refine (S1.out _ b1.out).mono ?_
  rw [V0.out]
  rintro e w2 ⟨rfl, b2⟩
  have B2 := hid (b1.out.trans (b2.out.mono b1.out.size))
  clear b1 b2
  go_wp2_with fail
  refine (S2.out _ B2.out).mono ?_
  rw [V0.out]
  rintro e w3 ⟨rfl, b3⟩
  have B3 := hid (B2.out.trans (b3.out.mono B2.out.size))
  clear b3 B2
  go_wp2_with fail
  refine (SS.out _ _).mono ?_
  rintro e w4 ⟨rfl, rfl⟩
  go_wp2_with fail
  refine (RB.out _ _).mono ?_
  rintro e w5 ⟨rfl, rfl⟩
  go_wp2
  go_ret
  exact ⟨rfl, B3.out⟩
set_option maxHeartbeats 4000000 in
set_option maxRecDepth 100000 in
theorem su_go (a1 : Option Addr) (len cap : Nat) (k : Int) (xs : Nat → Nat) (w : World) (hl : Hid (len ≤ 65536)) (l0 : 0 < (len : Int)) (hl2 : (len : Int) ≤ 65536) (h1 : Hid (IsFl w a1 len xs)) (q : Int) (Q : Nat) (HQ : Hid (q = Q)) (hq : (IntKind.u64.wrap k).tmod (len : Int) = q) (q0 : 0 ≤ q) (q1 : q < len) (y : Nat) (hy : Hid (valB (sumS xs len) = y)) :
    Calls Try.prog 4 #[.slice a1 len cap, .int .i64 k] w fun e w' => e = .returned (.bool true) ∧ Below w.heap.size w w' := by
  have hmk := run_make_row' (P := Try.prog) 43 30 (.float .f64 0) 8 Try.underlying43 info_f64 rfl .i64 .i64 len (by have := hl.out; omega) (by have := hl.out; omega)
  have AW := hid awake_any
  have RB := hid rawBits_any
  have SS := hid same_self
  have S1 := hid (fun w' (hb : Below w.heap.size w w') => sum_at a1 len cap xs w' (by have := hl.out; omega) (h1.out.below hb))
  have S2 := hid (fun w' (hb : Below w.heap.size w w') => rsum_at a1 len cap xs w' (by have := hl.out; omega) (h1.out.below hb))
  go_enter Try.func4, Try.ntmps4
  go_wp2_with fail
  refine (AW.out _).mono ?_
  rintro e w1 ⟨rfl, b1⟩
  go_wp2_with fail
  refine (S1.out _ b1.out).mono ?_
  rw [hy.out]
  rintro e w2 ⟨rfl, b2⟩
  have B2 := hid (b1.out.trans (b2.out.mono b1.out.size))
  clear b1 b2
  go_wp2_with fail
  refine (S2.out _ B2.out).mono ?_
  rw [hy.out]
  rintro e w3 ⟨rfl, b3⟩
  have B3 := hid (B2.out.trans (b3.out.mono B2.out.size))
  clear b3 B2
  go_wp2_with fail
  refine (SS.out _ _).mono ?_
  rintro e w4 ⟨rfl, rfl⟩
  go_wp2_with fail
  refine (new_go _).mono ?_
  rintro e w5 ⟨rfl, rfl⟩
  go_wp2_with fail
  refine (new_go _).mono ?_
  rintro e w6 ⟨rfl, rfl⟩
  have hs := B3.out.size
  have z1 : ∀ (a b : Obj), ((w4.alloc a).alloc b).heap.size = w4.heap.size + 2 := by intro a b; simp
  have z2 : ∀ (a b c : Obj), (((w4.alloc a).alloc b).alloc c).heap.size = w4.heap.size + 3 := by intro a b c; simp
  have z3 : ∀ (a b c d : Obj), ((((w4.alloc a).alloc b).alloc c).alloc d).heap.size = w4.heap.size + 4 := by intro a b c d; simp
  have z0 : ∀ (a : Obj), (w4.alloc a).heap.size = w4.heap.size + 1 := by intro a; simp
  have R1 := (((World.rowIs_made w4 (.float .f64 0) len 30).alloc (.cells (madeCells #[.float .f64 0] len) 30)).alloc (.cells (encA S0) 56)).alloc (.cells (encA S0) 56)
  have R2 := ((World.rowIs_made (w4.alloc (.cells (madeCells #[.float .f64 0] len) 30)) (.float .f64 0) len 30).alloc (.cells (encA S0) 56)).alloc (.cells (encA S0) 56)
  have R3 : IsAcc _ S0 ((((w4.alloc (.cells (madeCells #[.float .f64 0] len) 30)).alloc (.cells (madeCells #[.float .f64 0] len) 30)).alloc (.cells (encA S0) 56)).alloc (.cells (encA S0) 56)) := IsAcc.alloc (heap_alloc_new _ _) _
  have R4 : IsAcc _ S0 ((((w4.alloc (.cells (madeCells #[.float .f64 0] len) 30)).alloc (.cells (madeCells #[.float .f64 0] len) 30)).alloc (.cells (encA S0) 56)).alloc (.cells (encA S0) 56)) := heap_alloc_new _ _
  rw [z0] at R2
  rw [z1] at R3
  rw [z2] at R4
  have R5 : Below w.heap.size w ((((w4.alloc (.cells (madeCells #[.float .f64 0] len) 30)).alloc (.cells (madeCells #[.float .f64 0] len) 30)).alloc (.cells (encA S0) 56)).alloc (.cells (encA S0) 56)) :=
    (((B3.out.alloc hs _).alloc (by rw [z0]; omega) _).alloc (by rw [z1]; omega) _).alloc (by rw [z2]; omega) _
  have HR := hid (⟨R1, R2, R3, R4, R5⟩ : _ ∧ _ ∧ _ ∧ _ ∧ _)
  have HS := hid hs
  clear R1 R2 R3 R4 R5 hs z0 z3 B3
  go_wp2
  obtain ⟨W, hW⟩ : ∃ W, ((((w4.alloc (.cells (madeCells #[.float .f64 0] len) 30)).alloc (.cells (madeCells #[.float .f64 0] len) 30)).alloc (.cells (encA S0) 56)).alloc (.cells (encA S0) 56)) = W := ⟨_, rfl⟩
  rw [hW] at HR
  rw [hW]
  obtain ⟨ga, hga⟩ : ∃ g, w4.heap.size + 1 + 1 = g := ⟨_, rfl⟩
  have hga2 : w4.heap.size + 2 = ga := hga
  obtain ⟨gb, hgb⟩ : ∃ g, w4.heap.size + 3 = g := ⟨_, rfl⟩
  rw [hga2, hgb] at HR
  rw [hga, hgb]
  obtain ⟨gr, hgr⟩ : ∃ g, w4.heap.size + 1 = g := ⟨_, rfl⟩
  rw [hgr] at HR
  rw [hgr]
  have EE : Hid (w.heap.size ≤ w4.heap.size ∧ gr = w4.heap.size + 1 ∧ ga = w4.heap.size + 2 ∧ gb = w4.heap.size + 3) := ⟨HS.out, hgr.symm, hga2.symm, hgb.symm⟩
  clear hgr hgb hga hga2 HS hW z1 z2
  obtain ⟨gk, hgk⟩ : ∃ g, w4.heap.size = g := ⟨_, rfl⟩
  rw [hgk] at HR EE
  rw [hgk]
  clear hgk
  have n1 : gk ≠ gr := by have := EE.out; omega
  have n2 : gr ≠ gk := by have := EE.out; omega
  go_loopw [15] (fun iv wr => ∃ i : Nat, i ≤ len ∧ iv = .int .i64 (i : Nat) ∧ wr.rowIs gk 30 len (fun k => .float .f64 (if k < i then xs (len - 1 - k) else 0)) ∧ wr.rowIs gr 30 len (fun k => .float .f64 (if k < i then xs ((Q + k) % len) else 0)) ∧ IsAcc ga (sumS xs (min i Q)) wr ∧ IsAcc gb (sumS (fun k => xs (Q + k)) (i - Q)) wr ∧ Below w.heap.size w wr) (fun iv _ => len - (intOf iv).toNat)
  case atStart =>
    refine ⟨0, by omega, rfl, HR.out.1.congr (fun k _ => by simp), HR.out.2.1.congr (fun k _ => by simp), ?_, ?_, HR.out.2.2.2.2⟩
    · rw [Nat.zero_min]; exact HR.out.2.2.1
    · rw [Nat.zero_sub]; exact HR.out.2.2.2.1
  case round =>
    clear HR
    obtain ⟨i, hi, rfl, r1, r2, ra, rb, bel⟩ := hrel
    have hl' := hl.out
    by_cases hil : i < len
    · obtain ⟨j, hj⟩ : ∃ j : Nat, (len : Int) - 1 - (i : Int) = (j : Int) := ⟨len - 1 - i, by omega⟩
      obtain ⟨m, hm⟩ : ∃ m : Nat, (q + (i : Int)).tmod (len : Int) = (m : Int) := ⟨(Q + i) % len, by rw [HQ.out, ← Int.natCast_add]; rfl⟩
      have hjn : j = len - 1 - i := by omega
      have hmn : m = (Q + i) % len := by
        rw [HQ.out, ← Int.natCast_add] at hm
        exact (Int.ofNat.inj hm).symm
      have hml : m < len := by rw [hmn]; exact Nat.mod_lt _ (by omega)
      obtain ⟨xi0, b, o, ea, hb, ci⟩ := h1.out i hil
      subst ea
      obtain ⟨xj0, b2, o2, ea2, _, cj⟩ := h1.out j (by omega)
      obtain ⟨xm0, b3, o3, ea3, _, cm⟩ := h1.out m hml
      cases ea2
      cases ea3
      rw [← bel.cell (p := ⟨b, o + i, none⟩) hb] at ci
      rw [← bel.cell (p := ⟨b, o + j, none⟩) hb] at cj
      rw [← bel.cell (p := ⟨b, o + m, none⟩) hb] at cm
      obtain ⟨x, hx⟩ : ∃ x, xs i = x := ⟨_, rfl⟩
      obtain ⟨xj, hxj⟩ : ∃ x, xs j = x := ⟨_, rfl⟩
      obtain ⟨xm, hxm⟩ : ∃ x, xs m = x := ⟨_, rfl⟩
      rw [hx] at ci xi0
      rw [hxj] at cj
      rw [hxm] at cm
      have e1 := r1.cell hil
      have e2 := r2.cell hil
      rw [if_neg (by omega)] at e1 e2
      have f1 := r1.frozen i
      have f2 := r2.frozen i
      have d1 : b ≠ gk := by have := EE.out; omega
      have d2 : b ≠ gr := by have := EE.out; omega
      have d3 : gk ≠ b := by have := EE.out; omega
      have d4 : gr ≠ b := by have := EE.out; omega
      have row1 : ∀ v, (wr.setCell ⟨gk, i, none⟩ v).rowIs gr 30 len _ := fun v => r2.setOther (a := ⟨gk, i, none⟩) n2 v
      have W1 : Hid (((wr.setCell ⟨gk, i, none⟩ (.float .f64 xj)).setCell ⟨gr, i, none⟩ (.float .f64 xm)).rowIs gk 30 len (fun k => .float .f64 (if k < i + 1 then xs (len - 1 - k) else 0))) := by
        refine ((r1.set i (.float .f64 xj)).setOther (a := ⟨gr, i, none⟩) n1 _).congr (fun k hk => ?_)
        by_cases c : k = i
        · rw [if_pos c, if_pos (by omega), c, ← hxj, hjn]
        · rw [if_neg c]
          by_cases c2 : k < i
          · rw [if_pos c2, if_pos (by omega)]
          · rw [if_neg c2, if_neg (by omega)]
      have W2 : Hid (((wr.setCell ⟨gk, i, none⟩ (.float .f64 xj)).setCell ⟨gr, i, none⟩ (.float .f64 xm)).rowIs gr 30 len (fun k => .float .f64 (if k < i + 1 then xs ((Q + k) % len) else 0))) := by
        refine ((row1 (.float .f64 xj)).set i (.float .f64 xm)).congr (fun k hk => ?_)
        by_cases c : k = i
        · rw [if_pos c, if_pos (by omega), c, ← hxm, hmn]
        · rw [if_neg c]
          by_cases c2 : k < i
          · rw [if_pos c2, if_pos (by omega)]
          · rw [if_neg c2, if_neg (by omega)]
      have W3 : Hid (IsAcc ga (sumS xs (min i Q)) ((wr.setCell ⟨gk, i, none⟩ (.float .f64 xj)).setCell ⟨gr, i, none⟩ (.float .f64 xm))) := by
        show IsAcc _ _ _
        unfold IsAcc
        rw [(only_set gr i _ _).block ga (by have := EE.out; omega), (only_set gk i _ _).block ga (by have := EE.out; omega)]
        exact ra
      have W4 : Hid (IsAcc gb (sumS (fun k => xs (Q + k)) (i - Q)) ((wr.setCell ⟨gk, i, none⟩ (.float .f64 xj)).setCell ⟨gr, i, none⟩ (.float .f64 xm))) := by
        show IsAcc _ _ _
        unfold IsAcc
        rw [(only_set gr i _ _).block gb (by have := EE.out; omega), (only_set gk i _ _).block gb (by have := EE.out; omega)]
        exact rb
      have W5 : Hid (Below w.heap.size w ((wr.setCell ⟨gk, i, none⟩ (.float .f64 xj)).setCell ⟨gr, i, none⟩ (.float .f64 xm))) := by
        have h1 := (only_set gk i (.float .f64 xj) wr).but.below (B := w.heap.size) (by have := EE.out; omega) bel.size
        exact (bel.trans h1).trans ((only_set gr i (.float .f64 xm) _).but.below (by have := EE.out; omega) (Nat.le_trans bel.size h1.size))
      have HX := hid hx
      have HX0 := hid xi0
      have HI := hid hil
      have il : ((i : Nat) : Int) < len := by omega
      have ml : ((m : Nat) : Int) < len := by omega
      have jl : ((j : Nat) : Int) < len := by omega
      have HN := hid hl'
      clear hl' hi hil r1 r2 ra rb bel hx hxj hxm hjn hmn hml xj0 xm0 xi0 row1 hb
      by_cases iq : (i : Int) < q
      · have A := hid (add_at ga x _ _ HX0.out W3.out (sumS_good xs (min i Q) (by have := HN.out; have := HI.out; omega)) (by rw [sumS_c]; have := HN.out; have := HI.out; omega))
        go_wp2_with fail
        refine A.out.mono ?_
        rintro e w' ⟨rfl, p1, p2⟩
        have HF : Hid (w'.rowIs gk 30 len (fun k => .float .f64 (if k < i + 1 then xs (len - 1 - k) else 0)) ∧ w'.rowIs gr 30 len (fun k => .float .f64 (if k < i + 1 then xs ((Q + k) % len) else 0)) ∧ IsAcc ga (sumS xs (min (i + 1) Q)) w' ∧ IsAcc gb (sumS (fun k => xs (Q + k)) (i + 1 - Q)) w' ∧ Below w.heap.size w w') := by
          refine ⟨W1.out.of_block (p2.out.block gk (by have := EE.out; omega) W1.out.lt), W2.out.of_block (p2.out.block gr (by have := EE.out; omega) W2.out.lt), ?_, ?_, W5.out.trans (p2.out.below (by have := EE.out; omega) W5.out.size)⟩
          · rw [Nat.min_eq_left (by have := HQ.out; omega)]
            have h := p1.out
            rw [← HX.out, Nat.min_eq_left (by have := HQ.out; omega)] at h
            exact h
          · rw [show i + 1 - Q = i - Q by have := HQ.out; omega]
            unfold IsAcc
            rw [p2.out.block gb (by have := EE.out; omega) (row_lt W4.out)]
            exact W4.out
        clear p1 p2
        go_wp2
        refine ⟨⟨i + 1, HI.out, by simp, HF.out.1, HF.out.2.1, HF.out.2.2.1, HF.out.2.2.2.1, HF.out.2.2.2.2⟩, by have := HI.out; simp [intOf]; omega⟩
      · have iq2 : q ≤ (i : Int) := by omega
        have A := hid (add_at gb x _ _ HX0.out W4.out (sumS_good (fun k => xs (Q + k)) (i - Q) (by have := HN.out; have := HI.out; omega)) (by rw [sumS_c]; have := HN.out; have := HI.out; omega))
        go_wp2_with fail
        refine A.out.mono ?_
        rintro e w' ⟨rfl, p1, p2⟩
        have HF : Hid (w'.rowIs gk 30 len (fun k => .float .f64 (if k < i + 1 then xs (len - 1 - k) else 0)) ∧ w'.rowIs gr 30 len (fun k => .float .f64 (if k < i + 1 then xs ((Q + k) % len) else 0)) ∧ IsAcc ga (sumS xs (min (i + 1) Q)) w' ∧ IsAcc gb (sumS (fun k => xs (Q + k)) (i + 1 - Q)) w' ∧ Below w.heap.size w w') := by
          refine ⟨W1.out.of_block (p2.out.block gk (by have := EE.out; omega) W1.out.lt), W2.out.of_block (p2.out.block gr (by have := EE.out; omega) W2.out.lt), ?_, ?_, W5.out.trans (p2.out.below (by have := EE.out; omega) W5.out.size)⟩
          · rw [Nat.min_eq_right (by have := HQ.out; omega)]
            have h := W3.out
            rw [Nat.min_eq_right (by have := HQ.out; omega)] at h
            unfold IsAcc
            rw [p2.out.block ga (by have := EE.out; omega) (row_lt h)]
            exact h
          · have h := p1.out
            rw [show i + 1 - Q = (i - Q) + 1 by have := HQ.out; omega]
            show IsAcc gb (stepA (sumS (fun k => xs (Q + k)) (i - Q)) (xs (Q + (i - Q)))) w'
            rw [show Q + (i - Q) = i by have := HQ.out; omega, HX.out]
            exact h
        clear p1 p2
        go_wp2
        refine ⟨⟨i + 1, HI.out, by simp, HF.out.1, HF.out.2.1, HF.out.2.2.1, HF.out.2.2.2.1, HF.out.2.2.2.2⟩, by have := HI.out; simp [intOf]; omega⟩
    · have e : i = len := by omega
      subst e
      have il : decide (((i : Nat) : Int) < (i : Nat)) = false := by simp
      have hQi : Q ≤ i := by have := HQ.out; omega
      have F1 : Hid (IsFl wr (some ⟨gk, 0, none⟩) i (fun k => xs (i - 1 - k))) :=
        fl_of_row (r1.congr (fun k hk => by rw [if_pos hk])) (fun k hk => (h1.out _ (by omega)).1)
      have F2 : Hid (IsFl wr (some ⟨gr, 0, none⟩) i (fun k => xs ((Q + k) % i))) :=
        fl_of_row (r2.congr (fun k hk => by rw [if_pos hk])) (fun k hk => (h1.out _ (Nat.mod_lt _ (by omega))).1)
      have S3 : Hid (Calls Try.prog 23 #[.slice (some ⟨gk, 0, none⟩) i i] wr fun e w'' => e = .returned (.tuple #[.float .f64 y, .int .i64 0]) ∧ Hid (Below wr.heap.size wr w'')) := by
        have h := sum_at (some ⟨gk, 0, none⟩) i i (fun k => xs (i - 1 - k)) wr (by omega) F1.out
        rw [sumS_back, hy.out] at h; exact h
      have S4 : Hid (∀ w', Below wr.heap.size wr w' → Calls Try.prog 23 #[.slice (some ⟨gr, 0, none⟩) i i] w' fun e w'' => e = .returned (.tuple #[.float .f64 y, .int .i64 0]) ∧ Hid (Below w'.heap.size w' w'')) := by
        intro w' hb
        have h := sum_at (some ⟨gr, 0, none⟩) i i (fun k => xs ((Q + k) % i)) w' (by omega) (F2.out.below hb)
        rw [sumS_round xs Q i (by have := HQ.out; omega), hy.out] at h; exact h
      rw [Nat.min_eq_right hQi] at ra
      have GA := sumS_good xs Q (by omega)
      have GB := sumS_good (fun k => xs (Q + k)) (i - Q) (by omega)
      have GC := sumS_good xs i (by omega)
      obtain ⟨z, hz⟩ : ∃ z, valB (sumS (fun k => xs (Q + k)) (i - Q)) = z := ⟨_, rfl⟩
      have KB : Hid (∀ w', IsAcc gb (sumS (fun k => xs (Q + k)) (i - Q)) w' → Calls Try.prog 21 #[.pointer (some ⟨gb, 0, none⟩)] w' fun e w'' => e = .returned (.float .f64 z) ∧ Below w'.heap.size w' w'') := by
        intro w' h
        have h := value_at gb _ w' h GB.c0 GB.h0 GB.h1
        rw [hz] at h; exact h
      have KA : Hid (∀ w', IsAcc ga (sumS xs i) w' → Calls Try.prog 21 #[.pointer (some ⟨ga, 0, none⟩)] w' fun e w'' => e = .returned (.float .f64 y) ∧ Below w'.heap.size w' w'') := by
        intro w' h
        have h := value_at ga _ w' h GC.c0 GC.h0 GC.h1
        rw [hy.out] at h; exact h
      have MM : Hid (∀ w', IsAcc ga (sumS xs Q) w' → IsAcc gb (sumS (fun k => xs (Q + k)) (i - Q)) w' → Calls Try.prog 16 #[.pointer (some ⟨ga, 0, none⟩), .pointer (some ⟨gb, 0, none⟩)] w' fun e w'' => e = .returned (.int .i64 0) ∧ (Hid (IsAcc ga (sumS xs i) w'') ∧ Hid (But ga w' w''))) := by
        intro w' h h'
        have h := merge_at ga gb _ _ w' (by have := EE.out; omega) h h' GA.c0 GB.c0 (by rw [sumS_c, sumS_c]; omega) GA.n0 GA.n1 GB.n0 GB.n1
        rw [sumS_two xs Q i hQi] at h; exact h
      have CA : Hid (∀ w', IsAcc ga (sumS xs i) w' → Calls Try.prog 18 #[.pointer (some ⟨ga, 0, none⟩)] w' fun e w'' => e = .returned (.int .i64 (i : Int)) ∧ w'' = w') := by
        intro w' h
        refine count_at ga i w' ?_
        have h := h.c0
        rw [sumS_c] at h; exact h
      have CB : Hid (∀ w', IsAcc gb (sumS (fun k => xs (Q + k)) (i - Q)) w' → Calls Try.prog 18 #[.pointer (some ⟨gb, 0, none⟩)] w' fun e w'' => e = .returned (.int .i64 ((i : Int) - q)) ∧ w'' = w') := by
        intro w' h
        refine count_at gb _ w' ?_
        have h := h.c0
        rw [sumS_c, show (((i - Q : Nat) : Int)) = (i : Int) - q by have := HQ.out; omega] at h; exact h
      have HRA := hid ra
      have HRB := hid rb
      have BEL := hid bel
      clear ra rb bel r1 r2 F1 F2 hl' hi hil GA GB GC hz hQi S1 S2
      go_wp2_with fail
      refine S3.out.mono ?_
      rintro e w5 ⟨rfl, b5⟩
      go_wp2_with fail
      refine (S4.out _ b5.out).mono ?_
      rintro e w6 ⟨rfl, b6⟩
      have B6 := hid (b5.out.trans (b6.out.mono b5.out.size))
      clear b5 b6
      go_wp2_with fail
      refine (KB.out _ (HRB.out.below B6.out (row_lt HRB.out))).mono ?_
      rintro e w7 ⟨rfl, b7⟩
      have B7 := hid (B6.out.trans (b7.mono B6.out.size))
      clear b7 B6
      go_wp2_with fail
      refine (MM.out _ (HRA.out.below B7.out (row_lt HRA.out)) (HRB.out.below B7.out (row_lt HRB.out))).mono ?_
      rintro e w8 ⟨rfl, ma, mb⟩
      have M8 : Hid (IsAcc gb (sumS (fun k => xs (Q + k)) (i - Q)) w8) := by
        have h := HRB.out.below B7.out (row_lt HRB.out)
        show IsAcc _ _ _
        unfold IsAcc
        rw [mb.out.block gb (by have := EE.out; omega) (row_lt h)]; exact h
      have B8 : Hid (Below w.heap.size w w8) := by
        have h := BEL.out.trans (B7.out.mono BEL.out.size)
        exact h.trans (mb.out.below (by have := EE.out; omega) h.size)
      clear mb B7 BEL HRA HRB
      go_wp2_with fail
      refine (SS.out _ _).mono ?_
      rintro e w9 ⟨rfl, rfl⟩
      go_wp2_with fail
      refine (SS.out _ _).mono ?_
      rintro e w10 ⟨rfl, rfl⟩
      go_wp2_with fail
      refine (KA.out _ ma.out).mono ?_
      rintro e w11 ⟨rfl, b11⟩
      have M11 := hid (M8.out.below b11 (row_lt M8.out))
      have A11 := hid (ma.out.below b11 (row_lt ma.out))
      have B11 := hid (B8.out.trans (b11.mono B8.out.size))
      clear b11 M8 ma B8
      go_wp2_with fail
      refine (SS.out _ _).mono ?_
      rintro e w12 ⟨rfl, rfl⟩
      go_wp2_with fail
      refine (CA.out _ A11.out).mono ?_
      rintro e w13 ⟨rfl, rfl⟩
      go_wp2_with fail
      refine (CB.out _ M11.out).mono ?_
      rintro e w14 ⟨rfl, rfl⟩
      go_wp2_with fail
      refine (KB.out _ M11.out).mono ?_
      rintro e w15 ⟨rfl, b15⟩
      have B15 := hid (B11.out.trans (b15.mono B11.out.size))
      clear b15
      go_wp2_with fail
      refine (SS.out _ _).mono ?_
      rintro e w16 ⟨rfl, rfl⟩
      go_wp2
      go_ret
      exact ⟨rfl, B15.out⟩
end Go.Proofs.Ytgbnabpbheebjaa
