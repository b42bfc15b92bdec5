/-
  Whole numbers in words of 32 bits, by plain numbers (no program).
-/
import Derived.Test.YtcamlhpehnfnlabTh
import Derived.Laws.Rows
import Derived.ChangeKeysEq
import Derived.Below
namespace Go.Proofs.Ytcamlhpehnfnlab
open Tf

/-- so many words, as cells -/
def enc (f : Nat → Int) : Array Value := Array.ofFn (n := 150) fun i => .int .u64 (f i.val)
/-- the number that words say, not carried on -/
def valN (f : Nat → Int) : Nat → Int
  | 0 => 0
  | n + 1 => valN f n + f n * ((2 ^ (32 * n) : Nat) : Int)
def upd (f : Nat → Int) (k : Nat) (v : Int) : Nat → Int := fun j => if j = k then v else f j

theorem enc_size (f : Nat → Int) : (enc f).size = 150 := by simp [enc]
theorem enc_get (f : Nat → Int) (i : Nat) (h : i < 150) : (enc f)[i]? = some (.int .u64 (f i)) := by
  simp [enc, h]
theorem enc_upd (f : Nat → Int) (k : Nat) (v : Int) (h : k < 150) : (enc f).setIfInBounds k (.int .u64 v) = enc (upd f k v) := by
  apply Array.ext_getElem?
  intro i
  rw [Array.getElem?_setIfInBounds]
  by_cases c : k = i
  · subst c
    rw [if_pos rfl, enc_size, if_pos h, enc_get _ _ h]
    simp [upd]
  · rw [if_neg c]
    by_cases c2 : i < 150
    · rw [enc_get _ _ c2, enc_get _ _ c2]
      have : ¬ i = k := fun e => c e.symm
      simp [upd, this]
    · have h1 : (enc f)[i]? = none := by simp [enc_size]; omega
      have h2 : (enc (upd f k v))[i]? = none := by simp [enc_size]; omega
      rw [h1, h2]
theorem enc_congr (f g : Nat → Int) (h : ∀ i, i < 150 → f i = g i) : enc f = enc g := by
  apply Array.ext_getElem?
  intro i
  by_cases c : i < 150
  · rw [enc_get _ _ c, enc_get _ _ c, h i c]
  · have h1 : (enc f)[i]? = none := by simp [enc_size]; omega
    have h2 : (enc g)[i]? = none := by simp [enc_size]; omega
    rw [h1, h2]

theorem valN_upd (f : Nat → Int) (k : Nat) (v : Int) (n : Nat) : valN (upd f k v) n = valN f n + (if k < n then (v - f k) * ((2 ^ (32 * k) : Nat) : Int) else 0) := by
  induction n with
  | zero => simp [valN]
  | succ n ih =>
    unfold valN
    rw [ih]
    by_cases c : k < n
    · rw [if_pos c, if_pos (by omega)]
      have : upd f k v n = f n := by unfold upd; rw [if_neg (by omega)]
      rw [this]; omega
    · rw [if_neg c]
      by_cases c2 : k = n
      · subst c2
        have : upd f k v k = v := by unfold upd; rw [if_pos rfl]
        rw [this, if_pos (by omega), Int.sub_mul]; omega
      · rw [if_neg (by omega)]
        have : upd f k v n = f n := by unfold upd; rw [if_neg (fun e => c2 e.symm)]
        rw [this]; omega

/-- the words of a number -/
def dig (V : Int) (i : Nat) : Int := V / ((2 ^ (32 * i) : Nat) : Int) % 4294967296
/-- what is carried on ahead of word i -/
def cr (f : Nat → Int) (i : Nat) : Int := valN f i / ((2 ^ (32 * i) : Nat) : Int)
theorem p32_pos (i : Nat) : (0 : Int) < ((2 ^ (32 * i) : Nat) : Int) := by have := pow_pos (32 * i); omega
theorem p32_succ (i : Nat) : ((2 ^ (32 * (i + 1)) : Nat) : Int) = ((2 ^ (32 * i) : Nat) : Int) * 4294967296 := by
  have : 32 * (i + 1) = 32 * i + 32 := by omega
  rw [this, Nat.pow_add, Int.natCast_mul]; rfl
theorem cr_zero (f : Nat → Int) : cr f 0 = 0 := by simp [cr, valN]
theorem cr_add (f : Nat → Int) (i : Nat) : cr f i + f i = valN f (i + 1) / ((2 ^ (32 * i) : Nat) : Int) := by
  unfold cr
  show _ = (valN f i + f i * ((2 ^ (32 * i) : Nat) : Int)) / ((2 ^ (32 * i) : Nat) : Int)
  rw [Int.add_mul_ediv_right _ _ (by have := p32_pos i; omega)]
theorem cr_succ (f : Nat → Int) (i : Nat) : (cr f i + f i) / 4294967296 = cr f (i + 1) := by
  rw [cr_add]
  unfold cr
  rw [p32_succ, Int.ediv_ediv_of_nonneg (Int.le_of_lt (p32_pos i))]
theorem valN_up (f : Nat → Int) (i n : Nat) (h : i < n) : ∃ z : Int, valN f n = valN f (i + 1) + z * ((2 ^ (32 * (i + 1)) : Nat) : Int) := by
  induction n with
  | zero => omega
  | succ n ih =>
    by_cases c : i = n
    · subst c; exact ⟨0, by simp⟩
    · obtain ⟨z, hz⟩ := ih (by omega)
      refine ⟨z + f n * ((2 ^ (32 * (n - (i + 1))) : Nat) : Int), ?_⟩
      show valN f n + f n * ((2 ^ (32 * n) : Nat) : Int) = _
      have e : ((2 ^ (32 * n) : Nat) : Int) = ((2 ^ (32 * (n - (i + 1))) : Nat) : Int) * ((2 ^ (32 * (i + 1)) : Nat) : Int) := by
        rw [← Int.natCast_mul, ← Nat.pow_add]
        have : 32 * (n - (i + 1)) + 32 * (i + 1) = 32 * n := by omega
        rw [this]
      rw [hz, e, Int.add_mul, Int.mul_assoc]; omega
theorem dig_eq (f : Nat → Int) (i n : Nat) (h : i < n) : (cr f i + f i) % 4294967296 = dig (valN f n) i := by
  obtain ⟨z, hz⟩ := valN_up f i n h
  unfold dig
  rw [cr_add, hz, p32_succ]
  have hp := p32_pos i
  have e : valN f (i + 1) + z * (((2 ^ (32 * i) : Nat) : Int) * 4294967296) = valN f (i + 1) + (z * 4294967296) * ((2 ^ (32 * i) : Nat) : Int) := by
    rw [Int.mul_assoc, Int.mul_comm 4294967296]
  rw [e, Int.add_mul_ediv_right _ _ (by omega)]
  generalize valN f (i + 1) / ((2 ^ (32 * i) : Nat) : Int) = y
  omega
theorem cr_bound (f : Nat → Int) (B : Int) (h : ∀ i, 0 ≤ f i ∧ f i ≤ B) (i : Nat) : 0 ≤ cr f i ∧ cr f i ≤ B := by
  induction i with
  | zero => rw [cr_zero]; have := h 0; omega
  | succ i ih =>
    rw [← cr_succ]
    have := h i
    generalize cr f i = c at *
    generalize f i = x at *
    omega

/-- what one addition does to three words -/
theorem add_val (f : Nat → Int) (k n : Nat) (m lo hi : Int) (hk : k + 2 < 150) (hlo : lo = m % 4294967296 * ((2 ^ n : Nat) : Int)) (hhi : hi = m / 4294967296 * ((2 ^ n : Nat) : Int)) :
    valN (upd (upd (upd f k (f k + lo % 4294967296)) (k + 1) (f (k + 1) + (lo / 4294967296 + hi % 4294967296))) (k + 2) (f (k + 2) + hi / 4294967296)) 150 = valN f 150 + m * ((2 ^ (32 * k + n) : Nat) : Int) := by
  rw [valN_upd, valN_upd, valN_upd, if_pos (by omega), if_pos (by omega), if_pos (by omega)]
  have e1 : upd (upd f k (f k + lo % 4294967296)) (k + 1) (f (k + 1) + (lo / 4294967296 + hi % 4294967296)) (k + 2) = f (k + 2) := by
    unfold upd; rw [if_neg (by omega), if_neg (by omega)]
  have e2 : upd f k (f k + lo % 4294967296) (k + 1) = f (k + 1) := by unfold upd; rw [if_neg (by omega)]
  rw [e1, e2, p32_succ (k + 1), p32_succ k, Nat.pow_add, Int.natCast_mul]
  have e3 : m * ((2 ^ n : Nat) : Int) = lo + hi * 4294967296 := by
    rw [hlo, hhi]
    have h1 : m = m % 4294967296 + m / 4294967296 * 4294967296 := by omega
    have h2 : m * ((2 ^ n : Nat) : Int) = (m % 4294967296 + m / 4294967296 * 4294967296) * ((2 ^ n : Nat) : Int) := by rw [← h1]
    rw [h2, Int.add_mul, Int.mul_right_comm]
  generalize ((2 ^ (32 * k) : Nat) : Int) = P at *
  have e4 : m * (P * ((2 ^ n : Nat) : Int)) = (lo + hi * 4294967296) * P := by rw [← e3, Int.mul_assoc, Int.mul_comm P]
  rw [e4]
  have e5 : lo = lo % 4294967296 + lo / 4294967296 * 4294967296 := by omega
  have e6 : hi = hi % 4294967296 + hi / 4294967296 * 4294967296 := by omega
  generalize lo % 4294967296 = l0 at *
  generalize lo / 4294967296 = l1 at *
  generalize hi % 4294967296 = h0 at *
  generalize hi / 4294967296 = h1 at *
  rw [e5, e6]
  have f1 : ∀ a b : Int, a + b - a = b := by intro a b; omega
  rw [f1, f1, f1]
  grind
theorem shl_lt (a : Int) (n : Nat) (h0 : 0 ≤ a) (h1 : a < 4294967296) (hn : n < 32) : 0 ≤ a * ((2 ^ n : Nat) : Int) ∧ a * ((2 ^ n : Nat) : Int) < 9223372036854775808 := by
  have hp : 2 ^ n ≤ 2 ^ 31 := Nat.pow_le_pow_right (by omega) (by omega)
  generalize 2 ^ n = p at *
  refine ⟨Int.mul_nonneg h0 (by omega), ?_⟩
  have h2 : a * (p : Int) ≤ a * 2147483648 := Int.mul_le_mul_of_nonneg_left (by omega) h0
  omega

/-- nothing but block g is changed -/
structure Only (g : Nat) (w w' : World) : Prop where
  os : w'.os = w.os
  tape : w'.tape = w.tape
  output : w'.output = w.output
  size : w'.heap.size = w.heap.size
  block : ∀ k, k ≠ g → w'.heap[k]? = w.heap[k]?
theorem only_set (g i : Nat) (v : Value) (w : World) : Only g w (w.setCell ⟨g, i, none⟩ v) :=
  ⟨rfl, rfl, rfl, by simp, fun k hk => RowKit.Below.heap_setCell w ⟨g, i, none⟩ v k hk⟩
theorem Only.trans {g : Nat} {a b c : World} (h : Only g a b) (k : Only g b c) : Only g a c :=
  ⟨k.os.trans h.os, k.tape.trans h.tape, k.output.trans h.output, k.size.trans h.size, fun j hj => (k.block j hj).trans (h.block j hj)⟩
theorem Only.drew {g : Nat} {a b : World} (h : Only g a b) : Only g a b.drew := ⟨h.os, h.tape, h.output, h.size, h.block⟩
theorem row_set (g i : Nat) (f : Nat → Int) (T : TypeId) (v : Int) (w : World) (h : w.heap[g]? = some (.cells (enc f) T)) (hi : i < 150) :
    (w.setCell ⟨g, i, none⟩ (.int .u64 v)).heap[g]? = some (.cells (enc (upd f i v)) T) := by
  simp only [World.setCell]
  rw [Array.getElem?_modify, if_pos rfl, h]
  simp [enc_upd f i v hi]
theorem row_cell (g i : Nat) (f : Nat → Int) (T : TypeId) (w : World) (h : w.heap[g]? = some (.cells (enc f) T)) (hi : i < 150) : w.cell? ⟨g, i, none⟩ = some (.int .u64 (f i)) := by
  rw [cell_of_row w g i (enc f) T (0, 0) h, enc_get f i hi]
theorem row_frozen (g i : Nat) (c : Array Value) (T : TypeId) (w : World) (h : w.heap[g]? = some (.cells c T)) : w.frozen? ⟨g, i, none⟩ = false := by
  simp [World.frozen?, h]
theorem row_lt (g : Nat) (o : Obj) (w : World) (h : w.heap[g]? = some o) : g < w.heap.size := by
  by_cases c : g < w.heap.size
  · exact c
  · rw [Array.getElem?_eq_none (by omega)] at h; cases h
end Go.Proofs.Ytcamlhpehnfnlab
