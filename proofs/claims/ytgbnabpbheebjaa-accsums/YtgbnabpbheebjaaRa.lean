/-
  The reference's sum: limbs of 32 bits, and the block that holds them, by plain numbers.
-/
import Derived.Test.YtgbnabpbheebjaaHa
namespace Go.Proofs.Ytgbnabpbheebjaa
open Go.RowKit Tf

/-- the number that limbs say, not carried on -/
def valN (f : Nat → Int) : Nat → Int
  | 0 => 0
  | n + 1 => valN f n + f n * ((2 ^ (32 * n) : Nat) : Int)
theorem valN_upd (f : Nat → Int) (k : Nat) (v : Int) (n : Nat) : valN (upd f k v) n = valN f n + (if k < n then (v - f k) * ((2 ^ (32 * k) : Nat) : Int) else 0) := by
  induction n with
  | zero => simp [valN]
  | succ n ih =>
    unfold valN
    rw [ih]
    by_cases c : k < n
    · rw [if_pos c, if_pos (by omega)]
      have : upd f k v n = f n := by unfold upd; rw [if_neg (by omega)]
      rw [this]; omega
    · rw [if_neg c]
      by_cases c2 : k = n
      · subst c2
        have : upd f k v k = v := by unfold upd; rw [if_pos rfl]
        rw [this, if_pos (by omega), Int.sub_mul]; omega
      · rw [if_neg (by omega)]
        have : upd f k v n = f n := by unfold upd; rw [if_neg (fun e => c2 e.symm)]
        rw [this]; omega
def dig (V : Int) (i : Nat) : Int := V / ((2 ^ (32 * i) : Nat) : Int) % 4294967296
def cr (f : Nat → Int) (i : Nat) : Int := valN f i / ((2 ^ (32 * i) : Nat) : Int)
theorem p32_pos (i : Nat) : (0 : Int) < ((2 ^ (32 * i) : Nat) : Int) := by have := pow_pos (32 * i); omega
theorem p32_succ (i : Nat) : ((2 ^ (32 * (i + 1)) : Nat) : Int) = ((2 ^ (32 * i) : Nat) : Int) * 4294967296 := by
  have : 32 * (i + 1) = 32 * i + 32 := by omega
  rw [this, Nat.pow_add, Int.natCast_mul]; rfl
theorem cr_zero (f : Nat → Int) : cr f 0 = 0 := by simp [cr, valN]
theorem cr_add (f : Nat → Int) (i : Nat) : cr f i + f i = valN f (i + 1) / ((2 ^ (32 * i) : Nat) : Int) := by
  unfold cr
  show _ = (valN f i + f i * ((2 ^ (32 * i) : Nat) : Int)) / ((2 ^ (32 * i) : Nat) : Int)
  rw [Int.add_mul_ediv_right _ _ (by have := p32_pos i; omega)]
theorem cr_succ (f : Nat → Int) (i : Nat) : (cr f i + f i) / 4294967296 = cr f (i + 1) := by
  rw [cr_add]
  unfold cr
  rw [p32_succ, Int.ediv_ediv_of_nonneg (Int.le_of_lt (p32_pos i))]
theorem valN_up (f : Nat → Int) (i n : Nat) (h : i < n) : ∃ z : Int, valN f n = valN f (i + 1) + z * ((2 ^ (32 * (i + 1)) : Nat) : Int) := by
  induction n with
  | zero => omega
  | succ n ih =>
    by_cases c : i = n
    · subst c; exact ⟨0, by simp⟩
    · obtain ⟨z, hz⟩ := ih (by omega)
      refine ⟨z + f n * ((2 ^ (32 * (n - (i + 1))) : Nat) : Int), ?_⟩
      show valN f n + f n * ((2 ^ (32 * n) : Nat) : Int) = _
      have e : ((2 ^ (32 * n) : Nat) : Int) = ((2 ^ (32 * (n - (i + 1))) : Nat) : Int) * ((2 ^ (32 * (i + 1)) : Nat) : Int) := by
        rw [← Int.natCast_mul, ← Nat.pow_add]
        have : 32 * (n - (i + 1)) + 32 * (i + 1) = 32 * n := by omega
        rw [this]
      rw [hz, e, Int.add_mul, Int.mul_assoc]; omega
theorem dig_eq (f : Nat → Int) (i n : Nat) (h : i < n) : (cr f i + f i) % 4294967296 = dig (valN f n) i := by
  obtain ⟨z, hz⟩ := valN_up f i n h
  unfold dig
  rw [cr_add, hz, p32_succ]
  have hp := p32_pos i
  have e : valN f (i + 1) + z * (((2 ^ (32 * i) : Nat) : Int) * 4294967296) = valN f (i + 1) + (z * 4294967296) * ((2 ^ (32 * i) : Nat) : Int) := by
    rw [Int.mul_assoc, Int.mul_comm 4294967296]
  rw [e, Int.add_mul_ediv_right _ _ (by omega)]
  generalize valN f (i + 1) / ((2 ^ (32 * i) : Nat) : Int) = y
  omega

def encR (f : Nat → Int) (c : Int) (p q r o : Bool) : Array Value := Array.ofFn (n := 141) fun k => if k.val < 136 then .int .i64 (f k.val) else if k.val = 136 then .int .i64 c else if k.val = 137 then .bool p else if k.val = 138 then .bool q else if k.val = 139 then .bool r else .bool o
theorem encR_get (f : Nat → Int) (c : Int) (p q r o : Bool) (k : Nat) : (encR f c p q r o)[k]? = if k < 136 then some (.int .i64 (f k)) else if k = 136 then some (.int .i64 c) else if k = 137 then some (.bool p) else if k = 138 then some (.bool q) else if k = 139 then some (.bool r) else if k = 140 then some (.bool o) else none := by
  by_cases h : k < 141
  · simp only [encR, Array.getElem?_ofFn, h, dite_true]
    by_cases h1 : k < 136
    · simp [h1]
    · by_cases h2 : k = 136
      · simp [h2]
      · by_cases h3 : k = 137
        · simp [h3]
        · by_cases h4 : k = 138
          · simp [h4]
          · by_cases h5 : k = 139
            · simp [h5]
            · have h6 : k = 140 := by omega
              simp [h6]
  · simp only [encR, Array.getElem?_ofFn, h, dite_false]
    rw [if_neg (by omega), if_neg (by omega), if_neg (by omega), if_neg (by omega), if_neg (by omega), if_neg (by omega)]
theorem encR_size (f : Nat → Int) (c : Int) (p q r o : Bool) : (encR f c p q r o).size = 141 := by simp [encR]
def IsR (g : Nat) (f : Nat → Int) (c : Int) (p q r o : Bool) (w : World) : Prop := w.heap[g]? = some (.cells (encR f c p q r o) 59)
section
variable {g : Nat} {f : Nat → Int} {c : Int} {p q r o : Bool} {w : World}
theorem IsR.cell (h : IsR g f c p q r o w) (k : Nat) : w.cell? ⟨g, k, none⟩ = (encR f c p q r o)[k]? := cell_of_row _ _ _ _ _ _ h
theorem IsR.fr (h : IsR g f c p q r o w) (k : Nat) : w.frozen? ⟨g, k, none⟩ = false := frozen_of_row _ _ _ _ _ h
theorem IsR.limb (h : IsR g f c p q r o w) (k : Nat) (hk : k < 136) : w.cell? ⟨g, k, none⟩ = some (.int .i64 (f k)) := by rw [h.cell, encR_get, if_pos hk]
theorem IsR.cc (h : IsR g f c p q r o w) : w.cell? ⟨g, 136, none⟩ = some (.int .i64 c) := by rw [h.cell, encR_get]; rfl
theorem IsR.cp (h : IsR g f c p q r o w) : w.cell? ⟨g, 137, none⟩ = some (.bool p) := by rw [h.cell, encR_get]; rfl
theorem IsR.cq (h : IsR g f c p q r o w) : w.cell? ⟨g, 138, none⟩ = some (.bool q) := by rw [h.cell, encR_get]; rfl
theorem IsR.cr (h : IsR g f c p q r o w) : w.cell? ⟨g, 139, none⟩ = some (.bool r) := by rw [h.cell, encR_get]; rfl
theorem IsR.co (h : IsR g f c p q r o w) : w.cell? ⟨g, 140, none⟩ = some (.bool o) := by rw [h.cell, encR_get]; rfl
theorem IsR.set (h : IsR g f c p q r o w) (f' : Nat → Int) (c' : Int) (p' q' r' o' : Bool) (k : Nat) (v : Value) (hk : (encR f' c' p' q' r' o')[k]? = some v) (hj : ∀ j, j ≠ k → (encR f c p q r o)[j]? = (encR f' c' p' q' r' o')[j]?) : IsR g f' c' p' q' r' o' (w.setCell ⟨g, k, none⟩ v) := by
  unfold IsR
  have e : (encR f c p q r o).setIfInBounds k v = encR f' c' p' q' r' o' := by
    apply Array.ext_getElem?
    intro i
    rw [Array.getElem?_setIfInBounds]
    by_cases e : k = i
    · subst e
      have : k < (encR f' c' p' q' r' o').size := (Array.getElem?_eq_some_iff.1 hk).1
      rw [encR_size] at this
      rw [if_pos rfl, hk, encR_size, if_pos this]
    · rw [if_neg e]; exact hj i (fun x => e x.symm)
  rw [heap_setCell_same _ _ _ _ _ _ h, e]
theorem IsR.sl (h : IsR g f c p q r o w) (k : Nat) (v : Int) (hk : k < 136) : IsR g (upd f k v) c p q r o (w.setCell ⟨g, k, none⟩ (.int .i64 v)) :=
  h.set _ _ _ _ _ _ k _ (by rw [encR_get, if_pos hk]; simp [upd]) (fun j hj => by
    rw [encR_get, encR_get]
    have : upd f k v j = f j := by unfold upd; rw [if_neg hj]
    rw [this])
theorem IsR.sc (h : IsR g f c p q r o w) (v : Int) : IsR g f v p q r o (w.setCell ⟨g, 136, none⟩ (.int .i64 v)) :=
  h.set _ _ _ _ _ _ 136 _ (by rw [encR_get]; rfl) (fun j hj => by rw [encR_get, encR_get, if_neg hj, if_neg hj])
theorem IsR.sp (h : IsR g f c p q r o w) (v : Bool) : IsR g f c v q r o (w.setCell ⟨g, 137, none⟩ (.bool v)) :=
  h.set _ _ _ _ _ _ 137 _ (by rw [encR_get]; rfl) (fun j hj => by rw [encR_get, encR_get]; simp [hj])
theorem IsR.sq (h : IsR g f c p q r o w) (v : Bool) : IsR g f c p v r o (w.setCell ⟨g, 138, none⟩ (.bool v)) :=
  h.set _ _ _ _ _ _ 138 _ (by rw [encR_get]; rfl) (fun j hj => by rw [encR_get, encR_get]; simp [hj])
theorem IsR.sr (h : IsR g f c p q r o w) (v : Bool) : IsR g f c p q v o (w.setCell ⟨g, 139, none⟩ (.bool v)) :=
  h.set _ _ _ _ _ _ 139 _ (by rw [encR_get]; rfl) (fun j hj => by rw [encR_get, encR_get]; simp [hj])
theorem IsR.so (h : IsR g f c p q r o w) (v : Bool) : IsR g f c p q r v (w.setCell ⟨g, 140, none⟩ (.bool v)) :=
  h.set _ _ _ _ _ _ 140 _ (by rw [encR_get]; rfl) (fun j hj => by rw [encR_get, encR_get]; simp [hj])
end
/-- limbs within a bound -/
def Lim (f : Nat → Int) (B : Int) : Prop := ∀ i, -B ≤ f i ∧ f i ≤ B
/-- what one half does to two limbs -/
theorem half_val (f : Nat → Int) (k n : Nat) (h : Nat) (s : Int) (hk : k + 1 < 136) (B : Int) (hf : Lim f B) (hh : h < 4294967296) (hn : n < 32) (hs : s = 1 ∨ s = -1) :
    valN (upd (upd f k (f k + s * ((h * 2 ^ n % 4294967296 : Nat) : Int))) (k + 1) (f (k + 1) + s * ((h * 2 ^ n / 4294967296 : Nat) : Int))) 136 = valN f 136 + s * ((h * 2 ^ (32 * k + n) : Nat) : Int) ∧
    Lim (upd (upd f k (f k + s * ((h * 2 ^ n % 4294967296 : Nat) : Int))) (k + 1) (f (k + 1) + s * ((h * 2 ^ n / 4294967296 : Nat) : Int))) (B + 4294967296) ∧ h * 2 ^ n < 18446744073709551616 := by
  have hp : 2 ^ n ≤ 2147483648 := by
    have : 2 ^ n ≤ 2 ^ 31 := Nat.pow_le_pow_right (by decide) (by omega)
    have e : (2 : Nat) ^ 31 = 2147483648 := by decide
    omega
  have hlt : h * 2 ^ n < 18446744073709551616 := by
    have : h * 2 ^ n ≤ h * 2147483648 := Nat.mul_le_mul_left h hp
    omega
  obtain ⟨W, hW⟩ : ∃ W, h * 2 ^ n = W := ⟨_, rfl⟩
  refine ⟨?_, ?_, hlt⟩
  · have e : h * 2 ^ (32 * k + n) = W * 2 ^ (32 * k) := by rw [Nat.pow_add, ← hW, Nat.mul_assoc, Nat.mul_comm (2 ^ (32 * k))]
    rw [hW, e, valN_upd, valN_upd, if_pos (by omega), if_pos (by omega)]
    have u : upd f k (f k + s * ((W % 4294967296 : Nat) : Int)) (k + 1) = f (k + 1) := by unfold upd; rw [if_neg (by omega)]
    rw [u, p32_succ]
    have hd : ((W : Nat) : Int) = ((W % 4294967296 : Nat) : Int) + ((W / 4294967296 : Nat) : Int) * 4294967296 := by omega
    rw [Int.natCast_mul, hd]
    generalize ((W % 4294967296 : Nat) : Int) = a
    generalize ((W / 4294967296 : Nat) : Int) = b
    generalize ((2 ^ (32 * k) : Nat) : Int) = P
    have e1 : f k + s * a - f k = s * a := by omega
    have e2 : f (k + 1) + s * b - f (k + 1) = s * b := by omega
    rw [e1, e2, Int.add_mul, Int.mul_add, Int.mul_assoc s a P]
    have e3 : s * b * (P * 4294967296) = s * (b * 4294967296 * P) := by
      rw [Int.mul_assoc s b, Int.mul_comm P, ← Int.mul_assoc b]
    rw [e3]; omega
  · rw [hW] at hlt ⊢
    intro i
    have h1 := hf i
    have h2 := hf k
    have h3 := hf (k + 1)
    unfold upd
    rcases hs with rfl | rfl
    · split
      · omega
      · split <;> omega
    · split
      · omega
      · split <;> omega
end Go.Proofs.Ytgbnabpbheebjaa
