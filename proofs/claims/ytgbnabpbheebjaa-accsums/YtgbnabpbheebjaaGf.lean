/-
  A sum's block: its cells; New, AddProduct, Add, Count: walks over the program.
-/
import Derived.Test.YtgbnabpbheebjaaGe
namespace Go.Proofs.Ytgbnabpbheebjaa
open Go.RowKit Tf
attribute [local go_sem] run_bits run_from raw_feq raw_fne raw_flt raw_fgt run_neg

/-- a sum: how many numbers, how many of them -0, the exact sum in units of 2^-2148, infinities above and below, NaNs -/
structure AS where
  c : Int
  n : Int
  V : Int
  p : Bool
  q : Bool
  r : Bool
def baseC (c n : Int) (p q r : Bool) : Array Value := Array.ofFn (n := 71) fun k => if k.val = 0 then .int .i64 c else if k.val = 1 then .int .i64 n else if k.val = 68 then .bool p else if k.val = 69 then .bool q else if k.val = 70 then .bool r else .int .u64 0
theorem baseC_size (c n : Int) (p q r : Bool) : (baseC c n p q r).size = 71 := by simp [baseC]
def encA (S : AS) : Array Value := enW (baseC S.c S.n S.p S.q S.r) 2 (dg S.V)
def IsAcc (g : Nat) (S : AS) (w : World) : Prop := w.heap[g]? = some (.cells (encA S) 56)
theorem encA_get (S : AS) (k : Nat) : (encA S)[k]? = if k = 0 then some (.int .i64 S.c) else if k = 1 then some (.int .i64 S.n) else if k < 68 then some (.int .u64 (dg S.V (k - 2))) else if k = 68 then some (.bool S.p) else if k = 69 then some (.bool S.q) else if k = 70 then some (.bool S.r) else none := by
  unfold encA
  by_cases h : k < 2 ∨ 2 + 66 ≤ k
  · rw [enW_out _ _ _ _ h]
    by_cases h0 : k = 0
    · subst h0; simp [baseC]
    by_cases h1 : k = 1
    · subst h1; simp [baseC]
    by_cases h2 : k = 68
    · subst h2; simp [baseC]
    by_cases h3 : k = 69
    · subst h3; simp [baseC]
    by_cases h4 : k = 70
    · subst h4; simp [baseC]
    have h5 : ¬ k < 71 := by omega
    have h6 : ¬ k < 68 := by omega
    simp [baseC, h0, h1, h2, h3, h4, h5, h6]
  · obtain ⟨d, rfl⟩ : ∃ d, k = 2 + d := ⟨k - 2, by omega⟩
    rw [enW_get _ _ _ _ (by omega) (by rw [baseC_size]; omega)]
    have h1 : ¬ 2 + d = 0 := by omega
    have h2 : ¬ 2 + d = 1 := by omega
    have h3 : 2 + d < 68 := by omega
    have h4 : 2 + d - 2 = d := by omega
    rw [if_neg h1, if_neg h2, if_pos h3, h4]
theorem IsAcc.cell {g : Nat} {S : AS} {w : World} (h : IsAcc g S w) (k : Nat) : w.cell? ⟨g, k, none⟩ = (encA S)[k]? := cell_of_row _ _ _ _ _ _ h
theorem IsAcc.c0 {g : Nat} {S : AS} {w : World} (h : IsAcc g S w) : w.cell? ⟨g, 0, none⟩ = some (.int .i64 S.c) := by rw [h.cell, encA_get]; rfl
theorem IsAcc.c1 {g : Nat} {S : AS} {w : World} (h : IsAcc g S w) : w.cell? ⟨g, 1, none⟩ = some (.int .i64 S.n) := by rw [h.cell, encA_get]; rfl
theorem IsAcc.c68 {g : Nat} {S : AS} {w : World} (h : IsAcc g S w) : w.cell? ⟨g, 68, none⟩ = some (.bool S.p) := by rw [h.cell, encA_get]; rfl
theorem IsAcc.c69 {g : Nat} {S : AS} {w : World} (h : IsAcc g S w) : w.cell? ⟨g, 69, none⟩ = some (.bool S.q) := by rw [h.cell, encA_get]; rfl
theorem IsAcc.c70 {g : Nat} {S : AS} {w : World} (h : IsAcc g S w) : w.cell? ⟨g, 70, none⟩ = some (.bool S.r) := by rw [h.cell, encA_get]; rfl
theorem IsAcc.fr {g : Nat} {S : AS} {w : World} (h : IsAcc g S w) (k : Nat) : w.frozen? ⟨g, k, none⟩ = false := frozen_of_row _ _ _ _ _ h
theorem encA_set (S S' : AS) (k : Nat) (v : Value) (hk : (encA S')[k]? = some v) (h : ∀ j, j ≠ k → (encA S)[j]? = (encA S')[j]?) : (encA S).setIfInBounds k v = encA S' := by
  apply Array.ext_getElem?
  intro i
  rw [Array.getElem?_setIfInBounds]
  by_cases e : k = i
  · subst e
    rw [if_pos rfl, hk]
    have hs : (encA S).size = (encA S').size := by unfold encA; rw [enW_size, enW_size, baseC_size, baseC_size]
    have : k < (encA S').size := (Array.getElem?_eq_some_iff.1 hk).1
    rw [if_pos (by omega)]
  · rw [if_neg e]; exact h i (fun x => e x.symm)
theorem IsAcc.set {g : Nat} {S : AS} {w : World} (h : IsAcc g S w) (S' : AS) (k : Nat) (v : Value) (hk : (encA S')[k]? = some v) (hj : ∀ j, j ≠ k → (encA S)[j]? = (encA S')[j]?) : IsAcc g S' (w.setCell ⟨g, k, none⟩ v) := by
  unfold IsAcc
  rw [heap_setCell_same _ _ _ _ _ _ h, encA_set S S' k v hk hj]
theorem IsAcc.s0 {g : Nat} {S : AS} {w : World} (h : IsAcc g S w) (c : Int) : IsAcc g { S with c := c } (w.setCell ⟨g, 0, none⟩ (.int .i64 c)) :=
  h.set _ 0 _ (by rw [encA_get]; rfl) (fun j hj => by rw [encA_get, encA_get]; simp [hj])
theorem IsAcc.s1 {g : Nat} {S : AS} {w : World} (h : IsAcc g S w) (c : Int) : IsAcc g { S with n := c } (w.setCell ⟨g, 1, none⟩ (.int .i64 c)) :=
  h.set _ 1 _ (by rw [encA_get]; rfl) (fun j hj => by rw [encA_get, encA_get]; simp [hj])
theorem IsAcc.s68 {g : Nat} {S : AS} {w : World} (h : IsAcc g S w) (c : Bool) : IsAcc g { S with p := c } (w.setCell ⟨g, 68, none⟩ (.bool c)) :=
  h.set _ 68 _ (by rw [encA_get]; rfl) (fun j hj => by rw [encA_get, encA_get]; simp [hj])
theorem IsAcc.s69 {g : Nat} {S : AS} {w : World} (h : IsAcc g S w) (c : Bool) : IsAcc g { S with q := c } (w.setCell ⟨g, 69, none⟩ (.bool c)) :=
  h.set _ 69 _ (by rw [encA_get]; rfl) (fun j hj => by rw [encA_get, encA_get]; simp [hj])
theorem IsAcc.s70 {g : Nat} {S : AS} {w : World} (h : IsAcc g S w) (c : Bool) : IsAcc g { S with r := c } (w.setCell ⟨g, 70, none⟩ (.bool c)) :=
  h.set _ 70 _ (by rw [encA_get]; rfl) (fun j hj => by rw [encA_get, encA_get]; simp [hj])


/-- what a product, one number more, makes of a sum -/
def infB (x : Nat) : Bool := decide (mg x = 9218868437227405312)
def zeroB (x : Nat) : Bool := decide (mg x = 0)
def stepP (S : AS) (x y : Nat) : AS :=
  if isN x || isN y || (infB x && zeroB y) || (zeroB x && infB y) then { S with c := S.c + 1, r := true }
  else if infB x || infB y then (if ng x != ng y then { S with c := S.c + 1, q := true } else { S with c := S.c + 1, p := true })
  else if zeroB x || zeroB y then (if ng x != ng y then { S with c := S.c + 1, n := S.n + 1 } else { S with c := S.c + 1 })
  else { S with c := S.c + 1, V := S.V + sv x * sv y }
end Go.Proofs.Ytgbnabpbheebjaa
