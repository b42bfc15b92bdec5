/-
  New, AddProduct, Add, Count: what they return, and what becomes of the sum.
-/
import Derived.Test.YtgbnabpbheebjaaGg
import Derived.Test.YtgbnabpbheebjaaGh
import Derived.Test.YtgbnabpbheebjaaGi
namespace Go.Proofs.Ytgbnabpbheebjaa
open Go.RowKit Tf
attribute [local go_sem] run_bits run_from raw_feq raw_fne raw_flt raw_fgt run_neg

/-- of the blocks that were there none but one is changed -/
structure But (g : Nat) (w w' : World) : Prop where
  os : w'.os = w.os
  tape : w'.tape = w.tape
  output : w'.output = w.output
  size : w.heap.size ≤ w'.heap.size
  block : ∀ k, k ≠ g → k < w.heap.size → w'.heap[k]? = w.heap[k]?
theorem But.refl (g : Nat) (w : World) : But g w w := ⟨rfl, rfl, rfl, Nat.le_refl _, fun _ _ _ => rfl⟩
theorem But.trans {g : Nat} {a b c : World} (h : But g a b) (k : But g b c) : But g a c :=
  ⟨k.os.trans h.os, k.tape.trans h.tape, k.output.trans h.output, Nat.le_trans h.size k.size, fun j hj hl => (k.block j hj (Nat.lt_of_lt_of_le hl h.size)).trans (h.block j hj hl)⟩
theorem Only.but {g : Nat} {a b : World} (h : Only g a b) : But g a b := ⟨h.os, h.tape, h.output, by rw [h.size]; exact Nat.le_refl _, fun k hk _ => h.block k hk⟩
theorem But.alloc {g : Nat} {a b : World} (h : But g a b) (o : Obj) : But g a (b.alloc o) :=
  ⟨h.os, h.tape, h.output, by have := h.size; simp; omega, fun k hk hl => by rw [Below.heap_alloc _ _ _ (Nat.lt_of_lt_of_le hl h.size)]; exact h.block k hk hl⟩
theorem But.drew {g : Nat} {a b : World} (h : But g a b) : But g a b.drew := ⟨h.os, h.tape, h.output, h.size, h.block⟩
theorem But.below {g B : Nat} {a b : World} (h : But g a b) (hg : B ≤ g) (hB : B ≤ a.heap.size) : Below B a b := ⟨h.os, h.tape, h.output, h.size, fun k hk => h.block k (by omega) (by omega)⟩
theorem but_of_below {g B : Nat} {a b : World} (h : Below B a b) (hB : a.heap.size ≤ B) : But g a b := ⟨h.os, h.tape, h.output, h.size, fun k _ hl => h.block k (by omega)⟩

theorem one_mg : mg 4607182418800017408 = 4607182418800017408 := by decide
theorem class_facts (x : Nat) : (isN x = true ∧ classB x = 4 ∧ infB x = false ∧ zeroB x = false) ∨ (mg x = 9218868437227405312 ∧ isN x = false ∧ classB x = 3 ∧ infB x = true ∧ zeroB x = false) ∨ (mg x = 0 ∧ isN x = false ∧ classB x = 0 ∧ infB x = false ∧ zeroB x = true) ∨ (0 < mg x ∧ mg x < 9218868437227405312 ∧ isN x = false ∧ 0 < classB x ∧ classB x < 3 ∧ infB x = false ∧ zeroB x = false) := by
  unfold isN infB zeroB classB
  by_cases h0 : mg x = 0
  · right; right; left; simp [h0]
  · by_cases h1 : mg x < 9218868437227405312
    · right; right; right
      have : ¬ 9218868437227405312 < mg x := by omega
      have : ¬ mg x = 9218868437227405312 := by omega
      rw [if_neg h0]
      by_cases h2 : mg x < 4503599627370496
      · rw [if_pos h2]; simp [*]; omega
      · rw [if_neg h2, if_pos h1]; simp [*]; omega
    · by_cases h2 : mg x = 9218868437227405312
      · right; left; rw [if_neg h0, if_neg (by omega), if_neg h1, if_pos h2]; simp [h2]
      · left; rw [if_neg h0, if_neg (by omega), if_neg h1, if_neg h2]; simp [h0, h2]; omega

theorem IsAcc.but {g h : Nat} {S : AS} {w w' : World} (a : IsAcc g S w) (b : But h w w') (hne : g ≠ h) : IsAcc g S w' := by
  unfold IsAcc
  rw [b.block g hne (row_lt a)]; exact a
theorem bne_eq (a b : Bool) : (!(a == b)) = (a != b) := rfl

theorem sv_mul_abs (x y : Nat) : sv x * sv y = if ng x != ng y then -((mv (mg x) * mv (mg y) : Nat) : Int) else ((mv (mg x) * mv (mg y) : Nat) : Int) := by
  unfold sv
  cases ng x <;> cases ng y <;> simp [Int.neg_mul, Int.mul_neg, Int.neg_neg]

/-- A PRODUCT, ONE NUMBER MORE -/
theorem addp_at (g x y : Nat) (S : AS) (w : World) (hx : x < 18446744073709551616) (hy : y < 18446744073709551616) (h : IsAcc g S w) (c0 : 0 ≤ S.c) (c1 : S.c < 1048576) (n0 : 0 ≤ S.n) (n1 : S.n ≤ S.c) :
    Calls Try.prog 14 #[.pointer (some ⟨g, 0, none⟩), .float .f64 x, .float .f64 y] w fun e w' => e = .returned (.int .i64 0) ∧ (Hid (IsAcc g (stepP S x y) w') ∧ Hid (But g w w')) := by
  have C1 : Hid (∀ w, Calls Try.prog 30 #[.float .f64 x] w fun r w' => r = .returned (.int .i64 (classB x)) ∧ w' = w) := fun w => class_any x w hx
  have C2 : Hid (∀ w, Calls Try.prog 30 #[.float .f64 y] w fun r w' => r = .returned (.int .i64 (classB y)) ∧ w' = w) := fun w => class_any y w hy
  have S1 : Hid (∀ w, Calls Try.prog 31 #[.float .f64 x] w fun r w' => r = .returned (.bool (ng x)) ∧ w' = w) := fun w => signbit_any x w hx
  have S2 : Hid (∀ w, Calls Try.prog 31 #[.float .f64 y] w fun r w' => r = .returned (.bool (ng y)) ∧ w' = w) := fun w => signbit_any y w hy
  have b0 : But g w (w.setCell ⟨g, 0, none⟩ (.int .i64 (S.c + 1))) := (only_set _ _ _ _).but
  have bk : ∀ k v, But g w ((w.setCell ⟨g, 0, none⟩ (.int .i64 (S.c + 1))).setCell ⟨g, k, none⟩ v) := fun k v => b0.trans (only_set _ _ _ _).but
  have a0 := h.s0 (S.c + 1)
  rcases class_facts x with ⟨k1, k2, k3, k4⟩ | ⟨k0, k1, k2, k3, k4⟩ | ⟨k0, k1, k2, k3, k4⟩ | ⟨k0, k00, k1, k2, k22, k3, k4⟩ <;>
  rcases class_facts y with ⟨l1, l2, l3, l4⟩ | ⟨l0, l1, l2, l3, l4⟩ | ⟨l0, l1, l2, l3, l4⟩ | ⟨l0, l00, l1, l2, l22, l3, l4⟩ <;>
  have hst : stepP S x y = stepP S x y := rfl <;>
  (conv at hst => rhs; unfold stepP; simp only [k1, k3, k4, l1, l3, l4, Bool.or_false, Bool.false_or, Bool.and_false, Bool.false_and, Bool.or_true, Bool.true_or, Bool.and_true, Bool.true_and, Bool.false_eq_true, if_true, if_false]) <;>
  rw [hst]
  -- x a NaN
  · rw [k2] at C1; rw [l2] at C2
    exact pn3 g x y S.c _ _ w _ h.c0 (h.fr _) c0 c1 _ h.c70 (h.fr _) C1 C2 S1 S2 ⟨a0.s70 true, bk _ _⟩
  · rw [k2] at C1; rw [l2] at C2
    exact pn2 g x y S.c _ _ _ w _ h.c0 (h.fr _) c0 c1 _ h.c70 (h.fr _) (by decide) (by decide) C1 C2 S1 S2 ⟨a0.s70 true, bk _ _⟩
  · rw [k2] at C1; rw [l2] at C2
    exact pn2 g x y S.c _ _ _ w _ h.c0 (h.fr _) c0 c1 _ h.c70 (h.fr _) (by decide) (by decide) C1 C2 S1 S2 ⟨a0.s70 true, bk _ _⟩
  · rw [k2] at C1
    exact pn2 g x y S.c _ _ _ w _ h.c0 (h.fr _) c0 c1 _ h.c70 (h.fr _) (by omega) (by omega) C1 C2 S1 S2 ⟨a0.s70 true, bk _ _⟩
  -- x infinite
  · rw [k2] at C1; rw [l2] at C2
    exact pn1 g x y S.c _ _ _ w _ h.c0 (h.fr _) c0 c1 _ h.c70 (h.fr _) (by decide) (by decide) C1 C2 S1 S2 ⟨a0.s70 true, bk _ _⟩
  · rw [k2] at C1; rw [l2] at C2
    cases hz : ng x != ng y
    · rw [if_neg (by decide)]
      exact pp3 g x y S.c _ _ w _ h.c0 (h.fr _) c0 c1 _ h.c68 (h.fr _) hz C1 C2 S1 S2 ⟨a0.s68 true, bk _ _⟩
    · rw [if_pos rfl]
      exact pm3 g x y S.c _ _ w _ h.c0 (h.fr _) c0 c1 _ h.c69 (h.fr _) hz C1 C2 S1 S2 ⟨a0.s69 true, bk _ _⟩
  · rw [k2] at C1; rw [l2] at C2
    exact pn5 g x y S.c _ _ w _ h.c0 (h.fr _) c0 c1 _ h.c70 (h.fr _) C1 C2 S1 S2 ⟨a0.s70 true, bk _ _⟩
  · rw [k2] at C1
    cases hz : ng x != ng y
    · rw [if_neg (by decide)]
      exact pp2 g x y S.c _ _ _ w _ h.c0 (h.fr _) c0 c1 _ h.c68 (h.fr _) (by omega) (by omega) hz C1 C2 S1 S2 ⟨a0.s68 true, bk _ _⟩
    · rw [if_pos rfl]
      exact pm2 g x y S.c _ _ _ w _ h.c0 (h.fr _) c0 c1 _ h.c69 (h.fr _) (by omega) (by omega) hz C1 C2 S1 S2 ⟨a0.s69 true, bk _ _⟩
  -- x a nought
  · rw [k2] at C1; rw [l2] at C2
    exact pn1 g x y S.c _ _ _ w _ h.c0 (h.fr _) c0 c1 _ h.c70 (h.fr _) (by decide) (by decide) C1 C2 S1 S2 ⟨a0.s70 true, bk _ _⟩
  · rw [k2] at C1; rw [l2] at C2
    exact pn4 g x y S.c _ _ w _ h.c0 (h.fr _) c0 c1 _ h.c70 (h.fr _) C1 C2 S1 S2 ⟨a0.s70 true, bk _ _⟩
  · rw [k2] at C1; rw [l2] at C2
    cases hz : ng x != ng y
    · rw [if_neg (by decide)]
      exact zp3 g x y S.c _ _ w _ h.c0 (h.fr _) c0 c1 hz C1 C2 S1 S2 ⟨a0, b0⟩
    · rw [if_pos rfl]
      exact zm3 g x y S.c _ _ _ w _ h.c0 (h.fr _) c0 c1 h.c1 (h.fr _) n0 (by omega) hz C1 C2 S1 S2 ⟨a0.s1 _, bk _ _⟩
  · rw [k2] at C1
    cases hz : ng x != ng y
    · rw [if_neg (by decide)]
      exact zp2 g x y S.c _ _ _ w _ h.c0 (h.fr _) c0 c1 (by omega) (by omega) hz C1 C2 S1 S2 ⟨a0, b0⟩
    · rw [if_pos rfl]
      exact zm2 g x y S.c _ _ _ _ w _ h.c0 (h.fr _) c0 c1 h.c1 (h.fr _) n0 (by omega) (by omega) (by omega) hz C1 C2 S1 S2 ⟨a0.s1 _, bk _ _⟩
  -- x finite
  · rw [l2] at C2
    exact pn1 g x y S.c _ _ _ w _ h.c0 (h.fr _) c0 c1 _ h.c70 (h.fr _) (by omega) (by omega) C1 C2 S1 S2 ⟨a0.s70 true, bk _ _⟩
  · rw [l2] at C2
    cases hz : ng x != ng y
    · rw [if_neg (by decide)]
      exact pp1 g x y S.c _ _ _ w _ h.c0 (h.fr _) c0 c1 _ h.c68 (h.fr _) (by omega) (by omega) hz C1 C2 S1 S2 ⟨a0.s68 true, bk _ _⟩
    · rw [if_pos rfl]
      exact pm1 g x y S.c _ _ _ w _ h.c0 (h.fr _) c0 c1 _ h.c69 (h.fr _) (by omega) (by omega) hz C1 C2 S1 S2 ⟨a0.s69 true, bk _ _⟩
  · rw [l2] at C2
    cases hz : ng x != ng y
    · rw [if_neg (by decide)]
      exact zp1 g x y S.c _ _ _ w _ h.c0 (h.fr _) c0 c1 (by omega) (by omega) hz C1 C2 S1 S2 ⟨a0, b0⟩
    · rw [if_pos rfl]
      exact zm1 g x y S.c _ _ _ _ w _ h.c0 (h.fr _) c0 c1 h.c1 (h.fr _) n0 (by omega) (by omega) (by omega) hz C1 C2 S1 S2 ⟨a0.s1 _, bk _ _⟩
  · have F : Hid (Calls Try.prog 32 #[.pointer (some ⟨g, 2, none⟩), .float .f64 x, .float .f64 y, .bool (!(ng x == ng y))] (w.setCell ⟨g, 0, none⟩ (.int .i64 (S.c + 1))) fun e w' => e = .returned (.tuple #[]) ∧ (Hid (IsAcc g { S with c := S.c + 1, V := S.V + sv x * sv y } w') ∧ Hid (But g w w'))) := by
      refine (fprod_at g 2 x y 56 (baseC (S.c + 1) S.n S.p S.q S.r) _ S.V _ hx hy k00 l00 a0 (by rw [baseC_size]; omega)).mono ?_
      rintro e w' ⟨h1, h2, c, h3⟩
      refine ⟨h1, ?_, ?_⟩
      · have hv : S.V + sv x * sv y = if (!(ng x == ng y)) = true then S.V - ((mv (mg x) * mv (mg y) : Nat) : Int) else S.V + ((mv (mg x) * mv (mg y) : Nat) : Int) := by
          rw [sv_mul_abs, bne_eq]
          cases ng x != ng y
          · rfl
          · rw [if_pos rfl, if_pos rfl]; omega
        show w'.heap[g]? = some (.cells (encA _) _)
        unfold encA
        simp only
        rw [hv]
        exact h2.out
      · exact (b0.alloc c).trans h3.but
    by_cases q1 : classB x < classB y
    · exact pf1 g x y S.c _ _ _ _ w _ h.c0 (h.fr _) c0 c1 k2 k22 l2 l22 q1 C1 C2 S1 S2 F
    · by_cases q2 : classB y < classB x
      · exact pf2 g x y S.c _ _ _ _ w _ h.c0 (h.fr _) c0 c1 k2 k22 l2 l22 q2 C1 C2 S1 S2 F
      · have q3 : classB y = classB x := by omega
        rw [q3] at C2
        exact pf3 g x y S.c _ _ _ w _ h.c0 (h.fr _) c0 c1 k2 k22 C1 C2 S1 S2 F
end Go.Proofs.Ytgbnabpbheebjaa
