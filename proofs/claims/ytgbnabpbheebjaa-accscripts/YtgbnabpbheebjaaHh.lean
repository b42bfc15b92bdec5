/-
  Two sums and two of the reference's, side by side, and what each call makes of them.
-/
import Derived.Test.YtgbnabpbheebjaaRp
import Derived.Test.YtgbnabpbheebjaaRh
import Derived.Test.YtgbnabpbheebjaaGx
namespace Go.Proofs.Ytgbnabpbheebjaa
open Go.RowKit Tf

/-- the blocks: two sums, their list, two of the reference's, their list -/
structure Bk where
  a0 : Nat
  a1 : Nat
  la : Nat
  r0 : Nat
  r1 : Nat
  lb : Nat
def pt (g : Nat) : Value := .pointer (some ⟨g, 0, none⟩)
def pa (b : Bk) (k : Nat) : Value := if k = 0 then pt b.a0 else if k = 1 then pt b.a1 else .pointer none
def pb (b : Bk) (k : Nat) : Value := if k = 0 then pt b.r0 else if k = 1 then pt b.r1 else .pointer none
def up (T : Nat → AS) (k : Nat) (S : AS) : Nat → AS := fun j => if j = k then S else T j
structure Rel (w0 v : World) (b : Bk) (T U : Nat → AS) (w : World) : Prop where
  kp : v.heap.size ≤ w.heap.size ∧ ∀ k, b.lb < k → k < v.heap.size → w.heap[k]? = v.heap[k]?
  bel : Below w0.heap.size w0 w
  d : w0.heap.size ≤ b.a0 ∧ b.a0 < b.a1 ∧ b.a1 < b.la ∧ b.la < b.r0 ∧ b.r0 < b.r1 ∧ b.r1 < b.lb ∧ b.lb < w.heap.size
  ia0 : IsAcc b.a0 (T 0) w
  ia1 : IsAcc b.a1 (T 1) w
  ir0 : IsRef b.r0 (U 0) w
  ir1 : IsRef b.r1 (U 1) w
  la : w.heap[b.la]? = some (.cells #[pt b.a0, pt b.a1, .pointer none] 24)
  lb : w.heap[b.lb]? = some (.cells #[pt b.r0, pt b.r1, .pointer none] 27)
  gT : ∀ k, Good (T k)
  gU : ∀ k, Good (U k)
  zT : ∀ k, (T k).c = 0 → T k = S0
  zU : ∀ k, (U k).c = 0 → U k = S0
theorem IsRef.of_block {g : Nat} {S : AS} {w w' : World} (h : IsRef g S w) (hb : w'.heap[g]? = w.heap[g]?) : IsRef g S w' := by
  obtain ⟨f, h1, h2, h3⟩ := h
  exact ⟨f, by unfold IsR at h1 ⊢; rw [hb]; exact h1, h2, h3⟩
theorem IsAcc.of_block {g : Nat} {S : AS} {w w' : World} (h : IsAcc g S w) (hb : w'.heap[g]? = w.heap[g]?) : IsAcc g S w' := by
  unfold IsAcc at h ⊢; rw [hb]; exact h
theorem Rel.below {w0 v : World} {b : Bk} {T U : Nat → AS} {w w' : World} (h : Rel w0 v b T U w) (hb : Below w.heap.size w w') : Rel w0 v b T U w' := by
  obtain ⟨d0, d1, d2, d3, d4, d5, d6⟩ := h.d
  have hs := hb.size
  exact ⟨⟨Nat.le_trans h.kp.1 hs, fun k h1 h2 => (hb.block k (Nat.lt_of_lt_of_le h2 h.kp.1)).trans (h.kp.2 k h1 h2)⟩, h.bel.trans (hb.mono h.bel.size), ⟨d0, d1, d2, d3, d4, d5, by omega⟩, h.ia0.of_block (hb.block _ (by omega)), h.ia1.of_block (hb.block _ (by omega)), h.ir0.of_block (hb.block _ (by omega)), h.ir1.of_block (hb.block _ (by omega)), by rw [hb.block _ (by omega)]; exact h.la, by rw [hb.block _ (by omega)]; exact h.lb, h.gT, h.gU, h.zT, h.zU⟩
theorem Rel.base {w0 v : World} {b : Bk} {T U : Nat → AS} {w : World} (h : Rel w0 v b T U w) : Rel w0 w b T U w := ⟨⟨Nat.le_refl _, fun _ _ _ => rfl⟩, h.bel, h.d, h.ia0, h.ia1, h.ir0, h.ir1, h.la, h.lb, h.gT, h.gU, h.zT, h.zU⟩
theorem Rel.ca {w0 v : World} {b : Bk} {T U : Nat → AS} {w : World} (h : Rel w0 v b T U w) (k : Nat) (hk : k < 3) : w.cell? ⟨b.la, k, none⟩ = some (pa b k) := by
  rw [cell_of_row _ _ _ _ _ _ h.la]
  rcases (show k = 0 ∨ k = 1 ∨ k = 2 by omega) with rfl | rfl | rfl <;> rfl
theorem Rel.cb {w0 v : World} {b : Bk} {T U : Nat → AS} {w : World} (h : Rel w0 v b T U w) (k : Nat) (hk : k < 3) : w.cell? ⟨b.lb, k, none⟩ = some (pb b k) := by
  rw [cell_of_row _ _ _ _ _ _ h.lb]
  rcases (show k = 0 ∨ k = 1 ∨ k = 2 by omega) with rfl | rfl | rfl <;> rfl
theorem Rel.co {w0 v : World} {b : Bk} {T U : Nat → AS} {w : World} (h : Rel w0 v b T U w) (g k : Nat) (h1 : b.lb < g) (h2 : g < v.heap.size) : w.cell? ⟨g, k, none⟩ = v.cell? ⟨g, k, none⟩ := World.cell?_of_block (h.kp.2 g h1 h2)
theorem up_good {T : Nat → AS} {k : Nat} {S : AS} (h : ∀ k, Good (T k)) (hS : Good S) : ∀ j, Good (up T k S j) := by
  intro j; unfold up; split
  · exact hS
  · exact h j
theorem up_zero {T : Nat → AS} {k : Nat} {S : AS} (h : ∀ k, (T k).c = 0 → T k = S0) (hS : S.c = 0 → S = S0) : ∀ j, (up T k S j).c = 0 → up T k S j = S0 := by
  intro j; unfold up; split
  · exact hS
  · exact h j
theorem up_0 (T : Nat → AS) (S : AS) : up T 0 S 0 = S ∧ up T 0 S 1 = T 1 := ⟨rfl, rfl⟩
theorem up_1 (T : Nat → AS) (S : AS) : up T 1 S 0 = T 0 ∧ up T 1 S 1 = S := ⟨rfl, rfl⟩
theorem Rel.setA0 {w0 v : World} {b : Bk} {T U : Nat → AS} {w w' : World} (h : Rel w0 v b T U w) {S : AS} (hb : But b.a0 w w') (hi : IsAcc b.a0 S w') (hg : Good S) (hz : S.c = 0 → S = S0) : Rel w0 v b (up T 0 S) U w' := by
  obtain ⟨d0, d1, d2, d3, d4, d5, d6⟩ := h.d
  have hs := hb.size
  exact ⟨⟨Nat.le_trans h.kp.1 hs, fun k h1 h2 => (hb.block k (by omega) (Nat.lt_of_lt_of_le h2 h.kp.1)).trans (h.kp.2 k h1 h2)⟩, h.bel.trans (hb.below (by omega) h.bel.size), ⟨d0, d1, d2, d3, d4, d5, by omega⟩, hi, h.ia1.of_block (hb.block _ (by omega) (by omega)), h.ir0.of_block (hb.block _ (by omega) (by omega)), h.ir1.of_block (hb.block _ (by omega) (by omega)), by rw [hb.block _ (by omega) (by omega)]; exact h.la, by rw [hb.block _ (by omega) (by omega)]; exact h.lb, up_good h.gT hg, h.gU, up_zero h.zT hz, h.zU⟩
theorem Rel.setA1 {w0 v : World} {b : Bk} {T U : Nat → AS} {w w' : World} (h : Rel w0 v b T U w) {S : AS} (hb : But b.a1 w w') (hi : IsAcc b.a1 S w') (hg : Good S) (hz : S.c = 0 → S = S0) : Rel w0 v b (up T 1 S) U w' := by
  obtain ⟨d0, d1, d2, d3, d4, d5, d6⟩ := h.d
  have hs := hb.size
  exact ⟨⟨Nat.le_trans h.kp.1 hs, fun k h1 h2 => (hb.block k (by omega) (Nat.lt_of_lt_of_le h2 h.kp.1)).trans (h.kp.2 k h1 h2)⟩, h.bel.trans (hb.below (by omega) h.bel.size), ⟨d0, d1, d2, d3, d4, d5, by omega⟩, h.ia0.of_block (hb.block _ (by omega) (by omega)), hi, h.ir0.of_block (hb.block _ (by omega) (by omega)), h.ir1.of_block (hb.block _ (by omega) (by omega)), by rw [hb.block _ (by omega) (by omega)]; exact h.la, by rw [hb.block _ (by omega) (by omega)]; exact h.lb, up_good h.gT hg, h.gU, up_zero h.zT hz, h.zU⟩
theorem Rel.setR0 {w0 v : World} {b : Bk} {T U : Nat → AS} {w w' : World} (h : Rel w0 v b T U w) {S : AS} (hb : But b.r0 w w') (hi : IsRef b.r0 S w') (hg : Good S) (hz : S.c = 0 → S = S0) : Rel w0 v b T (up U 0 S) w' := by
  obtain ⟨d0, d1, d2, d3, d4, d5, d6⟩ := h.d
  have hs := hb.size
  exact ⟨⟨Nat.le_trans h.kp.1 hs, fun k h1 h2 => (hb.block k (by omega) (Nat.lt_of_lt_of_le h2 h.kp.1)).trans (h.kp.2 k h1 h2)⟩, h.bel.trans (hb.below (by omega) h.bel.size), ⟨d0, d1, d2, d3, d4, d5, by omega⟩, h.ia0.of_block (hb.block _ (by omega) (by omega)), h.ia1.of_block (hb.block _ (by omega) (by omega)), hi, h.ir1.of_block (hb.block _ (by omega) (by omega)), by rw [hb.block _ (by omega) (by omega)]; exact h.la, by rw [hb.block _ (by omega) (by omega)]; exact h.lb, h.gT, up_good h.gU hg, h.zT, up_zero h.zU hz⟩
theorem Rel.setR1 {w0 v : World} {b : Bk} {T U : Nat → AS} {w w' : World} (h : Rel w0 v b T U w) {S : AS} (hb : But b.r1 w w') (hi : IsRef b.r1 S w') (hg : Good S) (hz : S.c = 0 → S = S0) : Rel w0 v b T (up U 1 S) w' := by
  obtain ⟨d0, d1, d2, d3, d4, d5, d6⟩ := h.d
  have hs := hb.size
  exact ⟨⟨Nat.le_trans h.kp.1 hs, fun k h1 h2 => (hb.block k (by omega) (Nat.lt_of_lt_of_le h2 h.kp.1)).trans (h.kp.2 k h1 h2)⟩, h.bel.trans (hb.below (by omega) h.bel.size), ⟨d0, d1, d2, d3, d4, d5, by omega⟩, h.ia0.of_block (hb.block _ (by omega) (by omega)), h.ia1.of_block (hb.block _ (by omega) (by omega)), h.ir0.of_block (hb.block _ (by omega) (by omega)), hi, by rw [hb.block _ (by omega) (by omega)]; exact h.la, by rw [hb.block _ (by omega) (by omega)]; exact h.lb, h.gT, up_good h.gU hg, h.zT, up_zero h.zU hz⟩
/-- the answer of a call that adds one number, and what it leaves -/
def eOne (T : Nat → AS) (k : Nat) : Int := if k < 2 then (if 1048576 ≤ (T k).c then 3 else 0) else 2
def nOne (st : AS → AS) (T : Nat → AS) (k : Nat) : Nat → AS := if k < 2 then (if 1048576 ≤ (T k).c then T else up T k (st (T k))) else T
def eMer (T : Nat → AS) (k l : Nat) : Int := if k < 2 ∧ l < 2 then (if 1048576 < (T k).c + (T l).c then 3 else 0) else 2
def nMer (T : Nat → AS) (k l : Nat) : Nat → AS := if k < 2 ∧ l < 2 then (if 1048576 < (T k).c + (T l).c then T else up T k (plusS (T k) (T l))) else T
theorem pa2 (b : Bk) {k : Nat} (h : ¬ k < 2) : pa b k = .pointer none := by unfold pa; rw [if_neg (by omega), if_neg (by omega)]
theorem pb2 (b : Bk) {k : Nat} (h : ¬ k < 2) : pb b k = .pointer none := by unfold pb; rw [if_neg (by omega), if_neg (by omega)]
theorem plus_zero {S U : AS} (hS : Good S) (hU : Good U) (h1 : S.c = 0 → S = S0) (h2 : U.c = 0 → U = S0) : (plusS S U).c = 0 → plusS S U = S0 := by
  intro h
  have h' : S.c + U.c = 0 := h
  have a := hS.c0
  have b := hU.c0
  rw [h1 (by omega), h2 (by omega)]; rfl
theorem oneA (f : FuncId) (args : Value → Array Value) (st : AS → AS) (hnil : ∀ w, Calls Try.prog f (args (.pointer none)) w fun e w' => e = .returned (.int .i64 2) ∧ w' = w)
    (hlong : ∀ g c w, w.cell? ⟨g, 0, none⟩ = some (.int .i64 c) → 1048576 ≤ c → Calls Try.prog f (args (pt g)) w fun e w' => e = .returned (.int .i64 3) ∧ w' = w)
    (hok : ∀ g S w, IsAcc g S w → Good S → S.c < 1048576 → Calls Try.prog f (args (pt g)) w fun e w' => e = .returned (.int .i64 0) ∧ (Hid (IsAcc g (st S) w') ∧ Hid (But g w w')))
    (hgood : ∀ S, Good S → S.c < 1048576 → Good (st S)) (hc : ∀ S, (st S).c = S.c + 1) (w0 v : World) (b : Bk) (T U : Nat → AS) (k : Nat) (w : World) (h : Rel w0 v b T U w) :
    Calls Try.prog f (args (pa b k)) w fun e w' => e = .returned (.int .i64 (eOne T k)) ∧ Hid (Rel w0 v b (nOne st T k) U w') := by
  unfold eOne nOne
  by_cases h2 : k < 2
  · rw [if_pos h2, if_pos h2]
    by_cases hl : 1048576 ≤ (T k).c
    · rw [if_pos hl, if_pos hl]
      rcases (show k = 0 ∨ k = 1 by omega) with rfl | rfl
      · exact (hlong b.a0 _ w h.ia0.c0 hl).mono fun e w' ⟨he, hw⟩ => ⟨he, by rw [hw]; exact h⟩
      · exact (hlong b.a1 _ w h.ia1.c0 hl).mono fun e w' ⟨he, hw⟩ => ⟨he, by rw [hw]; exact h⟩
    · rw [if_neg hl, if_neg hl]
      have hz : (st (T k)).c = 0 → st (T k) = S0 := fun e => by
        have := (h.gT k).c0
        rw [hc] at e; omega
      have hg := hgood _ (h.gT k) (by omega)
      rcases (show k = 0 ∨ k = 1 by omega) with rfl | rfl
      · exact (hok b.a0 _ w h.ia0 (h.gT 0) (by omega)).mono fun e w' ⟨he, h1, h2⟩ => ⟨he, h.setA0 h2.out h1.out hg hz⟩
      · exact (hok b.a1 _ w h.ia1 (h.gT 1) (by omega)).mono fun e w' ⟨he, h1, h2⟩ => ⟨he, h.setA1 h2.out h1.out hg hz⟩
  · rw [if_neg h2, if_neg h2, pa2 b h2]
    exact (hnil w).mono fun e w' ⟨he, hw⟩ => ⟨he, by rw [hw]; exact h⟩
theorem merA (w0 v : World) (b : Bk) (T U : Nat → AS) (k l : Nat) (w : World) (h : Rel w0 v b T U w) :
    Calls Try.prog 16 #[pa b k, pa b l] w fun e w' => e = .returned (.int .i64 (eMer T k l)) ∧ Hid (Rel w0 v b (nMer T k l) U w') := by
  unfold eMer nMer
  by_cases h2 : k < 2 ∧ l < 2
  · rw [if_pos h2, if_pos h2]
    by_cases hl : 1048576 < (T k).c + (T l).c
    · rw [if_pos hl, if_pos hl]
      rcases (show k = 0 ∨ k = 1 by omega) with rfl | rfl <;> rcases (show l = 0 ∨ l = 1 by omega) with rfl | rfl
      · exact (merge_long b.a0 b.a0 _ _ w h.ia0.c0 h.ia0.c0 (h.gT 0).c0 (h.gT 0).c1 (h.gT 0).c0 (h.gT 0).c1 hl).mono fun e w' ⟨he, hw⟩ => ⟨he, by rw [hw]; exact h.below (Below.refl _ _).drew⟩
      · exact (merge_long b.a0 b.a1 _ _ w h.ia0.c0 h.ia1.c0 (h.gT 0).c0 (h.gT 0).c1 (h.gT 1).c0 (h.gT 1).c1 hl).mono fun e w' ⟨he, hw⟩ => ⟨he, by rw [hw]; exact h.below (Below.refl _ _).drew⟩
      · exact (merge_long b.a1 b.a0 _ _ w h.ia1.c0 h.ia0.c0 (h.gT 1).c0 (h.gT 1).c1 (h.gT 0).c0 (h.gT 0).c1 hl).mono fun e w' ⟨he, hw⟩ => ⟨he, by rw [hw]; exact h.below (Below.refl _ _).drew⟩
      · exact (merge_long b.a1 b.a1 _ _ w h.ia1.c0 h.ia1.c0 (h.gT 1).c0 (h.gT 1).c1 (h.gT 1).c0 (h.gT 1).c1 hl).mono fun e w' ⟨he, hw⟩ => ⟨he, by rw [hw]; exact h.below (Below.refl _ _).drew⟩
    · rw [if_neg hl, if_neg hl]
      have hz := plus_zero (h.gT k) (h.gT l) (h.zT k) (h.zT l)
      have hg := plusS_good (h.gT k) (h.gT l) (by omega)
      rcases (show k = 0 ∨ k = 1 by omega) with rfl | rfl <;> rcases (show l = 0 ∨ l = 1 by omega) with rfl | rfl
      · exact (merge_own b.a0 _ w h.ia0 (h.gT 0).c0 (by omega) (h.gT 0).n0 (h.gT 0).n1).mono fun e w' ⟨he, h1, h2⟩ => ⟨he, h.setA0 h2.out h1.out hg hz⟩
      · exact (merge_at b.a0 b.a1 _ _ w (by have := h.d; omega) h.ia0 h.ia1 (h.gT 0).c0 (h.gT 1).c0 (by omega) (h.gT 0).n0 (h.gT 0).n1 (h.gT 1).n0 (h.gT 1).n1).mono fun e w' ⟨he, h1, h2⟩ => ⟨he, h.setA0 h2.out h1.out hg hz⟩
      · exact (merge_at b.a1 b.a0 _ _ w (by have := h.d; omega) h.ia1 h.ia0 (h.gT 1).c0 (h.gT 0).c0 (by omega) (h.gT 1).n0 (h.gT 1).n1 (h.gT 0).n0 (h.gT 0).n1).mono fun e w' ⟨he, h1, h2⟩ => ⟨he, h.setA1 h2.out h1.out hg hz⟩
      · exact (merge_own b.a1 _ w h.ia1 (h.gT 1).c0 (by omega) (h.gT 1).n0 (h.gT 1).n1).mono fun e w' ⟨he, h1, h2⟩ => ⟨he, h.setA1 h2.out h1.out hg hz⟩
  · rw [if_neg h2, if_neg h2]
    by_cases hk : k < 2
    · rw [pa2 b (show ¬ l < 2 from fun hl => h2 ⟨hk, hl⟩)]
      rcases (show k = 0 ∨ k = 1 by omega) with rfl | rfl
      · exact (merge_nil2 b.a0 w).mono fun e w' ⟨he, hw⟩ => ⟨he, by rw [hw]; exact h⟩
      · exact (merge_nil2 b.a1 w).mono fun e w' ⟨he, hw⟩ => ⟨he, by rw [hw]; exact h⟩
    · rw [pa2 b hk]
      exact (merge_nil1 _ w).mono fun e w' ⟨he, hw⟩ => ⟨he, by rw [hw]; exact h⟩
theorem oneR (f : FuncId) (args : Value → Array Value) (st : AS → AS) (hnil : ∀ w, Calls Try.prog f (args (.pointer none)) w fun e w' => e = .returned (.int .i64 2) ∧ w' = w)
    (hlong : ∀ g c w, w.cell? ⟨g, 136, none⟩ = some (.int .i64 c) → 1048576 ≤ c → Calls Try.prog f (args (pt g)) w fun e w' => e = .returned (.int .i64 3) ∧ w' = w)
    (hok : ∀ g S w, IsRef g S w → Good S → S.c < 1048576 → Calls Try.prog f (args (pt g)) w fun e w' => e = .returned (.int .i64 0) ∧ (Hid (IsRef g (st S) w') ∧ Hid (Only g w w')))
    (hgood : ∀ S, Good S → S.c < 1048576 → Good (st S)) (hc : ∀ S, (st S).c = S.c + 1) (w0 v : World) (b : Bk) (T U : Nat → AS) (k : Nat) (w : World) (h : Rel w0 v b T U w) :
    Calls Try.prog f (args (pb b k)) w fun e w' => e = .returned (.int .i64 (eOne U k)) ∧ Hid (Rel w0 v b T (nOne st U k) w') := by
  unfold eOne nOne
  by_cases h2 : k < 2
  · rw [if_pos h2, if_pos h2]
    by_cases hl : 1048576 ≤ (U k).c
    · rw [if_pos hl, if_pos hl]
      rcases (show k = 0 ∨ k = 1 by omega) with rfl | rfl
      · exact (hlong b.r0 _ w (h.ir0.choose_spec.1).cc hl).mono fun e w' ⟨he, hw⟩ => ⟨he, by rw [hw]; exact h⟩
      · exact (hlong b.r1 _ w (h.ir1.choose_spec.1).cc hl).mono fun e w' ⟨he, hw⟩ => ⟨he, by rw [hw]; exact h⟩
    · rw [if_neg hl, if_neg hl]
      have hz : (st (U k)).c = 0 → st (U k) = S0 := fun e => by
        have := (h.gU k).c0
        rw [hc] at e; omega
      have hg := hgood _ (h.gU k) (by omega)
      rcases (show k = 0 ∨ k = 1 by omega) with rfl | rfl
      · exact (hok b.r0 _ w h.ir0 (h.gU 0) (by omega)).mono fun e w' ⟨he, h1, h2⟩ => ⟨he, h.setR0 h2.out.but h1.out hg hz⟩
      · exact (hok b.r1 _ w h.ir1 (h.gU 1) (by omega)).mono fun e w' ⟨he, h1, h2⟩ => ⟨he, h.setR1 h2.out.but h1.out hg hz⟩
  · rw [if_neg h2, if_neg h2, pb2 b h2]
    exact (hnil w).mono fun e w' ⟨he, hw⟩ => ⟨he, by rw [hw]; exact h⟩
theorem merR (w0 v : World) (b : Bk) (T U : Nat → AS) (k l : Nat) (w : World) (h : Rel w0 v b T U w) :
    Calls Try.prog 17 #[pb b k, pb b l] w fun e w' => e = .returned (.int .i64 (eMer U k l)) ∧ Hid (Rel w0 v b T (nMer U k l) w') := by
  unfold eMer nMer
  by_cases h2 : k < 2 ∧ l < 2
  · rw [if_pos h2, if_pos h2]
    by_cases hl : 1048576 < (U k).c + (U l).c
    · rw [if_pos hl, if_pos hl]
      rcases (show k = 0 ∨ k = 1 by omega) with rfl | rfl <;> rcases (show l = 0 ∨ l = 1 by omega) with rfl | rfl
      · exact (rmerge_long b.r0 b.r0 _ _ w (h.ir0.choose_spec.1).cc (h.ir0.choose_spec.1).cc (h.gU 0).c0 (h.gU 0).c1 (h.gU 0).c0 (h.gU 0).c1 hl).mono fun e w' ⟨he, hw⟩ => ⟨he, by rw [hw]; exact h.below (Below.refl _ _).drew⟩
      · exact (rmerge_long b.r0 b.r1 _ _ w (h.ir0.choose_spec.1).cc (h.ir1.choose_spec.1).cc (h.gU 0).c0 (h.gU 0).c1 (h.gU 1).c0 (h.gU 1).c1 hl).mono fun e w' ⟨he, hw⟩ => ⟨he, by rw [hw]; exact h.below (Below.refl _ _).drew⟩
      · exact (rmerge_long b.r1 b.r0 _ _ w (h.ir1.choose_spec.1).cc (h.ir0.choose_spec.1).cc (h.gU 1).c0 (h.gU 1).c1 (h.gU 0).c0 (h.gU 0).c1 hl).mono fun e w' ⟨he, hw⟩ => ⟨he, by rw [hw]; exact h.below (Below.refl _ _).drew⟩
      · exact (rmerge_long b.r1 b.r1 _ _ w (h.ir1.choose_spec.1).cc (h.ir1.choose_spec.1).cc (h.gU 1).c0 (h.gU 1).c1 (h.gU 1).c0 (h.gU 1).c1 hl).mono fun e w' ⟨he, hw⟩ => ⟨he, by rw [hw]; exact h.below (Below.refl _ _).drew⟩
    · rw [if_neg hl, if_neg hl]
      have hz := plus_zero (h.gU k) (h.gU l) (h.zU k) (h.zU l)
      have hg := plusS_good (h.gU k) (h.gU l) (by omega)
      rcases (show k = 0 ∨ k = 1 by omega) with rfl | rfl <;> rcases (show l = 0 ∨ l = 1 by omega) with rfl | rfl
      · exact (rmerge_own b.r0 _ w h.ir0 (h.gU 0) (by omega)).mono fun e w' ⟨he, h1, h2⟩ => ⟨he, h.setR0 h2.out.but h1.out hg hz⟩
      · exact (rmerge_at b.r0 b.r1 _ _ w (by have := h.d; omega) h.ir0 h.ir1 (h.gU 0) (h.gU 1) (by omega)).mono fun e w' ⟨he, h1, h2⟩ => ⟨he, h.setR0 h2.out.but h1.out hg hz⟩
      · exact (rmerge_at b.r1 b.r0 _ _ w (by have := h.d; omega) h.ir1 h.ir0 (h.gU 1) (h.gU 0) (by omega)).mono fun e w' ⟨he, h1, h2⟩ => ⟨he, h.setR1 h2.out.but h1.out hg hz⟩
      · exact (rmerge_own b.r1 _ w h.ir1 (h.gU 1) (by omega)).mono fun e w' ⟨he, h1, h2⟩ => ⟨he, h.setR1 h2.out.but h1.out hg hz⟩
  · rw [if_neg h2, if_neg h2]
    by_cases hk : k < 2
    · rw [pb2 b (show ¬ l < 2 from fun hl => h2 ⟨hk, hl⟩)]
      rcases (show k = 0 ∨ k = 1 by omega) with rfl | rfl
      · exact (rmerge_nil2 b.r0 w).mono fun e w' ⟨he, hw⟩ => ⟨he, by rw [hw]; exact h⟩
      · exact (rmerge_nil2 b.r1 w).mono fun e w' ⟨he, hw⟩ => ⟨he, by rw [hw]; exact h⟩
    · rw [pb2 b hk]
      exact (rmerge_nil1 _ w).mono fun e w' ⟨he, hw⟩ => ⟨he, by rw [hw]; exact h⟩
/-- Add, AddProduct: both sides -/
theorem addA (w0 v : World) (b : Bk) (T U : Nat → AS) (k x : Nat) (hx : x < 18446744073709551616) (w : World) (h : Rel w0 v b T U w) :
    Calls Try.prog 12 #[pa b k, .float .f64 x] w fun e w' => e = .returned (.int .i64 (eOne T k)) ∧ Hid (Rel w0 v b (nOne (fun S => stepA S x) T k) U w') :=
  oneA 12 (fun p => #[p, .float .f64 x]) (fun S => stepA S x) (fun w => add_nil x w) (fun g c w h0 hc => addv _ x 3 w (fun w' => w' = w) (addp_long g x ONE c w h0 hc)) (fun g S w h1 h2 h3 => add_at g x S w hx h1 h2 h3) (fun _ h1 h2 => stepP_good h1 _ _ h2) (fun S => stepP_c S _ _) w0 v b T U k w h
theorem addR (w0 v : World) (b : Bk) (T U : Nat → AS) (k x : Nat) (hx : x < 18446744073709551616) (w : World) (h : Rel w0 v b T U w) :
    Calls Try.prog 13 #[pb b k, .float .f64 x] w fun e w' => e = .returned (.int .i64 (eOne U k)) ∧ Hid (Rel w0 v b T (nOne (fun S => stepA S x) U k) w') :=
  oneR 13 (fun p => #[p, .float .f64 x]) (fun S => stepA S x) (fun w => radd_nil x w) (fun g c w h0 hc => radd_long g x c w h0 hc) (fun g S w h1 h2 h3 => radd_at g x S w hx h1 h2 h3) (fun _ h1 h2 => stepP_good h1 _ _ h2) (fun S => stepP_c S _ _) w0 v b T U k w h
theorem prodA (w0 v : World) (b : Bk) (T U : Nat → AS) (k x y : Nat) (hx : x < 18446744073709551616) (hy : y < 18446744073709551616) (w : World) (h : Rel w0 v b T U w) :
    Calls Try.prog 14 #[pa b k, .float .f64 x, .float .f64 y] w fun e w' => e = .returned (.int .i64 (eOne T k)) ∧ Hid (Rel w0 v b (nOne (fun S => stepP S x y) T k) U w') :=
  oneA 14 (fun p => #[p, .float .f64 x, .float .f64 y]) (fun S => stepP S x y) (fun w => addp_nil x y w) (fun g c w h0 hc => addp_long g x y c w h0 hc) (fun g S w h1 h2 h3 => addp_at g x y S w hx hy h1 h2.c0 h3 h2.n0 h2.n1) (fun _ h1 h2 => stepP_good h1 _ _ h2) (fun S => stepP_c S _ _) w0 v b T U k w h
theorem prodR (w0 v : World) (b : Bk) (T U : Nat → AS) (k x y : Nat) (hx : x < 18446744073709551616) (hy : y < 18446744073709551616) (w : World) (h : Rel w0 v b T U w) :
    Calls Try.prog 15 #[pb b k, .float .f64 x, .float .f64 y] w fun e w' => e = .returned (.int .i64 (eOne U k)) ∧ Hid (Rel w0 v b T (nOne (fun S => stepP S x y) U k) w') :=
  oneR 15 (fun p => #[p, .float .f64 x, .float .f64 y]) (fun S => stepP S x y) (fun w => rprod_nil x y w) (fun g c w h0 hc => rprod_long g x y c w h0 hc) (fun g S w h1 h2 h3 => rprod_at g x y S w hx hy h1 h2 h3) (fun _ h1 h2 => stepP_good h1 _ _ h2) (fun S => stepP_c S _ _) w0 v b T U k w h
/-- what is asked of them -/
def cnt (T : Nat → AS) (k : Nat) : Int := if k < 2 then (T k).c else 0
def vlu (T : Nat → AS) (k : Nat) : Nat := if k < 2 then valB (T k) else 0
theorem cntA (w0 v : World) (b : Bk) (T U : Nat → AS) (k : Nat) (w : World) (h : Rel w0 v b T U w) :
    Calls Try.prog 18 #[pa b k] w fun e w' => e = .returned (.int .i64 (cnt T k)) ∧ w' = w := by
  unfold cnt
  by_cases h2 : k < 2
  · rw [if_pos h2]
    rcases (show k = 0 ∨ k = 1 by omega) with rfl | rfl
    · exact count_at b.a0 _ w h.ia0.c0
    · exact count_at b.a1 _ w h.ia1.c0
  · rw [if_neg h2, pa2 b h2]
    exact count_nil w
theorem vluA (w0 v : World) (b : Bk) (T U : Nat → AS) (k : Nat) (w : World) (h : Rel w0 v b T U w) :
    Calls Try.prog 21 #[pa b k] w fun e w' => e = .returned (.float .f64 (vlu T k)) ∧ Hid (Below w.heap.size w w') := by
  unfold vlu
  by_cases h2 : k < 2
  · rw [if_pos h2]
    rcases (show k = 0 ∨ k = 1 by omega) with rfl | rfl
    · exact (value_at b.a0 _ w h.ia0 (h.gT 0).c0 (h.gT 0).h0 (h.gT 0).h1).mono fun e w' ⟨he, hb⟩ => ⟨he, hb⟩
    · exact (value_at b.a1 _ w h.ia1 (h.gT 1).c0 (h.gT 1).h0 (h.gT 1).h1).mono fun e w' ⟨he, hb⟩ => ⟨he, hb⟩
  · rw [if_neg h2, pa2 b h2]
    exact (value_nil w).mono fun e w' ⟨he, hw⟩ => ⟨he, by rw [hw]; exact Below.refl _ _⟩
theorem cntR (w0 v : World) (b : Bk) (T U : Nat → AS) (k : Nat) (w : World) (h : Rel w0 v b T U w) :
    Calls Try.prog 19 #[pb b k] w fun e w' => e = .returned (.int .i64 (cnt U k)) ∧ w' = w := by
  unfold cnt
  by_cases h2 : k < 2
  · rw [if_pos h2]
    rcases (show k = 0 ∨ k = 1 by omega) with rfl | rfl
    · exact rcount_at b.r0 _ w (h.ir0.choose_spec.1).cc
    · exact rcount_at b.r1 _ w (h.ir1.choose_spec.1).cc
  · rw [if_neg h2, pb2 b h2]
    exact rcount_nil w
theorem vluR (w0 v : World) (b : Bk) (T U : Nat → AS) (k : Nat) (w : World) (h : Rel w0 v b T U w) :
    Calls Try.prog 22 #[pb b k] w fun e w' => e = .returned (.float .f64 (vlu U k)) ∧ Hid (Below w.heap.size w w') := by
  unfold vlu
  by_cases h2 : k < 2
  · rw [if_pos h2]
    rcases (show k = 0 ∨ k = 1 by omega) with rfl | rfl
    · exact (rvalue_at b.r0 _ w h.ir0 (h.gU 0) (h.zU 0)).mono fun e w' ⟨he, hb⟩ => ⟨he, hb⟩
    · exact (rvalue_at b.r1 _ w h.ir1 (h.gU 1) (h.zU 1)).mono fun e w' ⟨he, hb⟩ => ⟨he, hb⟩
  · rw [if_neg h2, pb2 b h2]
    exact (rv_nil w).mono fun e w' ⟨he, hw⟩ => ⟨he, by rw [hw]; exact Below.refl _ _⟩
end Go.Proofs.Ytgbnabpbheebjaa
