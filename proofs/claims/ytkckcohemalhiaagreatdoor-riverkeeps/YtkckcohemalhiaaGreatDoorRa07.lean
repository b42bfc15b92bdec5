/-
  Some of the texts of this proof, one behind the other.
-/
import Derived.WalkKit
import Derived.Test.YtkckcohemalhiaaGreatDoorRows
import Derived.ProofKit
import Derived.OpenShut
import Derived.WalkLawsBesides
import Derived.Stop.Joined
import Derived.Carry
import Derived.Lib.SmallJoins
import Derived.Deep.Slices
import Derived.Deep.OwnRows
import Derived.StillTail
import Derived.Laws.StructEq
import Derived.Test.YtkckcohemalhiaaGreatDoorRa06
namespace Go.Proofs.YtkckcohemalhiaaGreatDoor.Sh
/-- x * y / z, rounded down, within 63 bits -/
def part (x y z : Int) : Int := if x < 0 ∨ y < 0 ∨ z ≤ 0 then 0 else if 9223372036854775807 < x * y / z then 9223372036854775807 else x * y / z
theorem div_le_self' {x y z : Int} (hx : 0 ≤ x) (hz : 0 < z) (h : y ≤ z) : x * y / z ≤ x := by
  have h1 : x * y ≤ x * z := Int.mul_le_mul_of_nonneg_left h hx
  exact Int.ediv_le_of_le_mul hz h1
/-- where the second is at most the third -/
theorem part_le {x y z : Int} (hx : 0 ≤ x) (hx2 : x ≤ 9223372036854775807) (hy : 0 ≤ y) (hz : 0 < z) (h : y ≤ z) : part x y z = x * y / z ∧ 0 ≤ part x y z ∧ part x y z ≤ x := by
  have l := div_le_self' hx hz h
  have n : ¬ (x < 0 ∨ y < 0 ∨ z ≤ 0) := by omega
  have n2 : ¬ 9223372036854775807 < x * y / z := by omega
  have e : part x y z = x * y / z := by unfold part; rw [if_neg n, if_neg n2]
  exact ⟨e, by rw [e]; exact Int.ediv_nonneg (Int.mul_nonneg hx hy) (by omega), by rw [e]; exact l⟩
/-- a quotient against its parts -/
theorem div_two {a z : Int} (hz : 0 < z) : z * (a / z) ≤ a ∧ a < z * (a / z) + z := by
  have h1 := Int.mul_ediv_add_emod a z
  have h2 := Int.emod_nonneg a (show z ≠ 0 by omega)
  have h3 := Int.emod_lt_of_pos a hz
  constructor <;> omega
/-- all of them together -/
def sumN (f : Nat → Int) : Nat → Int
  | 0 => 0
  | n + 1 => sumN f n + f n
theorem sumN_congr {f g : Nat → Int} : ∀ {n : Nat}, (∀ i, i < n → f i = g i) → sumN f n = sumN g n
  | 0, _ => rfl
  | n + 1, h => by
    show sumN f n + f n = sumN g n + g n
    rw [sumN_congr (n := n) (fun i hi => h i (by omega)), h n (by omega)]
theorem sumN_nn {f : Nat → Int} : ∀ {n : Nat}, (∀ i, i < n → 0 ≤ f i) → 0 ≤ sumN f n
  | 0, _ => by show (0 : Int) ≤ 0; omega
  | n + 1, h => by
    show 0 ≤ sumN f n + f n
    have a := sumN_nn (n := n) (fun i hi => h i (by omega))
    have b := h n (by omega)
    omega
theorem sumN_mono {f : Nat → Int} {n : Nat} (h : ∀ i, i < n → 0 ≤ f i) : ∀ {m : Nat}, m ≤ n → sumN f m ≤ sumN f n := by
  intro m hm
  induction n with
  | zero => obtain rfl : m = 0 := by omega
            omega
  | succ n ih =>
    by_cases e : m = n + 1
    · subst e; omega
    · have a := ih (fun i hi => h i (by omega)) (by omega)
      have b := h n (by omega)
      show sumN f m ≤ sumN f n + f n
      omega
end Go.Proofs.YtkckcohemalhiaaGreatDoor.Sh

namespace Go.Proofs.YtkckcohemalhiaaGreatDoor
namespace Rv
open Sh
/-- a cell lies below another one, or beside it and ahead by number -/
def lt2 (K : Nat → Nat) (a b : Nat) : Bool := decide (K a < K b) || (decide (K a = K b) && decide (a < b))
theorem lt2_iff {K : Nat → Nat} {a b : Nat} : lt2 K a b = true ↔ K a < K b ∨ (K a = K b ∧ a < b) := by
  unfold lt2
  simp
/-- the least of nb 0 .. nb k -/
def bst (K : Nat → Nat) (nb : Nat → Nat) : Nat → Nat
  | 0 => nb 0
  | k + 1 => if lt2 K (nb (k + 1)) (bst K nb k) = true then nb (k + 1) else bst K nb k
theorem bst_in (K nb : Nat → Nat) : ∀ k, ∃ s, s ≤ k ∧ bst K nb k = nb s
  | 0 => ⟨0, Nat.le_refl _, rfl⟩
  | k + 1 => by
    obtain ⟨s, h1, h2⟩ := bst_in K nb k
    by_cases c : lt2 K (nb (k + 1)) (bst K nb k) = true
    · exact ⟨k + 1, Nat.le_refl _, by unfold bst; rw [if_pos c]⟩
    · exact ⟨s, by omega, by unfold bst; rw [if_neg c]; exact h2⟩
theorem bst_least (K nb : Nat → Nat) : ∀ k s, s ≤ k → ¬ (K (nb s) < K (bst K nb k) ∨ (K (nb s) = K (bst K nb k) ∧ nb s < bst K nb k))
  | 0, s, h => by
    obtain rfl : s = 0 := by omega
    show ¬ (K (nb 0) < K (nb 0) ∨ (K (nb 0) = K (nb 0) ∧ nb 0 < nb 0))
    omega
  | k + 1, s, h => by
    have ih := bst_least K nb k
    by_cases c : lt2 K (nb (k + 1)) (bst K nb k) = true
    · have e : bst K nb (k + 1) = nb (k + 1) := by show (if _ then _ else _) = _; rw [if_pos c]
      rw [e]
      have c' := lt2_iff.1 c
      by_cases q : s = k + 1
      · subst q; omega
      · have := ih s (by omega)
        omega
    · have e : bst K nb (k + 1) = bst K nb k := by show (if _ then _ else _) = _; rw [if_neg c]
      rw [e]
      by_cases q : s = k + 1
      · subst q
        exact fun h => c (lt2_iff.2 h)
      · exact ih s (by omega)
/-- where a cell's water runs -/
def dnI (K : Nat → Nat) (nb : Nat → Nat) (c : Nat) : Int := if K (bst K nb 3) < K c then ((bst K nb 3 : Nat) : Int) else -1
theorem dnI_no {K nb : Nat → Nat} {c : Nat} (h : dnI K nb c < 0) : dnI K nb c = -1 ∧ ∀ s, s < 4 → ¬ K (nb s) < K c := by
  unfold dnI at h ⊢
  by_cases q : K (bst K nb 3) < K c
  · rw [if_pos q] at h; omega
  · rw [if_neg q]
    refine ⟨rfl, fun s hs => ?_⟩
    have := bst_least K nb 3 s (by omega)
    omega
theorem dnI_yes {K nb : Nat → Nat} {c : Nat} (h : ¬ dnI K nb c < 0) : ∃ d : Nat, dnI K nb c = (d : Nat) ∧ K d < K c ∧ (∃ s, s < 4 ∧ nb s = d) ∧ ∀ s, s < 4 → ¬ (K (nb s) < K d ∨ (K (nb s) = K d ∧ nb s < d)) := by
  unfold dnI at h ⊢
  by_cases q : K (bst K nb 3) < K c
  · rw [if_pos q]
    obtain ⟨s, h1, h2⟩ := bst_in K nb 3
    exact ⟨_, rfl, q, ⟨s, by omega, h2.symm⟩, fun s hs => bst_least K nb 3 s (by omega)⟩
  · rw [if_neg q] at h; omega
/-! ### the order -/
/-- a cell comes ahead of another one -/
def bf (K : Nat → Nat) (a b : Nat) : Prop := K b < K a ∨ (K a = K b ∧ a < b)
/-- a list is the order of n cells -/
def IsOrd (K : Nat → Nat) (n : Nat) (l : List Nat) : Prop := l.Pairwise (bf K) ∧ l.Perm (List.range n)
def leB (K : Nat → Nat) (a b : Nat) : Bool := decide (K b < K a) || (decide (K a = K b) && decide (a ≤ b))
/-- the order of n cells -/
def ordL (K : Nat → Nat) (n : Nat) : List Nat := (List.range n).mergeSort (leB K)
theorem leB_iff {K : Nat → Nat} {a b : Nat} : leB K a b = true ↔ K b < K a ∨ (K a = K b ∧ a ≤ b) := by
  unfold leB
  simp
theorem ordL_ord (K : Nat → Nat) (n : Nat) : IsOrd K n (ordL K n) := by
  have p : (ordL K n).Perm (List.range n) := List.mergeSort_perm _ _
  refine ⟨?_, p⟩
  have s : (ordL K n).Pairwise (fun a b => leB K a b = true) := List.pairwise_mergeSort (fun a b c h1 h2 => by
    rw [leB_iff] at *
    omega) (fun a b => by
    rw [Bool.or_eq_true, leB_iff, leB_iff]
    omega) _
  have nd : (ordL K n).Nodup := p.nodup_iff.2 List.nodup_range
  have nd2 : (ordL K n).Pairwise (fun a b => a ≠ b) := nd
  refine (s.and nd2).imp ?_
  rintro a b ⟨h1, h2⟩
  rw [leB_iff] at h1
  unfold bf
  omega
theorem bf_asym {K : Nat → Nat} {a b : Nat} (h1 : bf K a b) (h2 : bf K b a) : False := by
  unfold bf at *
  omega
theorem ord_eq {K : Nat → Nat} : ∀ {l m : List Nat}, l.Pairwise (bf K) → m.Pairwise (bf K) → l.Perm m → l = m
  | [], m, _, _, p => p.nil_eq
  | a :: l, m, hl, hm, p => by
    cases m with
    | nil => exact absurd p.symm.nil_eq (by simp)
    | cons b m =>
      have e : a = b := by
        by_cases q : a = b
        · exact q
        · have h1 : a ∈ b :: m := p.subset (List.mem_cons_self ..)
          have h2 : b ∈ a :: l := p.symm.subset (List.mem_cons_self ..)
          have h3 : a ∈ m := by
            rcases List.mem_cons.1 h1 with h | h
            · exact absurd h q
            · exact h
          have h4 : b ∈ l := by
            rcases List.mem_cons.1 h2 with h | h
            · exact absurd h.symm q
            · exact h
          exact absurd ((List.pairwise_cons.1 hl).1 b h4) (fun h => bf_asym h ((List.pairwise_cons.1 hm).1 a h3))
      subst e
      rw [ord_eq (List.pairwise_cons.1 hl).2 (List.pairwise_cons.1 hm).2 ((List.perm_cons a).1 p)]
/-- there is one order alone -/
theorem ord_one {K : Nat → Nat} {n : Nat} {l : List Nat} (h : IsOrd K n l) : l = ordL K n := ord_eq h.1 (ordL_ord K n).1 (h.2.trans (ordL_ord K n).2.symm)
theorem ordL_len (K : Nat → Nat) (n : Nat) : (ordL K n).length = n := by rw [(ordL_ord K n).2.length_eq, List.length_range]
theorem ordL_mem {K : Nat → Nat} {n c : Nat} : c ∈ ordL K n ↔ c < n := by rw [(ordL_ord K n).2.mem_iff, List.mem_range]
/-! ### a step of rivers -/
/-- what a cell of so much water gives -/
def gvW (x : Int) : Int := x / 4
/-- one cell's turn -/
def rv1 (dn : Nat → Int) (sh : Int → Nat → Bool) (X : (Nat → Int) × (Nat → Int)) (c : Nat) : (Nat → Int) × (Nat → Int) :=
  if dn c < 0 ∨ X.1 c ≤ 0 ∨ sh (X.1 c) c = false then X else
    (fun i => if i = (dn c).toNat then X.1 i + gvW (X.1 c) else if i = c then X.1 c - gvW (X.1 c) else X.1 i,
     fun i => if i = (dn c).toNat then X.2 i + Sh.part (X.2 c) (gvW (X.1 c)) (X.1 c) else if i = c then X.2 c - Sh.part (X.2 c) (gvW (X.1 c)) (X.1 c) else X.2 i)
/-- a row of cells, one behind the other -/
def rvL (dn : Nat → Int) (sh : Int → Nat → Bool) (X : (Nat → Int) × (Nat → Int)) (l : List Nat) : (Nat → Int) × (Nat → Int) := l.foldl (rv1 dn sh) X
/-- Downs are cells, and others -/
def okD (n : Nat) (dn : Nat → Int) : Prop := ∀ c, c < n → ¬ dn c < 0 → (dn c).toNat < n ∧ (dn c).toNat ≠ c
/-- waters or tracers that can be -/
def okV (n : Nat) (f : Nat → Int) : Prop := (∀ c, c < n → 0 ≤ f c) ∧ sumN f n ≤ 4503599627370496
theorem sumN_one (f : Nat → Int) (c : Nat) (d : Int) : ∀ n, sumN (fun i => if i = c then f i + d else f i) n = sumN f n + if c < n then d else 0
  | 0 => by
    show (0 : Int) = 0 + if c < 0 then d else 0
    rw [if_neg (by omega)]
    rfl
  | n + 1 => by
    show sumN (fun i => if i = c then f i + d else f i) n + (if n = c then f n + d else f n) = sumN f n + f n + if c < n + 1 then d else 0
    rw [sumN_one f c d n]
    by_cases e : n = c
    · subst e
      rw [if_pos rfl, if_neg (by omega), if_pos (by omega)]
      omega
    · rw [if_neg e]
      by_cases l : c < n
      · rw [if_pos l, if_pos (by omega)]
        omega
      · rw [if_neg l, if_neg (by omega)]
        omega
/-- from one cell to another one -/
theorem sumN_move {f : Nat → Int} {n c d : Nat} {m : Int} (hc : c < n) (hd : d < n) (h : d ≠ c) : sumN (fun i => if i = d then f i + m else if i = c then f c - m else f i) n = sumN f n := by
  have e : sumN (fun i => if i = d then f i + m else if i = c then f c - m else f i) n = sumN (fun i => if i = d then (fun j => if j = c then f j + -m else f j) i + m else (fun j => if j = c then f j + -m else f j) i) n := by
    refine sumN_congr (fun i _ => ?_)
    dsimp only
    by_cases e1 : i = d
    · subst e1
      rw [if_pos rfl, if_pos rfl, if_neg h]
    · rw [if_neg e1, if_neg e1]
      by_cases e2 : i = c
      · subst e2
        rw [if_pos rfl, if_pos rfl]
        omega
      · rw [if_neg e2, if_neg e2]
  rw [e, sumN_one, sumN_one, if_pos hc, if_pos hd]
  omega
theorem elem_le {f : Nat → Int} {n c : Nat} (h : ∀ i, i < n → 0 ≤ f i) (hc : c < n) : f c ≤ sumN f n := by
  have a := sumN_mono h (m := c + 1) (by omega)
  have b := sumN_nn (f := f) (n := c) (fun i hi => h i (by omega))
  have e : sumN f (c + 1) = sumN f c + f c := rfl
  omega
theorem okV.b {n : Nat} {f : Nat → Int} (h : okV n f) {c : Nat} (hc : c < n) : 0 ≤ f c ∧ f c ≤ 4503599627370496 := ⟨h.1 c hc, by have := elem_le h.1 hc; have := h.2; omega⟩
section
variable {n : Nat} {dn : Nat → Int} {sh : Int → Nat → Bool} {X : (Nat → Int) × (Nat → Int)}
/-- what goes is there -/
theorem gv_in {x t : Int} (hx : 0 < x) (ht : 0 ≤ t ∧ t ≤ 4503599627370496) : (0 ≤ gvW x ∧ gvW x ≤ x) ∧ 0 ≤ Sh.part t (gvW x) x ∧ Sh.part t (gvW x) x ≤ t := by
  have g : 0 ≤ gvW x ∧ gvW x ≤ x := by unfold gvW; omega
  exact ⟨g, (part_le ht.1 (by omega) g.1 hx g.2).2⟩
theorem rv1_ok (hd : okD n dn) (hX : okV n X.1 ∧ okV n X.2) {c : Nat} (hc : c < n) : okV n (rv1 dn sh X c).1 ∧ okV n (rv1 dn sh X c).2 := by
  unfold rv1
  by_cases q : dn c < 0 ∨ X.1 c ≤ 0 ∨ sh (X.1 c) c = false
  · rw [if_pos q]; exact hX
  · rw [if_neg q]
    obtain ⟨d1, d2⟩ := hd c hc (by omega)
    have g := gv_in (x := X.1 c) (t := X.2 c) (by omega) (hX.2.b hc)
    have w0 := hX.1.b hc
    refine ⟨⟨fun i hi => ?_, ?_⟩, ⟨fun i hi => ?_, ?_⟩⟩
    · dsimp only
      have := hX.1.1 i hi
      split
      · omega
      · split <;> omega
    · dsimp only
      rw [sumN_move hc d1 d2]
      exact hX.1.2
    · dsimp only
      have := hX.2.1 i hi
      split
      · omega
      · split <;> omega
    · dsimp only
      rw [sumN_move hc d1 d2]
      exact hX.2.2
theorem rv1_sum (hd : okD n dn) {c : Nat} (hc : c < n) : sumN (rv1 dn sh X c).1 n = sumN X.1 n ∧ sumN (rv1 dn sh X c).2 n = sumN X.2 n := by
  unfold rv1
  by_cases q : dn c < 0 ∨ X.1 c ≤ 0 ∨ sh (X.1 c) c = false
  · rw [if_pos q]; exact ⟨rfl, rfl⟩
  · rw [if_neg q]
    obtain ⟨d1, d2⟩ := hd c hc (by omega)
    exact ⟨sumN_move hc d1 d2, sumN_move hc d1 d2⟩
theorem rvL_ok (hd : okD n dn) : ∀ {l : List Nat} {X : (Nat → Int) × (Nat → Int)}, (∀ c, c ∈ l → c < n) → (okV n X.1 ∧ okV n X.2) → (okV n (rvL dn sh X l).1 ∧ okV n (rvL dn sh X l).2) ∧ sumN (rvL dn sh X l).1 n = sumN X.1 n ∧ sumN (rvL dn sh X l).2 n = sumN X.2 n
  | [], X, _, hX => ⟨hX, rfl, rfl⟩
  | c :: l, X, hl, hX => by
    have hc := hl c (List.mem_cons_self ..)
    have a := rvL_ok hd (l := l) (X := rv1 dn sh X c) (fun c h => hl c (List.mem_cons_of_mem _ h)) (rv1_ok hd hX hc)
    have b := rv1_sum (sh := sh) (X := X) hd hc
    exact ⟨a.1, a.2.1.trans b.1, a.2.2.trans b.2⟩
end
end Rv
end Go.Proofs.YtkckcohemalhiaaGreatDoor

namespace Go.Proofs.YtkckcohemalhiaaGreatDoor
open Go.ChangeShapes Go.WideShapes Go.ChangeAt Go.WideMaps Go.WideElems Go.RowKit Go.Deep
/-- a list of whole numbers lies there -/
def IsIn (w : World) (a0 : Option Addr) (len : Nat) (xs : Nat → Int) : Prop := ∀ k, k < len → (-9223372036854775808 ≤ xs k ∧ xs k ≤ 9223372036854775807) ∧ ∃ b o, a0 = some ⟨b, o, none⟩ ∧ b < w.heap.size ∧ w.cell? ⟨b, o + k, none⟩ = some (.int .i64 (xs k))
theorem IsIn.below {w w' : World} {a0 : Option Addr} {len : Nat} {xs : Nat → Int} (h : IsIn w a0 len xs) (hb : Below w.heap.size w w') : IsIn w' a0 len xs := by
  intro k hk
  obtain ⟨h1, b, o, h2, h3, h4⟩ := h k hk
  exact ⟨h1, b, o, h2, Nat.lt_of_lt_of_le h3 hb.size, by rw [hb.cell (p := ⟨b, o + k, none⟩) h3]; exact h4⟩
theorem trod_flt0 {H : Type} {enc : TypeId × Value → H} {P : Program} {w : World} {base : Nat} {spare : Nat → Bool} {held : Bool} {t : TypeId} {fuel : Nat} {v : Value} {x : DataW H × List MemPlace} (ht : P.underlying t = some (.float .f64)) (h : DataW.trod enc P w base spare held fuel t [v] = some x) :
    ∃ b, v = .float .f64 b ∧ (Lit.float .f64 b).wf = true := by
  cases fuel with
  | zero => simp [DataW.trod] at h
  | succ n =>
    unfold DataW.trod at h
    rw [ht] at h
    split at h <;> simp_all
theorem trod_flt12 {H : Type} {enc : TypeId × Value → H} {P : Program} {w : World} {base : Nat} {spare : Nat → Bool} {held : Bool} {t : TypeId} {fuel : Nat} {v : Value} {x : DataW H × List MemPlace} (ht : P.underlying t = some (.float .f64)) (h : DataW.trod enc P w base spare held fuel t [v] = some x) :
    ∃ b, v = .float .f64 b ∧ b < 18446744073709551616 := by
  obtain ⟨k, e, wf⟩ := trod_flt0 ht h
  exact ⟨k, e, by simpa [Lit.wf] using wf⟩
theorem trod_int12 {H : Type} {enc : TypeId × Value → H} {P : Program} {w : World} {base : Nat} {spare : Nat → Bool} {held : Bool} {t : TypeId} {fuel : Nat} {v : Value} {x : DataW H × List MemPlace} (ht : P.underlying t = some (.int .i64)) (h : DataW.trod enc P w base spare held fuel t [v] = some x) :
    ∃ b, v = .int .i64 b ∧ (-9223372036854775808 ≤ b ∧ b ≤ 9223372036854775807) := by
  obtain ⟨k, e, _, wf⟩ := DataW.trod_int ht h
  simp at e
  simp only [Lit.wf, Bool.and_eq_true, decide_eq_true_eq] at wf
  have q1 : IntKind.i64.min = -9223372036854775808 := by decide
  have q2 : IntKind.i64.max = 9223372036854775807 := by decide
  rw [q1, q2] at wf
  exact ⟨k, e, wf⟩
theorem add_off12 (b off j : Nat) : (⟨b, off, none⟩ : Addr).add j = ⟨b, off + j, none⟩ := by
  by_cases c : j = 0
  · subst c; simp [Addr.add]
  · simp [Addr.add, c]
theorem cell_block12 {w : World} {a : Addr} {v : Value} (h : w.cell? a = some v) : a.block < w.heap.size := by
  by_cases c : a.block < w.heap.size
  · exact c
  · exfalso
    have : w.heap[a.block]? = none := by simp; omega
    simp [World.cell?, this] at h
theorem pick_fn {α : Type} {n : Nat} {R : Nat → α → Prop} (d : α) (h : ∀ i, i < n → ∃ x, R i x) : ∃ f : Nat → α, ∀ i, i < n → R i (f i) := by
  have : ∀ i, ∃ x, i < n → R i x := fun i => by
    by_cases c : i < n
    · obtain ⟨x, h1⟩ := h i c
      exact ⟨x, fun _ => h1⟩
    · exact ⟨d, fun h => absurd h c⟩
  exact ⟨fun i => (this i).choose, fun i hi => (this i).choose_spec hi⟩
theorem fl_open12 {H : Type} {enc : TypeId × Value → H} {W : World} {cs : List Value} {fuel : Nat} {x : DataW H × List MemPlace}
    (hf : DataW.trod enc Tryz.prog W 0 (fun _ => true) true fuel 22 cs = some x) : ∃ a0 len cap xs, cs = [.slice a0 len cap] ∧ IsFl W a0 len xs ∧ len ≤ cap ∧ cap ≤ maxLen := by
  rcases open_slice1 Tryz.underlying22 (by kernel_rfl) hf with ⟨hcs, _⟩ | ⟨a, l, c, m, n, V, D, Pl, hcs, _, hl, hm, hmm, _, hx⟩
  · exact ⟨none, 0, 0, fun _ => 0, hcs, fun k hk => by omega, Nat.le_refl _, Nat.zero_le _⟩
  · simp only [if_true] at hmm
    have each : ∀ i, i < l → ∃ x : Nat, W.cell? (a.add i) = some (.float .f64 x) ∧ x < 18446744073709551616 := by
      intro i hi
      obtain ⟨h1, h2⟩ := hx i (by omega)
      obtain ⟨x, e, wx⟩ := trod_flt12 Tryz.underlying40 h2
      rw [e] at h1
      exact ⟨x, h1, wx⟩
    obtain ⟨f, hf⟩ := pick_fn 0 each
    refine ⟨some a, l, c, f, hcs, fun k hk => ⟨(hf k hk).2, ?_⟩, hl, hm⟩
    have h0 := (hf k hk).1
    have z := (hf 0 (by omega)).1
    obtain ⟨b, off, spot⟩ := a
    have hspot : spot = none := by simpa [Addr.add] using World.cell?_spot z
    subst hspot
    rw [add_off12] at h0
    exact ⟨b, off, rfl, cell_block12 h0, h0⟩
theorem in_open12 {H : Type} {enc : TypeId × Value → H} {W : World} {cs : List Value} {fuel : Nat} {x : DataW H × List MemPlace}
    (hf : DataW.trod enc Tryz.prog W 0 (fun _ => true) true fuel 23 cs = some x) : ∃ a0 len cap xs, cs = [.slice a0 len cap] ∧ IsIn W a0 len xs ∧ len ≤ cap ∧ cap ≤ maxLen := by
  rcases open_slice1 Tryz.underlying23 (by kernel_rfl) hf with ⟨hcs, _⟩ | ⟨a, l, c, m, n, V, D, Pl, hcs, _, hl, hm, hmm, _, hx⟩
  · exact ⟨none, 0, 0, fun _ => 0, hcs, fun k hk => by omega, Nat.le_refl _, Nat.zero_le _⟩
  · simp only [if_true] at hmm
    have each : ∀ i, i < l → ∃ x : Int, W.cell? (a.add i) = some (.int .i64 x) ∧ (-9223372036854775808 ≤ x ∧ x ≤ 9223372036854775807) := by
      intro i hi
      obtain ⟨h1, h2⟩ := hx i (by omega)
      obtain ⟨x, e, wx⟩ := trod_int12 Tryz.underlying2 h2
      rw [e] at h1
      exact ⟨x, h1, wx⟩
    obtain ⟨f, hf⟩ := pick_fn 0 each
    refine ⟨some a, l, c, f, hcs, fun k hk => ⟨(hf k hk).2, ?_⟩, hl, hm⟩
    have h0 := (hf k hk).1
    have z := (hf 0 (by omega)).1
    obtain ⟨b, off, spot⟩ := a
    have hspot : spot = none := by simpa [Addr.add] using World.cell?_spot z
    subst hspot
    rw [add_off12] at h0
    exact ⟨b, off, rfl, cell_block12 h0, h0⟩
/-- a sea's lists, as a walk is told of them -/
structure SeaAt (w : World) (pb : Option Addr) (lb cb : Nat) (B : Nat → Nat) (pw : Option Addr) (lw cw : Nat) (Wt : Nat → Int) (pt : Option Addr) (lt ct : Nat) (Tr : Nat → Int) (ps : Option Addr) (ls cs : Nat) (Sp : Nat → Nat) : Prop where
  bed : IsFl w pb lb B
  water : IsIn w pw lw Wt
  tracer : IsIn w pt lt Tr
  speed : IsFl w ps ls Sp
  lens : (lb ≤ cb ∧ cb ≤ maxLen) ∧ (lw ≤ cw ∧ cw ≤ maxLen) ∧ (lt ≤ ct ∧ ct ≤ maxLen) ∧ (ls ≤ cs ∧ cs ≤ maxLen)
theorem SeaAt.to {w w' : World} {pb : Option Addr} {lb cb : Nat} {B : Nat → Nat} {pw : Option Addr} {lw cw : Nat} {Wt : Nat → Int} {pt : Option Addr} {lt ct : Nat} {Tr : Nat → Int} {ps : Option Addr} {ls cs : Nat} {Sp : Nat → Nat} (h : SeaAt w pb lb cb B pw lw cw Wt pt lt ct Tr ps ls cs Sp) (a : Ab w w') : SeaAt w' pb lb cb B pw lw cw Wt pt lt ct Tr ps ls cs Sp :=
  ⟨h.bed.below a, h.water.below a, h.tracer.below a, h.speed.below a, h.lens⟩
set_option maxRecDepth 100000 in
theorem sea_cells {H : Type} {enc : TypeId × Value → H} {W : World} {n : Nat} {v0 v1 v2 v3 v4 v5 : Value} {x : DataW H × List MemPlace} (h : DataW.trod enc Tryz.prog W 0 (fun _ => true) true n 25 [v0, v1, v2, v3, v4, v5] = some x) :
    ∃ pb lb cb B pw lw cw Wt pt lt ct Tr ps ls cs Sp sky st, (v0 = .slice pb lb cb ∧ v1 = .slice pw lw cw ∧ v2 = .slice pt lt ct ∧ v3 = .slice ps ls cs ∧ v4 = .int .i64 sky ∧ v5 = .int .i64 st) ∧ SeaAt W pb lb cb B pw lw cw Wt pt lt ct Tr ps ls cs Sp := by
  have k0 : Tryz.prog.cellsOf 22 = 1 := by kernel_rfl
  have k1 : Tryz.prog.cellsOf 23 = 1 := by kernel_rfl
  have k2 : Tryz.prog.cellsOf 2 = 1 := by kernel_rfl
  have k3 : Tryz.prog.cellsOf 3 = 1 := by kernel_rfl
  obtain ⟨xs, m, _, hx, hlen, hn, hel⟩ := DataW.trod_struct Tryz.underlying25 h
  match xs, hn with
  | [x0, x1, x2, x3, x4, x5], _ =>
    have h0 := hel 0 _ rfl
    have h1 := hel 1 _ rfl
    have h2 := hel 2 _ rfl
    have h3 := hel 3 _ rfl
    have h4 := hel 4 _ rfl
    have h5 := hel 5 _ rfl
    simp [k0, k1, k2, k3] at h0 h1 h2 h3 h4 h5
    obtain ⟨pb, lb, cb, B, e0, i0, j0⟩ := fl_open12 h0
    obtain ⟨pw, lw, cw, Wt, e1, i1, j1⟩ := in_open12 h1
    obtain ⟨pt, lt, ct, Tr, e2, i2, j2⟩ := in_open12 h2
    obtain ⟨ps, ls, cs, Sp, e3, i3, j3⟩ := fl_open12 h3
    obtain ⟨sky, e4, _⟩ := trod_int12 Tryz.underlying2 h4
    obtain ⟨st, e5, _⟩ := trod_int12 Tryz.underlying3 h5
    simp at e0 e1 e2 e3
    exact ⟨pb, lb, cb, B, pw, lw, cw, Wt, pt, lt, ct, Tr, ps, ls, cs, Sp, sky, st, ⟨e0, e1, e2, e3, e4, e5⟩, ⟨i0, i1, i2, i3, j0, j1, j2, j3⟩⟩
end Go.Proofs.YtkckcohemalhiaaGreatDoor

namespace Go.Proofs.YtkckcohemalhiaaGreatDoor
open Go.RowKit Go.Deep
theorem size1 (W : World) (A : Obj) : (W.alloc A).heap.size = W.heap.size + 1 := by
  show (W.heap.push A).size = _
  simp
theorem made_row {v : World} {g n : Nat} {z : Value} {T : TypeId} (h : v.heap[g]? = some (Obj.cells (madeCells #[z] n) T)) : v.rowIs g T n (fun _ => z) := by
  have e := World.rowIs_made v z n T
  have l := heap_alloc_new v (Obj.cells (madeCells #[z] n) T)
  obtain ⟨c, h1, h2⟩ := e
  rw [l] at h1
  exact ⟨c, h.trans h1, h2⟩
theorem row6 {w : World} {g : Nat} {a b c d e f x y z p q r : Value} {T : TypeId} (h : w.heap[g]? = some (.cells #[a, b, c, d, e, f] T)) :
    ((((((w.setCell ⟨g, 0, none⟩ x).setCell ⟨g, 1, none⟩ y).setCell ⟨g, 2, none⟩ z).setCell ⟨g, 3, none⟩ p).setCell ⟨g, 4, none⟩ q).setCell ⟨g, 5, none⟩ r).heap[g]? = some (.cells #[x, y, z, p, q, r] T) := by
  have h1 := one_set (v := x) (k := 0) h
  have h2 := one_set (v := y) (k := 1) h1
  have h3 := one_set (v := z) (k := 2) h2
  have h4 := one_set (v := p) (k := 3) h3
  have h5 := one_set (v := q) (k := 4) h4
  have h6 := one_set (v := r) (k := 5) h5
  simpa using h6
theorem heap_set_ne {v : World} {b k g : Nat} {x : Value} (h : g ≠ b) : (v.setCell ⟨b, k, none⟩ x).heap[g]? = v.heap[g]? := blk_setCell_other _ _ _ _ h
end Go.Proofs.YtkckcohemalhiaaGreatDoor

namespace Go.Proofs.YtkckcohemalhiaaGreatDoor
open Go.RowKit Tf Cu Go.Deep
/-- a sea of the call's own in block g, its lists in blocks bB and bW: fb and fw lie there -/
def OwnSea (W : World) (g bB bW M : Nat) (r : Array Value) (fb : Nat → Nat) (fw : Nat → Int) (v : World) : Prop :=
  Ab W v ∧ v.heap[g]? = some (.cells r 25) ∧ v.rowIs bB 40 M (fun i => .float .f64 (fb i)) ∧ v.rowIs bW 2 M (fun i => .int .i64 (fw i))
theorem OwnSea.to {W : World} {g bB bW M : Nat} {r : Array Value} {fb : Nat → Nat} {fw : Nat → Int} {v v' : World} (h : OwnSea W g bB bW M r fb fw v) (a : Ab v v') : OwnSea W g bB bW M r fb fw v' :=
  ⟨h.1.trans a, a.heap h.2.1, rowIs.ab h.2.2.1 a, rowIs.ab h.2.2.2 a⟩
end Go.Proofs.YtkckcohemalhiaaGreatDoor

namespace Go.Proofs.YtkckcohemalhiaaGreatDoor
open Go.RowKit
/-- each of the first n operations waits for earlier ones alone, and asks earlier ones alone whether it is wanted -/
def backB (md : Region.Mode) (ops : Array Oper) (n : Nat) : Bool :=
  (List.range n).all fun i => match ops[i]? with
    | some o => o.after.all (fun e => !Region.binds md e || decide (e.on < i)) && (match o.guard with | none => true | some (j, _) => decide (j < n))
    | none => true
/-- the first n are done, no other -/
def finA (m n : Nat) : Array Bool := Array.replicate n true ++ Array.replicate (m - n) false
theorem back_spec {md : Region.Mode} {ops : Array Oper} {n : Nat} (h : backB md ops n = true) {i : Nat} {o : Oper} (hi : i < n) (ho : ops[i]? = some o) :
    (∀ e ∈ o.after, Region.binds md e = true → e.on < i) ∧ (∀ j b, o.guard = some (j, b) → j < n) := by
  have a := List.all_eq_true.1 h i (List.mem_range.2 hi)
  simp only [ho, Bool.and_eq_true] at a
  refine ⟨fun e he hb => ?_, fun j b hg => ?_⟩
  · have := Array.all_eq_true_iff_forall_mem.1 a.1 e he
    simpa [hb] using this
  · have := a.2
    rw [hg] at this
    simpa using this
theorem getD_tf {l : Array Bool} {i : Nat} (h : i < l.size) (d d' : Bool) : l.getD i d = l.getD i d' := by simp [h]
theorem wpAny_more {P : Program} {md : Region.Mode} {ops : Array Oper} {Q : Exit → Act → World → Prop} : ∀ (g k : Nat) (listed : Array Bool) (a : Act) (w : World), wpAny P md ops Q g listed a w → wpAny P md ops Q (g + k) listed a w
  | 0, 0, _, _, _, h => h
  | 0, k + 1, listed, a, w, h => by
    rw [Nat.zero_add]
    exact ⟨fun _ => h.2, fun i hi => by rw [h.1] at hi; cases hi⟩
  | g + 1, k, listed, a, w, h => by
    rw [show g + 1 + k = (g + k) + 1 by omega]
    exact ⟨h.1, fun i hi => wpOp_mono (fun a' w' h' => wpAny_more g k _ a' w' h') (h.2 i hi)⟩
section
variable {P : Program} {md : Region.Mode} {ops hd : Array Oper} {C : World → Prop} {n : Nat}
theorem ready_head (hhd : ∀ i, i < n → hd[i]? = ops[i]?) (hb : backB md ops n = true) {listed lh : Array Bool} (hl : lh.size = n) (hls : n ≤ listed.size) (he : ∀ i, i < n → lh.getD i true = listed.getD i true) {i : Nat} (hi : i < n) :
    i ∈ Region.ready md hd lh ↔ i ∈ Region.ready md ops listed := by
  rw [mem_ready, mem_ready, he i hi, hhd i hi]
  refine and_congr Iff.rfl (exists_congr fun o => and_congr_right fun ho => forall_congr' fun e => forall_congr' fun hm => forall_congr' fun hbd => ?_)
  have lt := (back_spec hb hi ho).1 e hm hbd
  rw [getD_tf (d := false) (d' := true) (by omega), getD_tf (l := listed) (d := false) (d' := true) (by omega), he _ (by omega)]
theorem some_ready (hsz : n ≤ ops.size) (hb : backB md ops n = true) {listed : Array Bool} (hls : n ≤ listed.size) :
    (∀ i, i < n → listed.getD i true = true) ∨ ∃ i, i < n ∧ i ∈ Region.ready md ops listed := by
  have key : ∀ k, k ≤ n → (∀ i, i < k → listed.getD i true = true) ∨ ∃ i, i < n ∧ i ∈ Region.ready md ops listed := by
    intro k
    induction k with
    | zero => exact fun _ => .inl (fun i hi => by omega)
    | succ k ih =>
      intro hk
      rcases ih (by omega) with h | h
      · cases c : listed.getD k true
        · right
          refine ⟨k, by omega, mem_ready.2 ⟨c, ops[k]'(by omega), by simp, fun e he hbd => ?_⟩⟩
          have lt := (back_spec hb (i := k) (o := ops[k]'(by omega)) (by omega) (by simp)).1 e he hbd
          rw [getD_tf (d := false) (d' := true) (by omega)]
          exact h _ lt
        · left
          intro i hi
          by_cases e : i = k
          · rw [e]; exact c
          · exact h i (by omega)
      · exact .inr h
  exact key n (Nat.le_refl _)
theorem qOp_head (hhd : ∀ i, i < n → hd[i]? = ops[i]?) (hb : backB md ops n = true) {i : Nat} (hi : i < n) {K : Act → Prop} {a : Act} (h : qOp P hd C i K a) : qOp P ops C i K a := by
  unfold qOp at *
  rw [hhd i hi] at h
  cases ho : ops[i]? with
  | none => rw [ho] at h; exact h
  | some o =>
    rw [ho] at h
    have e : Region.wanted o (yielded hd a.tmps) = Region.wanted o (yielded ops a.tmps) := by
      unfold Region.wanted
      cases hg : o.guard with
      | none => rfl
      | some jb =>
        obtain ⟨j, b⟩ := jb
        have lt := (back_spec hb hi ho).2 j b hg
        show (yielded hd a.tmps j == some b) = (yielded ops a.tmps j == some b)
        unfold yielded
        rw [hhd j lt]
    simp only [e] at h
    exact h
theorem fin_of {listed : Array Bool} (hn : n < ops.size) (inv : HeadInv md ops n listed) (h : ∀ i, i < n → listed.getD i true = true) : listed = finA ops.size n := by
  have s := inv.size
  unfold finA
  refine Array.ext (by simp; omega) fun i h1 h2 => ?_
  by_cases c : i < n
  · have := h i c
    rw [Array.getElem_append_left (by simpa using c)]
    simp [h1] at this
    simpa using this
  · have := inv.tail i (by omega) (by omega)
    rw [Array.getElem_append_right (by simp; omega)]
    simp [h1] at this
    simpa using this
theorem wpAny_of_headQ {g : Nat} {Q1 : Act → Prop} {Q' : Exit → Act → World → Prop} (hhd : ∀ i, i < n → hd[i]? = ops[i]?) (hsz : hd.size = n) (hn : n < ops.size) (hb : backB md ops n = true) (hs : Region.sinkB md ops n = true) (hc : Region.chainB md ops n = true)
    (hL : ∀ a w, C w → Q1 a → wpAny P md ops Q' g (finA ops.size n) a w) :
    ∀ (fuel : Nat) (listed lh : Array Bool) (a : Act) (w : World), C w → HeadInv md ops n listed → lh.size = n → (∀ i, i < n → lh.getD i true = listed.getD i true) →
      wpAnyQ P md hd C Q1 fuel lh a → wpAny P md ops Q' (fuel + g) listed a w := by
  intro fuel
  induction fuel with
  | zero =>
    intro listed lh a w hC inv hl he h
    have hls : n ≤ listed.size := by rw [inv.size]; omega
    rcases some_ready (by omega) hb hls with all | ⟨i, hi, hr⟩
    · rw [Nat.zero_add, fin_of hn inv all]
      exact hL a w hC h.2
    · have := (ready_head hhd hb hl hls he hi).2 hr
      rw [h.1] at this
      cases this
  | succ fuel ih =>
    intro listed lh a w hC inv hl he h
    have hls : n ≤ listed.size := by rw [inv.size]; omega
    rcases some_ready (by omega) hb hls with all | ⟨i0, hi0, hr0⟩
    · have no : Region.ready md hd lh = [] := by
        rw [List.eq_nil_iff_forall_not_mem]
        intro i hi
        obtain ⟨u, o, ho, _⟩ := mem_ready.1 hi
        have lt : i < n := by rw [← hsz]; exact (Array.getElem?_eq_some_iff.1 ho).1
        rw [he i lt, all i lt] at u
        cases u
      rw [Nat.add_comm (fuel + 1) g, fin_of hn inv all]
      exact wpAny_more g (fuel + 1) _ a w (hL a w hC (h.1 no))
    · rw [show fuel + 1 + g = (fuel + g) + 1 by omega]
      refine ⟨fun h0 => (by rw [h0] at hr0; cases hr0), fun i hi => ?_⟩
      have lt : i < n := by
        by_cases c : i < n
        · exact c
        · exact absurd hi (tail_waits hs hc hn inv _ i0 rfl hi0 (mem_ready.1 hr0).1 i (by omega))
      have hq := qOp_head hhd hb lt (h.2 i ((ready_head hhd hb hl hls he lt).2 hi))
      refine wpOp_of_qOp hC (fun a' w' hC' h' => ih _ _ a' w' hC' (inv.set hi lt) (by simp [hl]) (fun j hj => ?_) h') hq
      by_cases e : i = j
      · subst e
        simp [hl, lt, show i < listed.size by omega]
      · rw [getD_set_ne true e, getD_set_ne true e, he j hj]
end
/-- what is asked of the region's text -/
def tailB (ops : Array Oper) (n : Nat) : Bool :=
  decide (n < ops.size) && backB .any ops n && Region.sinkB .any ops n && Region.chainB .any ops n && Region.seqB .any ops (ops.size - n) n (finA ops.size n)
theorem region_tail {P : Program} {id : Nat} {Q : Exit → Act → World → Prop} {a : Act} {w : World} {l : List Oper} {U : Type} (n : Nat) (F : U → World) (hm : P.follows .mixedOrders = true) (hB : Region.lexB .any (l.take n).toArray = true) (hT : tailB l.toArray n = true)
    (hC : ∃ u, w.drew = F u)
    (h : wpQuiet P (l.take n).toArray (fun w' => ∃ u, w' = F u) (fun a' => ∀ w', (∃ u, w' = F u) → wpList P l.toArray Q (l.drop n) a' w') (l.take n) a) : (Code.region id l.toArray true).wp P Q a w := by
  simp only [tailB, Bool.and_eq_true, decide_eq_true_eq] at hT
  obtain ⟨⟨⟨⟨hn, hb⟩, hs⟩, hc⟩, hq⟩ := hT
  have hn' : n < l.length := by simpa using hn
  have htl : (l.take n).toArray.size = n := by simp; omega
  have hdl : (l.drop n).length = l.toArray.size - n := by simp
  refine wp_region_any hm ?_
  simp only [Region.lexB, Bool.and_eq_true] at hB
  have H := wpAnyQ_lex (P := P) (C := fun w' => ∃ u, w' = F u) (md := .any) hB.1 (l.take n) 0 (Array.replicate (l.take n).toArray.size false) a (by simp) (by simpa using hB.2) h
  have inv0 : HeadInv .any l.toArray n (Array.replicate l.toArray.size false) :=
    ⟨by simp, fun j oj _ hl => (by rw [getD_replicate_false] at hl; cases hl), fun t _ ht => getD_in (by simpa using ht) (getD_replicate_false _ _)⟩
  have := wpAny_of_headQ (P := P) (Q' := Q) (g := l.toArray.size - n) (hd := (l.take n).toArray) (ops := l.toArray) (fun i hi => by simp [hi]) htl hn hb hs hc
    (fun a' w' hC' h' => by
      have := wpAny_of_seq (P := P) (md := .any) (ops := l.toArray) (Q' := Q) (l.drop n) n (finA l.toArray.size n) a' w' (fun j => by simp) (by rw [hdl]; exact hq) (h' w' hC')
      rwa [hdl] at this)
    (l.take n).length _ _ a w.drew hC inv0 (by simpa using htl) (fun i hi => by
      rw [getD_in (listed := Array.replicate l.toArray.size false) (by simp; omega) (getD_replicate_false _ _)]
      exact getD_in (by rw [Array.size_replicate]; omega) (getD_replicate_false _ _)) H
  have e : (l.take n).length + (l.toArray.size - n) = l.toArray.size := by simp; omega
  rw [e] at this
  exact this
end Go.Proofs.YtkckcohemalhiaaGreatDoor
