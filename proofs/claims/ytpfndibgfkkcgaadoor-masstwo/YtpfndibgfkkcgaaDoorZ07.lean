/-
  Some of the texts of this proof, one behind the other.
-/
import Derived.Test.YtpfndibgfkkcgaaDoorRows
import Derived.Deep.OwnRows
import Derived.Deep.Cut
import Derived.Deep.CutRange
import Derived.Deep.AppendLies
import Derived.Deep.AppendSrc
import Derived.OwnWalk
import Derived.Deep.QuietTactic
import Derived.ProofKit
import Derived.OpenShut
import Derived.WalkLawsBesides
import Derived.Stop.Joined
import Derived.Carry
import Derived.Lib.SmallJoins
import Derived.Deep.SlicePairs
import Derived.Deep.Slices
import Derived.Test.YtpfndibgfkkcgaaDoorZ06
namespace Go.Proofs.YtpfndibgfkkcgaaDoor
open Go.RowKit Go.Deep
namespace Sh
/-- a list of so many whole numbers -/
def IsI (w : World) (a0 : Option Addr) (len : Nat) (xs : Nat → Int) : Prop := ∀ k, k < len → (-9223372036854775808 ≤ xs k ∧ xs k ≤ 9223372036854775807) ∧ ∃ b o, a0 = some ⟨b, o, none⟩ ∧ b < w.heap.size ∧ w.cell? ⟨b, o + k, none⟩ = some (.int .i64 (xs k))
theorem IsI.below {w w' : World} {a0 : Option Addr} {len : Nat} {xs : Nat → Int} (h : IsI w a0 len xs) (hb : Below w.heap.size w w') : IsI w' a0 len xs := by
  intro k hk
  obtain ⟨h1, b, o, h2, h3, h4⟩ := h k hk
  exact ⟨h1, b, o, h2, Nat.lt_of_lt_of_le h3 hb.size, (Below.cell hb h3).trans h4⟩
theorem IsI.some0 {w : World} {a0 : Option Addr} {len : Nat} {xs : Nat → Int} (h : IsI w a0 len xs) (h0 : 0 < len) : ∃ b o, a0 = some ⟨b, o, none⟩ := by
  obtain ⟨_, b, o, h2, _⟩ := h 0 h0
  exact ⟨b, o, h2⟩
theorem IsI.at0 {w : World} {b o len k : Nat} {xs : Nat → Int} (h : IsI w (some ⟨b, o, none⟩) len xs) (hk : k < len) : (-9223372036854775808 ≤ xs k ∧ xs k ≤ 9223372036854775807) ∧ b < w.heap.size ∧ w.cell? ⟨b, o + k, none⟩ = some (.int .i64 (xs k)) := by
  obtain ⟨h1, b', o', h2, h3, h4⟩ := h k hk
  cases h2
  exact ⟨h1, h3, h4⟩
theorem IsI.nil (w : World) (a0 : Option Addr) (xs : Nat → Int) : IsI w a0 0 xs := fun k hk => absurd hk (Nat.not_lt_zero k)
theorem IsI.congr {w : World} {a0 : Option Addr} {len : Nat} {xs ys : Nat → Int} (h : IsI w a0 len xs) (e : ∀ k, k < len → xs k = ys k) : IsI w a0 len ys := fun k hk => by rw [← e k hk]; exact h k hk
theorem add_off (b off j : Nat) : (⟨b, off, none⟩ : Addr).add j = ⟨b, off + j, none⟩ := by unfold Addr.add; split <;> simp_all
theorem row_in {w : World} {b n : Nat} {f : Nat → Int} (h : w.rowIs b 2 n (fun i => .int .i64 (f i))) (hf : ∀ i, i < n → -9223372036854775808 ≤ f i ∧ f i ≤ 9223372036854775807) : IsI w (some ⟨b, 0, none⟩) n f := fun k hk => ⟨hf k hk, b, 0, rfl, h.lt, by rw [Nat.zero_add]; exact h.cell hk⟩
theorem row_ab {w w' : World} {b : Nat} {t : TypeId} {n : Nat} {f : Nat → Value} (h : w.rowIs b t n f) (a : Ab w w') : w'.rowIs b t n f := h.of_block (Below.block a _ h.lt)
theorem info64 : (Tryd.prog.info? 2).map (fun i => (i.zero, i.size, i.bytes)) = some (some (.int .i64 0), 1, 8) := by kernel_rfl
/-- a list of the call's own, of so many whole numbers -/
def Own (B : Nat) (v : Value) (l : List Int) (w : World) : Prop := w.ownsRow B 2 1 v l.length (l.map (Value.int .i64))
theorem Own.in {B : Nat} {v : Value} {l : List Int} {w : World} (h : Own B v l w) (hl : ∀ x ∈ l, -9223372036854775808 ≤ x ∧ x ≤ 9223372036854775807) : ∃ a0 cap, v = .slice a0 l.length cap ∧ IsI w a0 l.length (fun j => l.getD j 0) := by
  rcases h.2 with ⟨rfl, h0⟩ | ⟨g, cap, cur, rfl, hb, hg, h1, h2, h3, h4⟩
  · exact ⟨none, 0, by rw [h0], fun k hk => by omega⟩
  · refine ⟨some ⟨g, 0, none⟩, cap, rfl, fun k hk => ?_⟩
    have hx : l.getD k 0 = l[k] := by simp [List.getD, hk]
    refine ⟨by dsimp only; rw [hx]; exact hl _ (List.getElem_mem _), g, 0, rfl, lt_of_block hg, ?_⟩
    have e := h.cells (g := g) rfl k (.int .i64 (l.getD k 0)) (by simp [hk])
    rw [add_off] at e
    exact e
theorem Own.to {B : Nat} {v : Value} {l : List Int} {w w' : World} (h : Own B v l w) (hb : Ab w w') : Own B v l w' := by
  refine ⟨h.1, ?_⟩
  rcases h.2 with h0 | ⟨g, cap, cur, e, hb', hg, h1, h2, h3, h4⟩
  · exact .inl h0
  · exact .inr ⟨g, cap, cur, e, hb', hb.heap hg, h1, h2, h3, h4⟩
/-- all blocks of V but g are in w as they were -/
def Abo (V : World) (g : Nat) (w : World) : Prop := w.os = V.os ∧ w.tape = V.tape ∧ w.output = V.output ∧ V.heap.size ≤ w.heap.size ∧ ∀ k, k < V.heap.size → k ≠ g → w.heap[k]? = V.heap[k]?
theorem Abo.ab {w0 V w : World} {g : Nat} (h : Abo V g w) (a : Ab w0 V) (hg : w0.heap.size ≤ g) : Ab w0 w := by
  obtain ⟨h1, h2, h3, h4, h5⟩ := h
  exact ⟨h1.trans a.os, h2.trans a.tape, h3.trans a.output, Nat.le_trans (Below.size a) h4, fun k hk => (h5 k (Nat.lt_of_lt_of_le hk (Below.size a)) (by omega)).trans (a.block k hk)⟩
theorem Abo.refl (V : World) (g : Nat) : Abo V g V := ⟨rfl, rfl, rfl, Nat.le_refl _, fun _ _ _ => rfl⟩
theorem Own.alloc {B : Nat} {v : Value} {l : List Int} {w : World} (h : Own B v l w) (O : Obj) : Own B v l (w.alloc O) := World.ownsRow.alloc h O
end Sh
end Go.Proofs.YtpfndibgfkkcgaaDoor

namespace Go.Proofs.YtpfndibgfkkcgaaDoor
open Go.RowKit Go.Deep Cu
namespace Ms
open Sh
/-- within 64 bits -/
def W64 (x : Int) : Prop := -9223372036854775808 ≤ x ∧ x ≤ 9223372036854775807
/-- whether the lists fit -/
def fit2 (n lw lf : Nat) : Prop := lw = 6 * n * n ∧ lf = 12 * n * n
/-- whether what comes out can be -/
def can (n : Nat) (W F : Nat → Int) : Prop := ∀ c, c < 6 * n * n → 0 ≤ mv n W F c ∧ mv n W F c ≤ 9223372036854775807
/-- what Move is to answer -/
def MoveC : Prop := ∀ (n gb : Nat) (pw : Option Addr) (lw cw : Nat) (W : Nat → Int) (pf : Option Addr) (lf cf : Nat) (F : Nat → Int) (w : World), (1 ≤ n ∧ n ≤ 32) → GridOf n gb w → lw ≤ 9223372036854775807 → lf ≤ 9223372036854775807 → IsI w pw lw W → IsI w pf lf F →
    (fit2 n lw lf → can n W F → Calls Tryd.prog 13 #[.pointer (some ⟨gb, 0, none⟩), .slice pw lw cw, .slice pf lf cf] w fun e w' => ∃ v, e = .returned (.tuple #[v, .int .i64 0]) ∧ Below w.heap.size w w' ∧ Own w.heap.size v ((List.range (6 * n * n)).map (mv n W F)) w') ∧
    (fit2 n lw lf → ¬ can n W F → Calls Tryd.prog 13 #[.pointer (some ⟨gb, 0, none⟩), .slice pw lw cw, .slice pf lf cf] w fun e w' => e = .returned (.tuple #[.slice none 0 0, .int .i64 20]) ∧ Below w.heap.size w w') ∧
    (¬ fit2 n lw lf → Calls Tryd.prog 13 #[.pointer (some ⟨gb, 0, none⟩), .slice pw lw cw, .slice pf lf cf] w fun e w' => e = .returned (.tuple #[.slice none 0 0, .int .i64 1]) ∧ Below w.heap.size w w')
/-- what Total is to answer -/
def TotalC : Prop := ∀ (pw : Option Addr) (lw cw : Nat) (W : Nat → Int) (pm : Option Addr) (lm cm : Nat) (M : Nat → Int) (w : World), lw ≤ 17592186044416 → lm ≤ 17592186044416 → IsI w pw lw W → IsI w pm lm M →
    (W64 (sumN W lw + sumN M lm) → Calls Tryd.prog 10 #[.slice pw lw cw, .slice pm lm cm] w fun e w' => e = .returned (.tuple #[.int .i64 (sumN W lw + sumN M lm), .int .i64 0]) ∧ Below w.heap.size w w') ∧
    (¬ W64 (sumN W lw + sumN M lm) → Calls Tryd.prog 10 #[.slice pw lw cw, .slice pm lm cm] w fun e w' => e = .returned (.tuple #[.int .i64 0, .int .i64 20]) ∧ Below w.heap.size w w')
/-- the list that Move answers, read -/
theorem own_mv {B m : Nat} {v : Value} {f : Nat → Int} {w : World} (h : Own B v ((List.range m).map f) w) (hf : ∀ c, c < m → 0 ≤ f c ∧ f c ≤ 9223372036854775807) : ∃ a0 cap, v = .slice a0 m cap ∧ IsI w a0 m f := by
  obtain ⟨a0, cap, e, i⟩ := h.in (fun x hx => by
    obtain ⟨j, hj, rfl⟩ := List.mem_map.1 hx
    have := hf j (List.mem_range.1 hj)
    omega)
  rw [List.length_map, List.length_range] at e i
  exact ⟨a0, cap, e, i.congr (fun k hk => by simp [List.getD, hk])⟩
end Ms
end Go.Proofs.YtpfndibgfkkcgaaDoor

namespace Go.Proofs.YtpfndibgfkkcgaaDoor
open Go.RowKit Go.Deep
namespace Ms
open Sh
set_option maxRecDepth 100000 in
set_option maxHeartbeats 4000000 in
theorem same_at (pa pb : Option Addr) (len ca cb : Nat) (xs : Nat → Int) (w : World) (hl : len ≤ 281474976710656) (hA : IsI w pa len xs) (hB : IsI w pb len xs) :
    Calls Tryd.prog 18 #[.slice pa len ca, .slice pb len cb] w fun e w' => e = .returned (.bool true) ∧ Below w.heap.size w w' := by
  have HA := hid hA
  have HB := hid hB
  have HL := hid hl
  clear hA hB hl
  go_enter Tryd.func18, Tryd.ntmps18
  go_wp2
  go_loopw [5] (fun iv wr => ∃ c : Nat, c ≤ len ∧ iv = .int .i64 (c : Nat) ∧ Ab w wr) (fun iv _ => len - (intOf iv).toNat)
  case atStart => exact ⟨0, by omega, rfl, Ab.refl w⟩
  case round =>
    obtain ⟨c, hc, rfl, ar⟩ := hrel
    have AR := hid ar
    clear ar
    by_cases h : c < len
    · have HC := hid h
      obtain ⟨x, hx⟩ : ∃ x, xs c = x := ⟨_, rfl⟩
      obtain ⟨-, b1, o1, e1, l1, c1⟩ := HA.out c h
      obtain ⟨-, b2, o2, e2, l2, c2⟩ := HB.out c h
      rw [hx] at c1 c2
      have C1 := hid c1
      have C2 := hid c2
      have L1 := hid l1
      have L2 := hid l2
      have hcI : (c : Int) < len := by omega
      have hcB : (c : Int) ≤ 281474976710656 := by have := HL.out; omega
      clear c1 c2 l1 l2 hx h
      subst e1 e2
      go_upto_region 6 with fail
      obtain ⟨UU, E, hF1, hF2⟩ := cls wr
      have HU := hid hF2
      have HU1 := hid hF1
      have x1 : ∀ u, (E u).cell? ⟨b1, o1 + c, none⟩ = some (.int .i64 x) := fun u => (Below.cell (AR.out.trans (hF1 u)) L1.out).trans C1.out
      have x2 : ∀ u, (E u).cell? ⟨b2, o2 + c, none⟩ = some (.int .i64 x) := fun u => (Below.cell (AR.out.trans (hF1 u)) L2.out).trans C2.out
      have DD0 := HU.out _ (Ab.refl wr).drew
      clear hF1 hF2
      refine region_cls E (by kernel_rfl) (by kernel_rfl) DD0 ?_
      repeat (go_big_quiet_step (with_reducible rfl))
      refine wpQuiet_nil ?_
      intro z hwz
      obtain ⟨u0, hu⟩ := hwz
      have AZ : Hid (Ab w z) := by rw [hu]; exact AR.out.trans (HU1.out u0)
      clear hu u0
      clear HU HU1 DD0 x1 x2
      clear E UU
      go_wp2
      go_roundw
      case rel => exact ⟨c + 1, by have := HC.out; omega, by simp, AZ.out⟩
      case measure => simp [intOf]; have := HC.out; omega
    · have e : len = c := by omega
      subst e
      go_wp2
      go_ret
      exact ⟨rfl, AR.out⟩
end Ms
end Go.Proofs.YtpfndibgfkkcgaaDoor

namespace Go.Proofs.YtpfndibgfkkcgaaDoor
open Go.RowKit Go.Deep Cu
namespace Ms
open Sh
set_option maxRecDepth 100000 in
set_option maxHeartbeats 4000000 in
theorem one_at (N k : Nat) (q : Int) (w : World) (hN : N ≤ 65536) (hk : k < N) :
    Calls Tryd.prog 20 #[.int .i64 (N : Nat), .int .i64 (k : Nat), .int .i64 q] w fun e w' => ∃ b, e = .returned (.slice (some ⟨b, 0, none⟩) N N) ∧ Below w.heap.size w w' ∧ w'.rowIs b 2 N (fun i => .int .i64 (oneF k q i)) ∧ w.heap.size ≤ b := by
  have MK := run_make_row' (P := Tryd.prog) 22 2 (.int .i64 0) 8 Tryd.underlying22 info64 rfl .i64 .i64 N (by omega) (by omega) w
  obtain ⟨ob, hob⟩ : ∃ b, w.heap.size = b := ⟨_, rfl⟩
  have R0 : (w.alloc (.cells (madeCells #[.int .i64 0] N) 2)).rowIs ob 2 N (fun _ => .int .i64 0) := by rw [← hob]; exact World.rowIs_made _ _ _ _
  have A0 : Hid (Ab w (w.alloc (.cells (madeCells #[.int .i64 0] N) 2))) := bl1 w _
  have HO : Hid (w.heap.size ≤ ob) := Nat.le_of_eq hob
  have kI : (k : Int) < N := by omega
  have z1 := R0.cell hk
  have z2 := R0.frozen k
  have RW := hid R0
  clear R0
  generalize w.alloc (.cells (madeCells #[.int .i64 0] N) 2) = wm at *
  go_enter Tryd.func20, Tryd.ntmps20
  go_wp2
  go_ret
  refine ⟨ob, rfl, Ab.set A0.out HO.out _, (RW.out.set k _).congr (fun i _ => ?_), HO.out⟩
  unfold oneF
  by_cases e : i = k <;> simp [e]
end Ms
end Go.Proofs.YtpfndibgfkkcgaaDoor

namespace Go.Proofs.YtpfndibgfkkcgaaDoor
open Go.RowKit Go.Deep Cu
namespace Ms
open Sh
theorem lit_in (w : World) (l : List Int) (hl : ∀ x ∈ l, W64 x) : IsI (w.alloc (.cells (l.map (Value.int .i64)).toArray 2)) (some ⟨w.heap.size, 0, none⟩) l.length (fun i => l.getD i 0) := fun k hk => by
  have h := heap_alloc_new w (.cells (l.map (Value.int .i64)).toArray 2)
  refine ⟨?_, w.heap.size, 0, rfl, lt_of_block h, ?_⟩
  · have e : l.getD k 0 = l[k] := by simp [List.getD, hk]
    dsimp only
    rw [e]
    exact hl _ (List.getElem_mem _)
  · rw [Nat.zero_add]
    refine (cell_of_row _ _ k _ _ _ h).trans ?_
    simp [hk, List.getD]
def w5 (i : Nat) : Int := [5, 0, 0, 0, 0, 0].getD i 0
theorem aw_mv : (List.range (6 * 1 * 1)).map (mv 1 w5 (oneF 0 3)) = [2, 3, 0, 0, 0, 0] := by decide +kernel
theorem aw_can : can 1 w5 (oneF 0 3) := by
  intro c hc
  have h : ∀ c, c < 6 → 0 ≤ mv 1 w5 (oneF 0 3) c ∧ mv 1 w5 (oneF 0 3) c ≤ 9223372036854775807 := by decide +kernel
  exact h c (by omega)
theorem aw_not : ¬ can 1 w5 (oneF 0 6) := fun h => by
  have h0 := (h 0 (by omega)).1
  have e : mv 1 w5 (oneF 0 6) 0 = -1 := by decide +kernel
  omega
set_option maxRecDepth 100000 in
set_option maxHeartbeats 16000000 in
theorem awake_at (MC : MoveC) (TC : TotalC) (w : World) (hF : Fr w) :
    Calls Tryd.prog 9 #[] w fun e w' => e = .returned (.bool true) ∧ Below w.heap.size w w' := by
  have NW : Hid (Calls Tryd.prog 12 #[.int .i64 1] w fun e w' => ∃ gb, e = .returned (.tuple #[.pointer (some ⟨gb, 0, none⟩), .int .i64 0]) ∧ Ab w w' ∧ w.heap.size ≤ gb ∧ GridOf 1 gb w') := new_at 1 w ⟨by omega, by omega⟩ hF
  have O3 : Hid (∀ v, Calls Tryd.prog 20 #[.int .i64 12, .int .i64 0, .int .i64 3] v fun e w' => ∃ b, e = .returned (.slice (some ⟨b, 0, none⟩) 12 12) ∧ Below v.heap.size v w' ∧ w'.rowIs b 2 12 (fun i => .int .i64 (oneF 0 3 i)) ∧ v.heap.size ≤ b) := fun v => one_at 12 0 3 v (by omega) (by omega)
  have O6 : Hid (∀ v, Calls Tryd.prog 20 #[.int .i64 12, .int .i64 0, .int .i64 6] v fun e w' => ∃ b, e = .returned (.slice (some ⟨b, 0, none⟩) 12 12) ∧ Below v.heap.size v w' ∧ w'.rowIs b 2 12 (fun i => .int .i64 (oneF 0 6 i)) ∧ v.heap.size ≤ b) := fun v => one_at 12 0 6 v (by omega) (by omega)
  have L5 : Hid (∀ v : World, IsI (v.alloc (.cells #[.int .i64 5, .int .i64 0, .int .i64 0, .int .i64 0, .int .i64 0, .int .i64 0] 2)) (some ⟨v.heap.size, 0, none⟩) 6 w5) := fun v => lit_in v [5, 0, 0, 0, 0, 0] (fun x hx => by simp at hx; unfold W64; omega)
  have L2 : Hid (∀ v : World, IsI (v.alloc (.cells #[.int .i64 2, .int .i64 3, .int .i64 0, .int .i64 0, .int .i64 0, .int .i64 0] 2)) (some ⟨v.heap.size, 0, none⟩) 6 (fun i => [2, 3, 0, 0, 0, 0].getD i 0)) := fun v => lit_in v [2, 3, 0, 0, 0, 0] (fun x hx => by simp at hx; unfold W64; omega)
  have T1 : Hid (∀ v : World, Calls Tryd.prog 10 #[.slice (some ⟨v.heap.size, 0, none⟩) 2 2, .slice (some ⟨v.heap.size + 1, 0, none⟩) 1 1] ((v.alloc (.cells #[.int .i64 9223372036854775807, .int .i64 1] 2)).alloc (.cells #[.int .i64 (-1)] 2)) fun e w' => e = .returned (.tuple #[.int .i64 9223372036854775807, .int .i64 0]) ∧ Ab v w') := fun v => by
    have i1 := (lit_in v [9223372036854775807, 1] (fun x hx => by simp at hx; unfold W64; omega)).below (bl1 _ (.cells #[.int .i64 (-1)] 2))
    have i2 := lit_in (v.alloc (.cells #[.int .i64 9223372036854775807, .int .i64 1] 2)) [-1] (fun x hx => by simp at hx; unfold W64; omega)
    rw [show (v.alloc (.cells #[.int .i64 9223372036854775807, .int .i64 1] 2)).heap.size = v.heap.size + 1 by simp] at i2
    refine ((TC (some ⟨v.heap.size, 0, none⟩) 2 2 _ (some ⟨v.heap.size + 1, 0, none⟩) 1 1 _ _ (by omega) (by omega) i1 i2).1 (show W64 9223372036854775807 by unfold W64; omega)).mono ?_
    rintro e w' ⟨rfl, b⟩
    exact ⟨rfl, Ab.trans (bl2 _ _ _) b⟩
  have T2 : Hid (∀ v : World, Calls Tryd.prog 10 #[.slice (some ⟨v.heap.size, 0, none⟩) 2 2, .slice none 0 0] (v.alloc (.cells #[.int .i64 9223372036854775807, .int .i64 1] 2)) fun e w' => e = .returned (.tuple #[.int .i64 0, .int .i64 20]) ∧ Ab v w') := fun v => by
    have i1 := lit_in v [9223372036854775807, 1] (fun x hx => by simp at hx; unfold W64; omega)
    refine ((TC (some ⟨v.heap.size, 0, none⟩) 2 2 _ none 0 0 (fun _ => 0) _ (by omega) (by omega) i1 (IsI.nil _ _ _)).2 (show ¬ W64 9223372036854775808 by unfold W64; omega)).mono ?_
    rintro e w' ⟨rfl, b⟩
    exact ⟨rfl, Ab.trans (bl1 _ _) b⟩
  have HM := hid MC
  clear MC TC hF
  go_enter Tryd.func9, Tryd.ntmps9
  go_wp2_with fail
  refine NW.out.mono ?_
  rintro e9 v1 ⟨gb, rfl, a1, -, g1⟩
  have A1 := hid a1
  have G1 := hid g1
  have ED : Hid (Calls Tryd.prog 15 #[.pointer (some ⟨gb, 0, none⟩)] v1 fun e w' => e = .returned (.int .i64 12) ∧ w' = v1) := gEdges_at g1
  clear a1 g1 NW
  go_wp2_with fail
  refine ED.out.mono ?_
  rintro e9 v9 ⟨rfl, hv9⟩
  have hv8 := hv9.symm
  subst hv8
  clear ED
  go_wp2_with fail
  refine (O3.out _).mono ?_
  rintro e9 v2 ⟨b, rfl, b2, r2, l2⟩
  have A2 : Hid (Ab v1 v2) := Ab.trans (bl1 v1 _) b2
  have I2 := hid ((L5.out v1).below b2)
  have R2 := hid r2
  have M1 := hid ((HM.out 1 gb (some ⟨v1.heap.size, 0, none⟩) 6 6 w5 (some ⟨b, 0, none⟩) 12 12 (oneF 0 3) v2 ⟨by omega, by omega⟩ (G1.out.to A2.out) (by omega) (by omega) I2.out (row_in R2.out (fun i _ => by unfold oneF; split <;> omega))).1 ⟨rfl, rfl⟩ aw_can)
  rw [aw_mv] at M1
  clear b2 r2 l2 I2 R2
  go_wp2_with fail
  refine M1.out.mono ?_
  rintro e9 v3 ⟨lv, rfl, b3, o3⟩
  obtain ⟨a0, cap, hlv, i3⟩ := o3.in (fun x hx => by simp at hx; omega)
  subst hlv
  have A3 : Hid (Ab v1 v3) := A2.out.trans b3
  have I3 := hid i3
  clear b3 o3 i3 M1 A2
  go_wp2_with fail
  refine (O6.out _).mono ?_
  rintro e9 v4 ⟨b', rfl, b4, r4, l4⟩
  have A4 : Hid (Ab v3 v4) := Ab.trans (bl1 v3 _) b4
  have I4 := hid ((L5.out v3).below b4)
  have R4 := hid r4
  have M2 := hid ((HM.out 1 gb (some ⟨v3.heap.size, 0, none⟩) 6 6 w5 (some ⟨b', 0, none⟩) 12 12 (oneF 0 6) v4 ⟨by omega, by omega⟩ (G1.out.to (A3.out.trans A4.out)) (by omega) (by omega) I4.out (row_in R4.out (fun i _ => by unfold oneF; split <;> omega))).2.1 ⟨rfl, rfl⟩ aw_not)
  clear b4 r4 l4 I4 R4
  go_wp2_with fail
  refine M2.out.mono ?_
  rintro e9 v5 ⟨rfl, b5⟩
  have A5 : Hid (Ab v3 v5) := A4.out.trans b5
  clear b5 M2 A4
  go_wp2_with fail
  refine (T1.out v5).mono ?_
  rintro e9 v6 ⟨rfl, a6⟩
  have A6 : Hid (Ab v3 v6) := A5.out.trans a6
  clear a6 A5
  go_wp2_with fail
  refine (T2.out v6).mono ?_
  rintro e9 v7 ⟨rfl, a7⟩
  have A7 : Hid (Ab v3 v7) := A6.out.trans a7
  clear a7 A6
  have S3 := hid (same_at a0 (some ⟨v7.heap.size, 0, none⟩) 6 cap 6 _ (v7.alloc (.cells #[.int .i64 2, .int .i64 3, .int .i64 0, .int .i64 0, .int .i64 0, .int .i64 0] 2)) (by omega) (I3.out.below (A7.out.alloc _)) (L2.out v7))
  go_wp2_with fail
  refine S3.out.mono ?_
  rintro e9 v8 ⟨rfl, b8⟩
  have A8 : Hid (Ab w v8) := A1.out.trans (A3.out.trans ((A7.out.alloc _).trans b8))
  clear b8
  go_wp2
  go_ret
  exact ⟨rfl, A8.out⟩
end Ms
end Go.Proofs.YtpfndibgfkkcgaaDoor

namespace Go.Proofs.YtpfndibgfkkcgaaDoor
open Go.RowKit Go.Deep Cu
namespace Ms
open Sh
set_option maxRecDepth 100000 in
set_option maxHeartbeats 8000000 in
theorem two_side (side : Int) (pw : Option Addr) (lw cw : Nat) (p1 : Option Addr) (l1 c1 : Nat) (p2 : Option Addr) (l2 c2 : Nat) (w : World)
    (AW : Hid (∀ v, Ab w v → Calls Tryd.prog 9 #[] v fun e w' => e = .returned (.bool true) ∧ Below v.heap.size v w')) (NW : Hid (∀ v, Calls Tryd.prog 12 #[.int .i64 side] v fun e w' => e = .returned (.tuple #[.pointer none, .int .i64 10]) ∧ w' = v)) :
    Calls Tryd.prog 6 #[.int .i64 side, .slice pw lw cw, .agg #[.slice p1 l1 c1, .slice p2 l2 c2]] w fun e w' => e = .returned (.bool true) ∧ Below w.heap.size w w' := by
  have AX : Hid (Ab w (w.alloc (.cells #[.slice p1 l1 c1, .slice p2 l2 c2] 46))) := bl1 _ _
  have RX : Hid ((w.alloc (.cells #[.slice p1 l1 c1, .slice p2 l2 c2] 46)).heap[w.heap.size]? = some (.cells #[.slice p1 l1 c1, .slice p2 l2 c2] 46)) := heap_alloc_new _ _
  obtain ⟨gx, hgx⟩ : ∃ g, w.heap.size = g := ⟨_, rfl⟩
  rw [hgx] at RX
  go_enter Tryd.func6, Tryd.ntmps6
  go_upto_region 1 with fail
  try rw [hgx]
  generalize hV : (w.alloc (.cells #[.slice p1 l1 c1, .slice p2 l2 c2] 46)) = V at *
  clear hV hgx
  go_wp2_with fail
  refine (AW.out V AX.out).mono ?_
  rintro e9 v0 ⟨rfl, b0⟩
  have A0 : Hid (Ab V v0) := b0
  clear b0
  go_wp2_with fail
  refine (NW.out _).mono ?_
  rintro e9 v9 ⟨rfl, hv9⟩
  have hv8 := hv9.symm
  subst hv8
  go_wp2
  go_ret
  exact ⟨rfl, AX.out.trans A0.out⟩
set_option maxRecDepth 100000 in
set_option maxHeartbeats 8000000 in
theorem two_len (n : Nat) (side : Int) (pw : Option Addr) (lw cw : Nat) (p1 : Option Addr) (l1 c1 : Nat) (p2 : Option Addr) (l2 c2 : Nat) (w : World) (hl : l1 ≠ l2)
    (AW : Hid (∀ v, Ab w v → Calls Tryd.prog 9 #[] v fun e w' => e = .returned (.bool true) ∧ Below v.heap.size v w')) (NW : Hid (∀ v, Ab w v → Calls Tryd.prog 12 #[.int .i64 side] v fun e w' => ∃ gb, e = .returned (.tuple #[.pointer (some ⟨gb, 0, none⟩), .int .i64 0]) ∧ Ab v w' ∧ GridOf n gb w')) :
    Calls Tryd.prog 6 #[.int .i64 side, .slice pw lw cw, .agg #[.slice p1 l1 c1, .slice p2 l2 c2]] w fun e w' => e = .returned (.bool true) ∧ Below w.heap.size w w' := by
  have d1 : ((l1 : Int) != (l2 : Int)) = true := by simp; omega
  clear hl
  have AX : Hid (Ab w (w.alloc (.cells #[.slice p1 l1 c1, .slice p2 l2 c2] 46))) := bl1 _ _
  have RX : Hid ((w.alloc (.cells #[.slice p1 l1 c1, .slice p2 l2 c2] 46)).heap[w.heap.size]? = some (.cells #[.slice p1 l1 c1, .slice p2 l2 c2] 46)) := heap_alloc_new _ _
  obtain ⟨gx, hgx⟩ : ∃ g, w.heap.size = g := ⟨_, rfl⟩
  rw [hgx] at RX
  go_enter Tryd.func6, Tryd.ntmps6
  go_upto_region 1 with fail
  try rw [hgx]
  generalize hV : (w.alloc (.cells #[.slice p1 l1 c1, .slice p2 l2 c2] 46)) = V at *
  clear hV hgx
  go_wp2_with fail
  refine (AW.out V AX.out).mono ?_
  rintro e9 v0 ⟨rfl, b0⟩
  have A0 : Hid (Ab V v0) := b0
  clear b0
  go_wp2_with fail
  refine (NW.out v0 (AX.out.trans A0.out)).mono ?_
  rintro e9 v1 ⟨gb, rfl, a1, g1⟩
  have A1 : Hid (Ab V v1) := A0.out.trans a1
  have G1 := hid g1
  clear a1 g1 A0
  have R1 := hid (A1.out.heap RX.out)
  have y0 := cell_of_row _ _ 0 _ _ _ R1.out
  have y1 := cell_of_row _ _ 1 _ _ _ R1.out
  go_wp2
  go_ret
  exact ⟨rfl, AX.out.trans A1.out⟩
set_option maxRecDepth 100000 in
set_option maxHeartbeats 8000000 in
theorem two_no1 (n : Nat) (side : Int) (pw : Option Addr) (lw cw : Nat) (p1 : Option Addr) (l1 c1 : Nat) (p2 : Option Addr) (l2 c2 : Nat) (w : World) (hl : l1 = l2) (er : Int) (hr : er ≠ 0)
    (AW : Hid (∀ v, Ab w v → Calls Tryd.prog 9 #[] v fun e w' => e = .returned (.bool true) ∧ Below v.heap.size v w')) (NW : Hid (∀ v, Ab w v → Calls Tryd.prog 12 #[.int .i64 side] v fun e w' => ∃ gb, e = .returned (.tuple #[.pointer (some ⟨gb, 0, none⟩), .int .i64 0]) ∧ Ab v w' ∧ GridOf n gb w'))
    (M1 : Hid (∀ v gb, Ab w v → GridOf n gb v → Calls Tryd.prog 13 #[.pointer (some ⟨gb, 0, none⟩), .slice pw lw cw, .slice p1 l1 c1] v fun e w' => e = .returned (.tuple #[.slice none 0 0, .int .i64 er]) ∧ Below v.heap.size v w')) :
    Calls Tryd.prog 6 #[.int .i64 side, .slice pw lw cw, .agg #[.slice p1 l1 c1, .slice p2 l2 c2]] w fun e w' => e = .returned (.bool true) ∧ Below w.heap.size w w' := by
  have d1 : ((l1 : Int) != (l2 : Int)) = false := by simp; omega
  have d2 : (er != 0) = true := by simp; omega
  clear hl hr
  have AX : Hid (Ab w (w.alloc (.cells #[.slice p1 l1 c1, .slice p2 l2 c2] 46))) := bl1 _ _
  have RX : Hid ((w.alloc (.cells #[.slice p1 l1 c1, .slice p2 l2 c2] 46)).heap[w.heap.size]? = some (.cells #[.slice p1 l1 c1, .slice p2 l2 c2] 46)) := heap_alloc_new _ _
  obtain ⟨gx, hgx⟩ : ∃ g, w.heap.size = g := ⟨_, rfl⟩
  rw [hgx] at RX
  go_enter Tryd.func6, Tryd.ntmps6
  go_upto_region 1 with fail
  try rw [hgx]
  generalize hV : (w.alloc (.cells #[.slice p1 l1 c1, .slice p2 l2 c2] 46)) = V at *
  clear hV hgx
  go_wp2_with fail
  refine (AW.out V AX.out).mono ?_
  rintro e9 v0 ⟨rfl, b0⟩
  have A0 : Hid (Ab V v0) := b0
  clear b0
  go_wp2_with fail
  refine (NW.out v0 (AX.out.trans A0.out)).mono ?_
  rintro e9 v1 ⟨gb, rfl, a1, g1⟩
  have A1 : Hid (Ab V v1) := A0.out.trans a1
  have G1 := hid g1
  clear a1 g1 A0
  have R1 := hid (A1.out.heap RX.out)
  have y0 := cell_of_row _ _ 0 _ _ _ R1.out
  have y1 := cell_of_row _ _ 1 _ _ _ R1.out
  go_wp2_with fail
  refine (M1.out v1 gb (AX.out.trans A1.out) G1.out).mono ?_
  rintro e9 v2 ⟨rfl, b2⟩
  have A2 : Hid (Ab V v2) := A1.out.trans b2
  clear b2
  go_wp2
  go_ret
  exact ⟨rfl, AX.out.trans A2.out⟩
set_option maxRecDepth 100000 in
set_option maxHeartbeats 8000000 in
theorem two_no2 (n : Nat) (side : Int) (pw : Option Addr) (lw cw : Nat) (p1 : Option Addr) (l1 c1 : Nat) (p2 : Option Addr) (l2 c2 : Nat) (w : World) (D : Nat → Int) (hl : l1 = l2)
    (AW : Hid (∀ v, Ab w v → Calls Tryd.prog 9 #[] v fun e w' => e = .returned (.bool true) ∧ Below v.heap.size v w')) (NW : Hid (∀ v, Ab w v → Calls Tryd.prog 12 #[.int .i64 side] v fun e w' => ∃ gb, e = .returned (.tuple #[.pointer (some ⟨gb, 0, none⟩), .int .i64 0]) ∧ Ab v w' ∧ GridOf n gb w'))
    (M1 : Hid (∀ v gb, Ab w v → GridOf n gb v → Calls Tryd.prog 13 #[.pointer (some ⟨gb, 0, none⟩), .slice pw lw cw, .slice p1 l1 c1] v fun e w' => ∃ a0 cap, e = .returned (.tuple #[.slice a0 lw cap, .int .i64 0]) ∧ Below v.heap.size v w' ∧ IsI w' a0 lw D))
    (M2 : Hid (∀ v gb a0 cap, Ab w v → GridOf n gb v → IsI v a0 lw D → Calls Tryd.prog 13 #[.pointer (some ⟨gb, 0, none⟩), .slice a0 lw cap, .slice p2 l2 c2] v fun e w' => e = .returned (.tuple #[.slice none 0 0, .int .i64 20]) ∧ Below v.heap.size v w')) :
    Calls Tryd.prog 6 #[.int .i64 side, .slice pw lw cw, .agg #[.slice p1 l1 c1, .slice p2 l2 c2]] w fun e w' => e = .returned (.bool true) ∧ Below w.heap.size w w' := by
  have d1 : ((l1 : Int) != (l2 : Int)) = false := by simp; omega
  clear hl
  have AX : Hid (Ab w (w.alloc (.cells #[.slice p1 l1 c1, .slice p2 l2 c2] 46))) := bl1 _ _
  have RX : Hid ((w.alloc (.cells #[.slice p1 l1 c1, .slice p2 l2 c2] 46)).heap[w.heap.size]? = some (.cells #[.slice p1 l1 c1, .slice p2 l2 c2] 46)) := heap_alloc_new _ _
  obtain ⟨gx, hgx⟩ : ∃ g, w.heap.size = g := ⟨_, rfl⟩
  rw [hgx] at RX
  go_enter Tryd.func6, Tryd.ntmps6
  go_upto_region 1 with fail
  try rw [hgx]
  generalize hV : (w.alloc (.cells #[.slice p1 l1 c1, .slice p2 l2 c2] 46)) = V at *
  clear hV hgx
  go_wp2_with fail
  refine (AW.out V AX.out).mono ?_
  rintro e9 v0 ⟨rfl, b0⟩
  have A0 : Hid (Ab V v0) := b0
  clear b0
  go_wp2_with fail
  refine (NW.out v0 (AX.out.trans A0.out)).mono ?_
  rintro e9 v1 ⟨gb, rfl, a1, g1⟩
  have A1 : Hid (Ab V v1) := A0.out.trans a1
  have G1 := hid g1
  clear a1 g1 A0
  have R1 := hid (A1.out.heap RX.out)
  have y0 := cell_of_row _ _ 0 _ _ _ R1.out
  have y1 := cell_of_row _ _ 1 _ _ _ R1.out
  go_wp2_with fail
  refine (M1.out v1 gb (AX.out.trans A1.out) G1.out).mono ?_
  rintro e9 v2 ⟨a2, k2, rfl, b2, i2⟩
  have A2 : Hid (Ab v1 v2) := b2
  have I2 := hid i2
  have R2 := hid (A2.out.heap R1.out)
  clear b2 i2 y0 y1
  have y0 := cell_of_row _ _ 0 _ _ _ R2.out
  have y1 := cell_of_row _ _ 1 _ _ _ R2.out
  go_wp2_with fail
  refine (M2.out v2 gb a2 k2 (AX.out.trans (A1.out.trans A2.out)) (G1.out.to A2.out) I2.out).mono ?_
  rintro e9 v3 ⟨rfl, b3⟩
  have A3 : Hid (Ab V v3) := A1.out.trans (A2.out.trans b3)
  clear b3
  go_wp2
  go_ret
  exact ⟨rfl, AX.out.trans A3.out⟩
set_option maxRecDepth 100000 in
set_option maxHeartbeats 16000000 in
theorem two_ok (n : Nat) (side : Int) (pw : Option Addr) (M cw b1 o1 N c1 b2 o2 c2 : Nat) (F H D E : Nat → Int) (w : World) (BN : Hid (M ≤ 6144 ∧ N ≤ 12288)) (h1 : IsI w (some ⟨b1, o1, none⟩) N F) (h2 : IsI w (some ⟨b2, o2, none⟩) N H)
    (AW : Hid (∀ v, Ab w v → Calls Tryd.prog 9 #[] v fun e w' => e = .returned (.bool true) ∧ Below v.heap.size v w')) (NW : Hid (∀ v, Ab w v → Calls Tryd.prog 12 #[.int .i64 side] v fun e w' => ∃ gb, e = .returned (.tuple #[.pointer (some ⟨gb, 0, none⟩), .int .i64 0]) ∧ Ab v w' ∧ GridOf n gb w'))
    (M1 : Hid (∀ v gb, Ab w v → GridOf n gb v → Calls Tryd.prog 13 #[.pointer (some ⟨gb, 0, none⟩), .slice pw M cw, .slice (some ⟨b1, o1, none⟩) N c1] v fun e w' => ∃ a0 cap, e = .returned (.tuple #[.slice a0 M cap, .int .i64 0]) ∧ Below v.heap.size v w' ∧ IsI w' a0 M D))
    (M2 : Hid (∀ v gb a0 cap, Ab w v → GridOf n gb v → IsI v a0 M D → Calls Tryd.prog 13 #[.pointer (some ⟨gb, 0, none⟩), .slice a0 M cap, .slice (some ⟨b2, o2, none⟩) N c2] v fun e w' => ∃ a0 cap, e = .returned (.tuple #[.slice a0 M cap, .int .i64 0]) ∧ Below v.heap.size v w' ∧ IsI w' a0 M E))
    (M3 : Hid (∀ v gb b, Ab w v → GridOf n gb v → v.rowIs b 2 N (fun i => .int .i64 (F i + H i)) → (∀ i, i < N → W64 (F i + H i)) → Calls Tryd.prog 13 #[.pointer (some ⟨gb, 0, none⟩), .slice pw M cw, .slice (some ⟨b, 0, none⟩) N N] v fun e w' => ∃ a0 cap, e = .returned (.tuple #[.slice a0 M cap, .int .i64 0]) ∧ Below v.heap.size v w' ∧ IsI w' a0 M E)) :
    Calls Tryd.prog 6 #[.int .i64 side, .slice pw M cw, .agg #[.slice (some ⟨b1, o1, none⟩) N c1, .slice (some ⟨b2, o2, none⟩) N c2]] w fun e w' => e = .returned (.bool true) ∧ Below w.heap.size w w' := by
  have H1 := hid h1
  have H2 := hid h2
  have d1 : ((N : Int) != (N : Int)) = false := by simp
  clear h1 h2
  have AX : Hid (Ab w (w.alloc (.cells #[.slice (some ⟨b1, o1, none⟩) N c1, .slice (some ⟨b2, o2, none⟩) N c2] 46))) := bl1 _ _
  have RX : Hid ((w.alloc (.cells #[.slice (some ⟨b1, o1, none⟩) N c1, .slice (some ⟨b2, o2, none⟩) N c2] 46)).heap[w.heap.size]? = some (.cells #[.slice (some ⟨b1, o1, none⟩) N c1, .slice (some ⟨b2, o2, none⟩) N c2] 46)) := heap_alloc_new _ _
  obtain ⟨gx, hgx⟩ : ∃ g, w.heap.size = g := ⟨_, rfl⟩
  rw [hgx] at RX
  go_enter Tryd.func6, Tryd.ntmps6
  go_upto_region 1 with fail
  try rw [hgx]
  generalize hV : (w.alloc (.cells #[.slice (some ⟨b1, o1, none⟩) N c1, .slice (some ⟨b2, o2, none⟩) N c2] 46)) = V at *
  clear hV hgx
  go_wp2_with fail
  refine (AW.out V AX.out).mono ?_
  rintro e9 v0 ⟨rfl, b0⟩
  have A0 : Hid (Ab V v0) := b0
  clear b0
  go_wp2_with fail
  refine (NW.out v0 (AX.out.trans A0.out)).mono ?_
  rintro e9 v1 ⟨gb, rfl, a1, g1⟩
  have A1 : Hid (Ab V v1) := A0.out.trans a1
  have G1 := hid g1
  clear a1 g1 A0
  have R1 := hid (A1.out.heap RX.out)
  have y0 := cell_of_row _ _ 0 _ _ _ R1.out
  have y1 := cell_of_row _ _ 1 _ _ _ R1.out
  go_wp2_with fail
  refine (M1.out v1 gb (AX.out.trans A1.out) G1.out).mono ?_
  rintro e9 v2 ⟨a2, k2, rfl, b2, i2⟩
  have A2 : Hid (Ab v1 v2) := b2
  have I2 := hid i2
  have R2 := hid (A2.out.heap R1.out)
  clear b2 i2 y0 y1
  have y0 := cell_of_row _ _ 0 _ _ _ R2.out
  have y1 := cell_of_row _ _ 1 _ _ _ R2.out
  go_wp2_with fail
  refine (M2.out v2 gb a2 k2 (AX.out.trans (A1.out.trans A2.out)) (G1.out.to A2.out) I2.out).mono ?_
  rintro e9 v3 ⟨a3, k3, rfl, b3, i3⟩
  have A3 : Hid (Ab w v3) := AX.out.trans (A1.out.trans (A2.out.trans b3))
  have R3 := hid (Ab.heap b3 R2.out)
  have I3 := hid i3
  have G3 := hid (G1.out.to (A2.out.trans b3))
  clear b3 i3 y0 y1 R1 R2 I2
  have MK := run_make_row' (P := Tryd.prog) 22 2 (.int .i64 0) 8 Tryd.underlying22 info64 rfl .i64 .i64 N (by have := BN.out; omega) (by have := BN.out; omega) v3
  obtain ⟨ob, hob⟩ : ∃ b, v3.heap.size = b := ⟨_, rfl⟩
  have RW : Hid ((v3.alloc (.cells (madeCells #[.int .i64 0] N) 2)).rowIs ob 2 N (fun _ => .int .i64 0)) := by rw [← hob]; exact World.rowIs_made _ _ _ _
  have AA : Hid (Ab v3 (v3.alloc (.cells (madeCells #[.int .i64 0] N) 2))) := bl1 v3 _
  have HO : Hid (v3.heap.size ≤ ob) := Nat.le_of_eq hob
  have z0 := cell_of_row _ _ 0 _ _ _ R3.out
  go_upto_region 13 with fail
  try rw [hob]
  generalize hU : World.alloc v3 _ = U at *
  clear hU hob MK z0
  go_wp2
  go_loopw [12] (fun iv wr => ∃ c : Nat, c ≤ N ∧ iv = .int .i64 (c : Nat) ∧ Ab v3 wr ∧ wr.rowIs ob 2 N (fun i => .int .i64 (if i < c then F i + H i else 0)) ∧ ∀ i, i < c → W64 (F i + H i)) (fun iv _ => N - (intOf iv).toNat)
  case atStart => exact ⟨0, by omega, rfl, AA.out, RW.out.congr (fun i _ => by simp), fun i hi => absurd hi (Nat.not_lt_zero i)⟩
  case round =>
    obtain ⟨c, hc, rfl, ar, rr, gg⟩ := hrel
    have AR := hid ar
    have RR := hid rr
    have GG := hid gg
    clear ar rr gg AA RW
    by_cases hcn : c < N
    · have HC := hid hcn
      have hcI : (c : Int) < N := by omega
      have hcB : (c : Int) ≤ 12288 := by have := BN.out; omega
      obtain ⟨x, hx⟩ : ∃ x, F c = x := ⟨_, rfl⟩
      obtain ⟨y, hy⟩ : ∃ x, H c = x := ⟨_, rfl⟩
      obtain ⟨z, hz⟩ : ∃ z, wrap64 (x + y) = z := ⟨_, rfl⟩
      have ax := (H1.out.below (A3.out.trans AR.out)).at0 hcn
      have ay := (H2.out.below (A3.out.trans AR.out)).at0 hcn
      rw [hx] at ax
      rw [hy] at ay
      have xc := ax.2.2
      have yc := ay.2.2
      have x1 := ax.1.1
      have x2 := ax.1.2
      have y1 := ay.1.1
      have y2 := ay.1.2
      have RB := hid (AR.out.heap R3.out)
      have f0 := cell_of_row _ _ 0 _ _ _ RB.out
      have f1 := cell_of_row _ _ 1 _ _ _ RB.out
      have s0 := RR.out.cell hcn
      have s1 := RR.out.frozen c
      have ZE : Hid (z = (x + y + 9223372036854775808) % 18446744073709551616 - 9223372036854775808) := by show _ = _; rw [← hz]; unfold wrap64; rfl
      have XE := hid hx
      have YE := hid hy
      have NE : Hid (gx ≠ ob) := by have h1 := lt_of_block R3.out; have h2 := HO.out; show _ ≠ _; omega
      clear ax ay hx hy hcn hc
      go_upto_region 16 with fail
      go_region
      generalize hQ : World.setCell _ _ _ = Q at *
      have AQ : Hid (Ab v3 Q) := by rw [← hQ]; exact Ab.set AR.out HO.out _
      have RQ : Hid (Q.rowIs ob 2 N (fun i => .int .i64 (if i < c then F i + H i else if i = c then z else 0))) := by
        rw [← hQ]
        refine (RR.out.set c _).congr (fun i _ => ?_)
        by_cases e : i = c
        · simp [e]
        · simp [e]
      have RG := hid (AQ.out.heap R3.out)
      have XQ := hid (H1.out.below (A3.out.trans AQ.out))
      have YQ := hid (H2.out.below (A3.out.trans AQ.out))
      clear hQ f0 f1 s0 s1 xc yc RR RB AR
      have NX : Hid (z = x + y → ∀ q, Ab Q q → ∃ c' : Nat, c' ≤ N ∧ Value.int .i64 (↑c + 1) = .int .i64 (c' : Nat) ∧ Ab v3 q ∧ q.rowIs ob 2 N (fun i => .int .i64 (if i < c' then F i + H i else 0)) ∧ ∀ i, i < c' → W64 (F i + H i)) := fun hz q aq => by
        refine ⟨c + 1, by have := HC.out; omega, by simp, AQ.out.trans aq, (row_ab RQ.out aq).congr (fun i _ => ?_), fun i hi => ?_⟩
        · by_cases e : i = c
          · simp [e, hz, XE.out, YE.out]
          · have e2 : (i < c + 1) ↔ i < c := by omega
            simp [e, e2]
        · by_cases l : i < c
          · exact GG.out i l
          · obtain rfl : i = c := by omega
            rw [XE.out, YE.out]
            have := ZE.out
            unfold W64
            omega
      obtain ⟨UU, EU, hF1, hF2⟩ := cls Q
      have HU := hid hF2
      have HU1 := hid hF1
      have q0 : ∀ u, (EU u).cell? ⟨gx, 0, none⟩ = some (.slice (some ⟨b1, o1, none⟩) N c1) := fun u => cell_of_row _ _ 0 _ _ _ ((hF1 u).heap RG.out)
      have q1 : ∀ u, (EU u).cell? ⟨gx, 1, none⟩ = some (.slice (some ⟨b2, o2, none⟩) N c2) := fun u => cell_of_row _ _ 1 _ _ _ ((hF1 u).heap RG.out)
      have q2 : ∀ u, (EU u).cell? ⟨b1, o1 + c, none⟩ = some (.int .i64 x) := fun u => by have h := ((XQ.out.below (hF1 u)).at0 HC.out).2.2; rwa [XE.out] at h
      have q3 : ∀ u, (EU u).cell? ⟨b2, o2 + c, none⟩ = some (.int .i64 y) := fun u => by have h := ((YQ.out.below (hF1 u)).at0 HC.out).2.2; rwa [YE.out] at h
      have q4 : ∀ u, (EU u).cell? ⟨ob, c, none⟩ = some (.int .i64 z) := fun u => by have h := (row_ab RQ.out (hF1 u)).cell HC.out; simpa using h
      have DD0 := HU.out _ (Ab.refl Q).drew.drew
      clear hF1 hF2
      by_cases px : 0 ≤ x
      · by_cases py : 0 ≤ y
        · by_cases pz : 0 ≤ z
          · have tx : decide (0 ≤ x) = true := decide_eq_true px
            have ty : decide (0 ≤ y) = true := decide_eq_true py
            have tz : decide (0 ≤ z) = true := decide_eq_true pz
            have EZ : Hid (z = x + y) := by have := ZE.out; show _ = _; omega
            go_upto_region 17 with fail
            refine region_cls EU (by kernel_rfl) (by kernel_rfl) DD0 ?_
            repeat (go_big_quiet_step (with_reducible rfl))
            refine wpQuiet_nil ?_
            intro zw hwz
            obtain ⟨u0, hu⟩ := hwz
            have AZ : Hid (Ab Q zw) := by rw [hu]; exact HU1.out u0
            clear hu u0
            clear HU HU1 DD0 q0 q1 q2 q3 q4
            clear EU UU
            go_wp2
            exact ⟨NX.out EZ.out _ AZ.out, by have := HC.out; simp [intOf]; omega⟩
          · have tx : decide (0 ≤ x) = true := decide_eq_true px
            have ty : decide (0 ≤ y) = true := decide_eq_true py
            have tz : decide (0 ≤ z) = false := decide_eq_false pz
            go_upto_region 17 with fail
            refine region_cls EU (by kernel_rfl) (by kernel_rfl) DD0 ?_
            repeat (go_big_quiet_step (with_reducible rfl))
            refine wpQuiet_nil ?_
            intro zw hwz
            obtain ⟨u0, hu⟩ := hwz
            have AZ : Hid (Ab Q zw) := by rw [hu]; exact HU1.out u0
            clear hu u0
            clear HU HU1 DD0 q0 q1 q2 q3 q4
            clear EU UU
            go_wp2
            go_ret
            exact ⟨rfl, A3.out.trans (AQ.out.trans AZ.out)⟩
        · have tx : decide (0 ≤ x) = true := decide_eq_true px
          have ty : decide (0 ≤ y) = false := decide_eq_false py
          have EZ : Hid (z = x + y) := by have := ZE.out; show _ = _; omega
          go_upto_region 17 with fail
          refine region_cls EU (by kernel_rfl) (by kernel_rfl) DD0 ?_
          repeat (go_big_quiet_step (with_reducible rfl))
          refine wpQuiet_nil ?_
          intro zw hwz
          obtain ⟨u0, hu⟩ := hwz
          have AZ : Hid (Ab Q zw) := by rw [hu]; exact HU1.out u0
          clear hu u0
          clear HU HU1 DD0 q0 q1 q2 q3 q4
          clear EU UU
          go_wp2
          exact ⟨NX.out EZ.out _ AZ.out, by have := HC.out; simp [intOf]; omega⟩
      · by_cases py : 0 ≤ y
        · have tx : decide (0 ≤ x) = false := decide_eq_false px
          have ty : decide (0 ≤ y) = true := decide_eq_true py
          have EZ : Hid (z = x + y) := by have := ZE.out; show _ = _; omega
          go_upto_region 17 with fail
          refine region_cls EU (by kernel_rfl) (by kernel_rfl) DD0 ?_
          repeat (go_big_quiet_step (with_reducible rfl))
          refine wpQuiet_nil ?_
          intro zw hwz
          obtain ⟨u0, hu⟩ := hwz
          have AZ : Hid (Ab Q zw) := by rw [hu]; exact HU1.out u0
          clear hu u0
          clear HU HU1 DD0 q0 q1 q2 q3 q4
          clear EU UU
          go_wp2
          exact ⟨NX.out EZ.out _ AZ.out, by have := HC.out; simp [intOf]; omega⟩
        · by_cases pz : 0 ≤ z
          · have tx : decide (0 ≤ x) = false := decide_eq_false px
            have ty : decide (0 ≤ y) = false := decide_eq_false py
            have tz : decide (0 ≤ z) = true := decide_eq_true pz
            go_upto_region 17 with fail
            refine region_cls EU (by kernel_rfl) (by kernel_rfl) DD0 ?_
            repeat (go_big_quiet_step (with_reducible rfl))
            refine wpQuiet_nil ?_
            intro zw hwz
            obtain ⟨u0, hu⟩ := hwz
            have AZ : Hid (Ab Q zw) := by rw [hu]; exact HU1.out u0
            clear hu u0
            clear HU HU1 DD0 q0 q1 q2 q3 q4
            clear EU UU
            go_wp2
            go_ret
            exact ⟨rfl, A3.out.trans (AQ.out.trans AZ.out)⟩
          · have tx : decide (0 ≤ x) = false := decide_eq_false px
            have ty : decide (0 ≤ y) = false := decide_eq_false py
            have tz : decide (0 ≤ z) = false := decide_eq_false pz
            have EZ : Hid (z = x + y) := by have := ZE.out; show _ = _; omega
            go_upto_region 17 with fail
            refine region_cls EU (by kernel_rfl) (by kernel_rfl) DD0 ?_
            repeat (go_big_quiet_step (with_reducible rfl))
            refine wpQuiet_nil ?_
            intro zw hwz
            obtain ⟨u0, hu⟩ := hwz
            have AZ : Hid (Ab Q zw) := by rw [hu]; exact HU1.out u0
            clear hu u0
            clear HU HU1 DD0 q0 q1 q2 q3 q4
            clear EU UU
            go_wp2
            exact ⟨NX.out EZ.out _ AZ.out, by have := HC.out; simp [intOf]; omega⟩
    · have e6 : N = c := by omega
      subst e6
      have M4 := hid (M3.out wr gb ob (A3.out.trans AR.out) (G3.out.to AR.out) (RR.out.congr (fun i hi => by simp [hi])) GG.out)
      go_wp2_with fail
      refine M4.out.mono ?_
      rintro e9 v4 ⟨a4, k4, rfl, b4, i4⟩
      have A4 : Hid (Ab v3 v4) := AR.out.trans b4
      have S4 := hid (same_at a4 a3 M k4 k3 E v4 (by have := BN.out; omega) i4 (I3.out.below A4.out))
      clear b4 i4 M4
      go_wp2_with fail
      refine S4.out.mono ?_
      rintro e9 v5 ⟨rfl, b5⟩
      have A5 : Hid (Ab v3 v5) := A4.out.trans b5
      clear b5 S4
      go_wp2
      go_ret
      exact ⟨rfl, A3.out.trans A5.out⟩
/-- MASSTWO -/
theorem two_at (MC : MoveC) (TC : TotalC) {side : Int} {pw : Option Addr} {lw cw : Nat} {W : Nat → Int} {p1 : Option Addr} {l1 c1 : Nat} {F : Nat → Int} {p2 : Option Addr} {l2 c2 : Nat} {H : Nat → Int} (w : World) (hFr : Fr w) (hw : IsI w pw lw W) (h1 : IsI w p1 l1 F) (h2 : IsI w p2 l2 H) (lw2 : lw ≤ 9223372036854775807) (l12 : l1 ≤ 9223372036854775807) (l22 : l2 ≤ 9223372036854775807) :
    Calls Tryd.prog 6 #[.int .i64 side, .slice pw lw cw, .agg #[.slice p1 l1 c1, .slice p2 l2 c2]] w fun e w' => e = .returned (.bool true) ∧ Below w.heap.size w w' := by
  have AW : ∀ v, Ab w v → Calls Tryd.prog 9 #[] v fun e w' => e = .returned (.bool true) ∧ Below v.heap.size v w' := fun v a => awake_at MC TC v (hFr.to a)
  by_cases hs : 1 ≤ side ∧ side ≤ 32
  · obtain ⟨n, rfl⟩ := Int.eq_ofNat_of_zero_le (show 0 ≤ side by omega)
    have hn : 1 ≤ n ∧ n ≤ 32 := by omega
    have NW : ∀ v, Ab w v → Calls Tryd.prog 12 #[.int .i64 (n : Nat)] v fun e w' => ∃ gb, e = .returned (.tuple #[.pointer (some ⟨gb, 0, none⟩), .int .i64 0]) ∧ Ab v w' ∧ GridOf n gb w' := fun v a => by
      refine (new_at n v hn (hFr.to a)).mono ?_
      rintro e w' ⟨gb, rfl, a, -, g⟩
      exact ⟨gb, rfl, a, g⟩
    by_cases hl : l1 = l2
    · subst hl
      by_cases f : fit2 n lw l1
      · by_cases c : can n W F
        · obtain ⟨rfl, rfl⟩ := f
          have p1' : 0 < n * n := Nat.mul_pos (by omega) (by omega)
          have p2' : n * n ≤ 32 * 32 := Nat.mul_le_mul hn.2 hn.2
          have q1 : 6 * n * n ≤ 6144 ∧ 12 * n * n ≤ 12288 := by rw [Nat.mul_assoc, Nat.mul_assoc]; omega
          have q2 : 0 < 12 * n * n := by rw [Nat.mul_assoc]; omega
          have M1 : ∀ v gb, Ab w v → GridOf n gb v → Calls Tryd.prog 13 #[.pointer (some ⟨gb, 0, none⟩), .slice pw (6 * n * n) cw, .slice p1 (12 * n * n) c1] v fun e w' => ∃ a0 cap, e = .returned (.tuple #[.slice a0 (6 * n * n) cap, .int .i64 0]) ∧ Below v.heap.size v w' ∧ IsI w' a0 (6 * n * n) (mv n W F) := fun v gb a g => by
            refine ((MC n gb pw _ cw W p1 _ c1 F v hn g lw2 l12 (hw.below a) (h1.below a)).1 ⟨rfl, rfl⟩ c).mono ?_
            rintro e w' ⟨l, rfl, b, o⟩
            obtain ⟨a0, cap, rfl, i⟩ := own_mv o c
            exact ⟨a0, cap, rfl, b, i⟩
          by_cases c2' : can n (mv n W F) H
          · obtain ⟨b1, o1, rfl⟩ := h1.some0 q2
            obtain ⟨b2, o2, rfl⟩ := h2.some0 q2
            refine two_ok n (n : Nat) pw _ cw b1 o1 _ c1 b2 o2 c2 F H (mv n W F) (mv n (mv n W F) H) w q1 h1 h2 AW NW M1 ?_ ?_
            · intro v gb a0 cap a g i
              refine ((MC n gb a0 _ cap (mv n W F) _ _ c2 H v hn g lw2 l12 i (h2.below a)).1 ⟨rfl, rfl⟩ c2').mono ?_
              rintro e w' ⟨l, rfl, b, o⟩
              obtain ⟨a0, cap, rfl, i⟩ := own_mv o c2'
              exact ⟨a0, cap, rfl, b, i⟩
            · intro v gb b a g r hz
              have c3 : can n W (fun i => F i + H i) := fun k hk => by rw [← mv_two]; exact c2' k hk
              refine ((MC n gb pw _ cw W (some ⟨b, 0, none⟩) _ _ (fun i => F i + H i) v hn g lw2 l12 (hw.below a) (row_in r hz)).1 ⟨rfl, rfl⟩ c3).mono ?_
              rintro e w' ⟨l, rfl, b, o⟩
              obtain ⟨a0, cap, rfl, i⟩ := own_mv o c3
              exact ⟨a0, cap, rfl, b, i.congr (fun k _ => (mv_two n W F H k).symm)⟩
          · exact two_no2 n (n : Nat) pw _ cw p1 _ c1 p2 _ c2 w (mv n W F) rfl AW NW M1 (fun v gb a0 cap a g i => (MC n gb a0 _ cap (mv n W F) p2 _ c2 H v hn g lw2 l12 i (h2.below a)).2.1 ⟨rfl, rfl⟩ c2')
        · exact two_no1 n (n : Nat) pw _ cw p1 _ c1 p2 _ c2 w rfl 20 (by omega) AW NW (fun v gb a g => (MC n gb pw _ cw W p1 _ c1 F v hn g lw2 l12 (hw.below a) (h1.below a)).2.1 f c)
      · exact two_no1 n (n : Nat) pw _ cw p1 _ c1 p2 _ c2 w rfl 1 (by omega) AW NW (fun v gb a g => (MC n gb pw _ cw W p1 _ c1 F v hn g lw2 l12 (hw.below a) (h1.below a)).2.2 f)
    · exact two_len n (n : Nat) pw lw cw p1 l1 c1 p2 l2 c2 w hl AW NW
  · exact two_side side pw lw cw p1 l1 c1 p2 l2 c2 w AW (fun v => new_no side v hs)
end Ms
end Go.Proofs.YtpfndibgfkkcgaaDoor

namespace Go.Proofs.YtpfndibgfkkcgaaDoor
open Go.ChangeShapes Go.WideShapes Go.ChangeAt Go.WideMaps Go.WideElems Go.RowKit Go.Deep
namespace Sh
theorem trod_int {H : Type} {enc : TypeId × Value → H} {P : Program} {w : World} {base : Nat} {spare : Nat → Bool} {held : Bool} {t : TypeId} {fuel : Nat} {v : Value} {x : DataW H × List MemPlace} (ht : P.underlying t = some (.int .i64)) (h : DataW.trod enc P w base spare held fuel t [v] = some x) :
    ∃ b, v = .int .i64 b ∧ (-9223372036854775808 ≤ b ∧ b ≤ 9223372036854775807) := by
  obtain ⟨k, e, _, wf⟩ := DataW.trod_int ht h
  simp at e
  simp only [Lit.wf, Bool.and_eq_true, decide_eq_true_eq] at wf
  have q1 : IntKind.i64.min = -9223372036854775808 := by decide
  have q2 : IntKind.i64.max = 9223372036854775807 := by decide
  rw [q1, q2] at wf
  exact ⟨k, e, wf⟩
theorem cell_block {w : World} {a : Addr} {v : Value} (h : w.cell? a = some v) : a.block < w.heap.size := by
  by_cases c : a.block < w.heap.size
  · exact c
  · exfalso
    have : w.heap[a.block]? = none := by simp; omega
    simp [World.cell?, this] at h
theorem pick_fn {α : Type} {n : Nat} {R : Nat → α → Prop} (d : α) (h : ∀ i, i < n → ∃ x, R i x) : ∃ f : Nat → α, ∀ i, i < n → R i (f i) := by
  have : ∀ i, ∃ x, i < n → R i x := fun i => by
    by_cases c : i < n
    · obtain ⟨x, h1⟩ := h i c
      exact ⟨x, fun _ => h1⟩
    · exact ⟨d, fun h => absurd h c⟩
  exact ⟨fun i => (this i).choose, fun i hi => (this i).choose_spec hi⟩
theorem list_open {H : Type} {enc : TypeId × Value → H} {W : World} {cs : List Value} {fuel : Nat} {x : DataW H × List MemPlace}
    (hf : DataW.trod enc Tryd.prog W 0 (fun _ => true) true fuel 22 cs = some x) : ∃ a0 len cap xs, cs = [.slice a0 len cap] ∧ IsI W a0 len xs ∧ len ≤ cap ∧ cap ≤ maxLen := by
  rcases open_slice1 Tryd.underlying22 (by kernel_rfl) hf with ⟨hcs, _⟩ | ⟨a, l, c, m, n, V, D, Pl, hcs, _, hl, hm, hmm, _, hx⟩
  · exact ⟨none, 0, 0, fun _ => 0, hcs, fun k hk => by omega, Nat.le_refl _, Nat.zero_le _⟩
  · simp only [if_true] at hmm
    have each : ∀ i, i < l → ∃ x : Int, W.cell? (a.add i) = some (.int .i64 x) ∧ (-9223372036854775808 ≤ x ∧ x ≤ 9223372036854775807) := by
      intro i hi
      obtain ⟨h1, h2⟩ := hx i (by omega)
      obtain ⟨x, e, wx⟩ := trod_int Tryd.underlying2 h2
      rw [e] at h1
      exact ⟨x, h1, wx⟩
    obtain ⟨f, hf⟩ := pick_fn 0 each
    refine ⟨some a, l, c, f, hcs, fun k hk => ⟨(hf k hk).2, ?_⟩, hl, hm⟩
    have h0 := (hf k hk).1
    have z := (hf 0 (by omega)).1
    obtain ⟨b, off, spot⟩ := a
    have hspot : spot = none := by simpa [Addr.add] using World.cell?_spot z
    subst hspot
    rw [add_off] at h0
    exact ⟨b, off, rfl, cell_block h0, h0⟩
end Sh
end Go.Proofs.YtpfndibgfkkcgaaDoor

namespace Go.Proofs.YtpfndibgfkkcgaaDoor
open Go.ChangeShapes Go.WideShapes Go.ChangeAt Go.WideMaps Go.WideElems Go.RowKit Go.Deep
namespace Ms
open Sh
theorem array2 {c : Array Value} (h : c.size = 2) : ∃ v0 v1, c = #[v0, v1] := by
  rcases c with ⟨l⟩
  match l, h with
  | [v0, v1], _ => exact ⟨v0, v1, rfl⟩
set_option maxRecDepth 100000 in
theorem flows_cells {H : Type} {enc : TypeId × Value → H} {W : World} {n : Nat} {v0 v1 : Value} {x : DataW H × List MemPlace} (h : DataW.trod enc Tryd.prog W 0 (fun _ => true) true n 46 [v0, v1] = some x) :
    ∃ p1 l1 c1 X p2 l2 c2 Y, (v0 = .slice p1 l1 c1 ∧ v1 = .slice p2 l2 c2) ∧ (IsI W p1 l1 X ∧ l1 ≤ c1 ∧ c1 ≤ maxLen) ∧ (IsI W p2 l2 Y ∧ l2 ≤ c2 ∧ c2 ≤ maxLen) := by
  have k1 : Tryd.prog.cellsOf 22 = 1 := by kernel_rfl
  obtain ⟨xs, m, _, hx, hlen, hn, hel⟩ := DataW.trod_struct Tryd.underlying46 h
  match xs, hn with
  | [x0, x1], _ =>
    have h0 := hel 0 _ rfl
    have h1 := hel 1 _ rfl
    simp [k1] at h0 h1
    obtain ⟨p1, l1, c1, X, e1, i1, j1, m1⟩ := list_open h0
    obtain ⟨p2, l2, c2, Y, e2, i2, j2, m2⟩ := list_open h1
    simp at e1 e2
    exact ⟨p1, l1, c1, X, p2, l2, c2, Y, ⟨e1, e2⟩, ⟨i1, j1, m1⟩, i2, j2, m2⟩
set_option maxRecDepth 100000 in
theorem flows_open {H : Type} {enc : TypeId × Value → H} {W : World} {r : Reach} {b0 : Nat} {v : Value} {d : DataW H} {p : List MemPlace} (hv : Value.okWide Tryd.prog W r b0 46 v) (h : DataW.Trod enc Tryd.prog W 0 (fun _ => true) true 46 v d p) :
    ∃ p1 l1 c1 X p2 l2 c2 Y, v = .agg #[.slice p1 l1 c1, .slice p2 l2 c2] ∧ (IsI W p1 l1 X ∧ l1 ≤ 9223372036854775807) ∧ (IsI W p2 l2 Y ∧ l2 ≤ 9223372036854775807) := by
  have hC : Tryd.prog.cellsOf 46 = 2 := by kernel_rfl
  obtain ⟨cs, rfl, hsz⟩ := okWide_struct Tryd.underlying46 hv
  obtain ⟨v0, v1, rfl⟩ := array2 (hsz.trans hC)
  obtain ⟨fuel, hf⟩ := h
  have hf' : DataW.trod enc Tryd.prog W 0 (fun _ => true) true fuel 46 [v0, v1] = some (d, p) := by simpa [Value.cells] using hf
  obtain ⟨p1, l1, c1, X, p2, l2, c2, Y, ⟨rfl, rfl⟩, ⟨i1, a1, a2⟩, i2, a3, a4⟩ := flows_cells hf'
  unfold maxLen at a2 a4
  exact ⟨p1, l1, c1, X, p2, l2, c2, Y, rfl, ⟨i1, by omega⟩, i2, by omega⟩
end Ms
end Go.Proofs.YtpfndibgfkkcgaaDoor

namespace Go.Proofs.YtpfndibgfkkcgaaDoor
open Go.RowKit Go.Deep Cu
namespace Ms
open Sh
/-- the lower word -/
def loW (x : Int) : Int := x % 18446744073709551616
/-- the upper word -/
def hiW (x : Int) : Int := x / 18446744073709551616 % 18446744073709551616
/-- a number as a word -/
def wd (n : Int) : Int := if n < 0 then n + 18446744073709551616 else n
/-- its sign as a word -/
def sgW (n : Int) : Int := if n < 0 then 18446744073709551615 else 0
theorem loW_in (x : Int) : 0 ≤ loW x ∧ loW x < 18446744073709551616 := by unfold loW; omega
theorem hiW_in (x : Int) : 0 ≤ hiW x ∧ hiW x < 18446744073709551616 := by unfold hiW; omega
theorem wd_in {n : Int} (h : W64 n) : 0 ≤ wd n ∧ wd n < 18446744073709551616 := by
  unfold W64 at h; unfold wd; split <;> omega
theorem sgW_in (n : Int) : 0 ≤ sgW n ∧ sgW n < 18446744073709551616 := by unfold sgW; split <;> omega
theorem wd_wrap {n : Int} (h : W64 n) : IntKind.u64.wrap n = wd n := by
  unfold W64 at h; unfold wd
  simp [IntKind.wrap, IntKind.bits, IntKind.signed]
  split <;> omega
theorem plus_low {x n : Int} (_h : W64 n) : (loW x + wd n + 0) % 18446744073709551616 = loW (x + n) := by
  unfold loW wd; split <;> omega
theorem plus_high {x n : Int} (_h : W64 n) : (hiW x + sgW n + (loW x + wd n + 0) / 18446744073709551616) % 18446744073709551616 = hiW (x + n) := by
  unfold hiW loW wd sgW; split <;> omega
theorem plus_carry {x n : Int} (h : W64 n) : 0 ≤ (loW x + wd n + 0) / 18446744073709551616 ∧ (loW x + wd n + 0) / 18446744073709551616 ≤ 1 := by
  have := loW_in x
  have := wd_in h
  omega
/-- what is borrowed -/
def bo (a b : Int) : Int := if a < b then 1 else 0
theorem bo_in (a b : Int) : 0 ≤ bo a b ∧ bo a b ≤ 1 := by unfold bo; split <;> omega
theorem minus_low {x n : Int} (_h : W64 n) : (loW x + 18446744073709551616 - wd n - 0) % 18446744073709551616 = loW (x - n) := by
  unfold loW wd; split <;> omega
theorem minus_high {x n : Int} (h : W64 n) : (hiW x + 18446744073709551616 - sgW n - bo (loW x) (wd n + 0)) % 18446744073709551616 = hiW (x - n) := by
  unfold W64 at h; unfold hiW loW wd sgW bo
  by_cases c : n < 0
  · rw [if_pos c, if_pos c]; split <;> omega
  · rw [if_neg c, if_neg c]; split <;> omega
/-- the lower word as a number -/
def sh (x : Int) : Int := if loW x < 9223372036854775808 then loW x else loW x - 18446744073709551616
theorem sh_in (x : Int) : W64 (sh x) := by
  have := loW_in x
  unfold W64 sh; split <;> omega
theorem sh_wrap (x : Int) : IntKind.i64.wrap (loW x) = sh x := by
  have := loW_in x
  unfold sh
  generalize loW x = y at *
  simp [IntKind.wrap, IntKind.bits, IntKind.signed]
  split <;> omega
theorem sh_of {x : Int} (h : W64 x) : sh x = x ∧ hiW x = sgW (sh x) := by
  unfold W64 at h
  have e : sh x = x := by unfold sh loW; split <;> omega
  refine ⟨e, ?_⟩
  rw [e]
  unfold hiW sgW; split <;> omega
theorem sh_no {x : Int} (h : ¬ W64 x) (a : -170141183460469231731687303715884105728 ≤ x) (b : x < 170141183460469231731687303715884105728) : hiW x ≠ sgW (sh x) := by
  unfold W64 at h
  unfold hiW sgW sh loW
  intro e
  by_cases c : x % 18446744073709551616 < 9223372036854775808
  · rw [if_pos c, if_neg (by omega)] at e; omega
  · rw [if_neg c, if_pos (by omega)] at e; omega
theorem three_a (s : String) (x y c : Nat) (hc1 : c ≤ 1) (w : World) : (Extern.MathBitsCarry.three s #[.int .u64 x, .int .u64 y, .int .u64 c]).run Tryd.prog w = .ok (x, y, c) w := by
  have h : c = 0 ∨ c = 1 := by omega
  rcases h with rfl | rfl <;> rfl
theorem run_add (x y c s o : Int) (hx : 0 ≤ x) (hy : 0 ≤ y) (hc : 0 ≤ c) (hc1 : c ≤ 1) (hs : (x + y + c) % 18446744073709551616 = s) (ho : (x + y + c) / 18446744073709551616 = o) (w : World) :
    (callFunc 37 #[.int .u64 x, .int .u64 y, .int .u64 c]).run Tryd.prog w = .ok (.value (.tuple #[.int .u64 s, .int .u64 o])) w := by
  rw [run_callFunc_extern (e := fun args => do
    let (x, y, c) ← Extern.MathBitsCarry.three "Add64" args
    pure (Extern.MathBitsCarry.pair ((x + y + c) % Extern.MathBitsCarry.m64) ((x + y + c) / Extern.MathBitsCarry.m64))) Tryd.func37 (by kernel_rfl) (by kernel_rfl) (by kernel_rfl) (by kernel_rfl)]
  obtain ⟨x, rfl⟩ : ∃ n : Nat, x = n := ⟨x.toNat, by omega⟩
  obtain ⟨y, rfl⟩ : ∃ n : Nat, y = n := ⟨y.toNat, by omega⟩
  obtain ⟨c, rfl⟩ : ∃ n : Nat, c = n := ⟨c.toNat, by omega⟩
  have e : Extern.MathBitsCarry.m64 = 18446744073709551616 := by decide
  have hp : Extern.MathBitsCarry.pair ((x + y + c) % Extern.MathBitsCarry.m64) ((x + y + c) / Extern.MathBitsCarry.m64) = .tuple #[.int .u64 s, .int .u64 o] := by
    unfold Extern.MathBitsCarry.pair
    rw [e, Int.ofNat_eq_natCast, Int.ofNat_eq_natCast]
    have h1 : (((x + y + c) % 18446744073709551616 : Nat) : Int) = s := by omega
    have h2 : (((x + y + c) / 18446744073709551616 : Nat) : Int) = o := by omega
    rw [h1, h2]
  have h4 := three_a "Add64" x y c (by omega) w
  rw [Sem.run_bind, h4, Result.andThen_ok]
  show Result.andThen (Sem.run Tryd.prog (pure (Extern.MathBitsCarry.pair ((x + y + c) % Extern.MathBitsCarry.m64) ((x + y + c) / Extern.MathBitsCarry.m64))) w) _ = _
  rw [hp]; rfl
theorem run_sub (x y c s o : Int) (hx : 0 ≤ x) (hy : 0 ≤ y) (hy1 : y < 18446744073709551616) (hc : 0 ≤ c) (hc1 : c ≤ 1) (hs : (x + 18446744073709551616 - y - c) % 18446744073709551616 = s) (ho : bo x (y + c) = o) (w : World) :
    (callFunc 45 #[.int .u64 x, .int .u64 y, .int .u64 c]).run Tryd.prog w = .ok (.value (.tuple #[.int .u64 s, .int .u64 o])) w := by
  rw [run_callFunc_extern (e := fun args => do
    let (x, y, b) ← Extern.MathBitsCarry.three "Sub64" args
    pure (Extern.MathBitsCarry.pair ((x + Extern.MathBitsCarry.m64 - y - b) % Extern.MathBitsCarry.m64) (if x < y + b then 1 else 0))) Tryd.func45 (by kernel_rfl) (by kernel_rfl) (by kernel_rfl) (by kernel_rfl)]
  obtain ⟨x, rfl⟩ : ∃ n : Nat, x = n := ⟨x.toNat, by omega⟩
  obtain ⟨y, rfl⟩ : ∃ n : Nat, y = n := ⟨y.toNat, by omega⟩
  obtain ⟨c, rfl⟩ : ∃ n : Nat, c = n := ⟨c.toNat, by omega⟩
  have e : Extern.MathBitsCarry.m64 = 18446744073709551616 := by decide
  have hp : Extern.MathBitsCarry.pair ((x + Extern.MathBitsCarry.m64 - y - c) % Extern.MathBitsCarry.m64) (if x < y + c then 1 else 0) = .tuple #[.int .u64 s, .int .u64 o] := by
    unfold Extern.MathBitsCarry.pair
    rw [e, Int.ofNat_eq_natCast, Int.ofNat_eq_natCast]
    have h1 : (((x + 18446744073709551616 - y - c) % 18446744073709551616 : Nat) : Int) = s := by omega
    have h2 : (((if x < y + c then 1 else 0) : Nat) : Int) = o := by
      unfold bo at ho
      by_cases d : x < y + c
      · rw [if_pos d]; rw [if_pos (by omega)] at ho; exact ho
      · rw [if_neg d]; rw [if_neg (by omega)] at ho; exact ho
    rw [h1, h2]
  have h4 := three_a "Sub64" x y c (by omega) w
  rw [Sem.run_bind, h4, Result.andThen_ok]
  show Result.andThen (Sem.run Tryd.prog (pure (Extern.MathBitsCarry.pair ((x + Extern.MathBitsCarry.m64 - y - c) % Extern.MathBitsCarry.m64) (if x < y + c then 1 else 0))) w) _ = _
  rw [hp]; rfl
/-- flows below a number -/
def upF (k : Nat) (F : Nat → Int) (i : Nat) : Int := if i < k then F i else 0
theorem mv_nil {n c : Nat} (W F : Nat → Int) (hn : 1 ≤ n) (hc : c < 6 * n * n) : mv n W (upF 0 F) c = W c := by
  have h := mv_back n W (fun _ => 0) c
  have g := mv_two n W (fun _ => 0) (fun i => -(fun _ => (0 : Int)) i) c
  rw [h] at g
  rw [g]
  exact mv_congr hn hc rfl (fun i _ => by simp [upF])
/-- one flow more -/
theorem mv_up {n k c : Nat} (W F : Nat → Int) (hn : 1 ≤ n) (hk : k < 12 * n * n) (hc : c < 6 * n * n) : mv n W (upF (k + 1) F) c = if c = edT n k / 4 then mv n W (upF k F) c - F k else if c = mt n (edT n k) / 4 then mv n W (upF k F) c + F k else mv n W (upF k F) c := by
  rw [← mv_one (q := F k) (mv n W (upF k F)) hn hk hc, mv_two]
  refine mv_congr hn hc rfl (fun i _ => ?_)
  unfold upF oneF
  by_cases a : i < k
  · rw [if_pos (by omega), if_pos a, if_neg (by omega)]; omega
  · by_cases b : i = k
    · subst b; rw [if_pos (by omega), if_neg (by omega), if_pos rfl]; omega
    · rw [if_neg (by omega), if_neg a, if_neg b]; omega
theorem mv_all {n c : Nat} (W F : Nat → Int) (hn : 1 ≤ n) (hc : c < 6 * n * n) : mv n W (upF (12 * n * n) F) c = mv n W F c :=
  mv_congr hn hc rfl (fun i hi => by unfold upF; rw [if_pos hi])
theorem sum_in {f : Nat → Int} : ∀ {l : Nat}, (∀ k, k < l → W64 (f k)) → -(9223372036854775808 * (l : Int)) ≤ sumN f l ∧ sumN f l ≤ 9223372036854775807 * (l : Int)
  | 0, _ => by unfold sumN; omega
  | l + 1, h => by
    have i := sum_in (l := l) (fun k hk => h k (by omega))
    have j := h l (by omega)
    unfold W64 at j
    show _ ≤ sumN f l + f l ∧ sumN f l + f l ≤ _
    omega
end Ms
end Go.Proofs.YtpfndibgfkkcgaaDoor
