/-
  Some of the texts of this proof, one behind the other.
-/
import Derived.Test.YtpfndibgfkkcgaaDoorRows
import Derived.Deep.OwnRows
import Derived.Deep.Cut
import Derived.Deep.CutRange
import Derived.Deep.AppendLies
import Derived.Deep.AppendSrc
import Derived.OwnWalk
import Derived.Deep.QuietTactic
import Derived.ProofKit
import Derived.OpenShut
import Derived.WalkLawsBesides
import Derived.Stop.Joined
import Derived.Carry
import Derived.Lib.SmallJoins
import Derived.Deep.SlicePairs
import Derived.Deep.Slices
import Derived.Test.YtpfndibgfkkcgaaDoorZ06
namespace Go.Proofs.YtpfndibgfkkcgaaDoor
open Go.RowKit Go.Deep
namespace Sh
/-- a list of so many whole numbers -/
def IsI (w : World) (a0 : Option Addr) (len : Nat) (xs : Nat → Int) : Prop := ∀ k, k < len → (-9223372036854775808 ≤ xs k ∧ xs k ≤ 9223372036854775807) ∧ ∃ b o, a0 = some ⟨b, o, none⟩ ∧ b < w.heap.size ∧ w.cell? ⟨b, o + k, none⟩ = some (.int .i64 (xs k))
theorem IsI.below {w w' : World} {a0 : Option Addr} {len : Nat} {xs : Nat → Int} (h : IsI w a0 len xs) (hb : Below w.heap.size w w') : IsI w' a0 len xs := by
  intro k hk
  obtain ⟨h1, b, o, h2, h3, h4⟩ := h k hk
  exact ⟨h1, b, o, h2, Nat.lt_of_lt_of_le h3 hb.size, (Below.cell hb h3).trans h4⟩
theorem IsI.some0 {w : World} {a0 : Option Addr} {len : Nat} {xs : Nat → Int} (h : IsI w a0 len xs) (h0 : 0 < len) : ∃ b o, a0 = some ⟨b, o, none⟩ := by
  obtain ⟨_, b, o, h2, _⟩ := h 0 h0
  exact ⟨b, o, h2⟩
theorem IsI.at0 {w : World} {b o len k : Nat} {xs : Nat → Int} (h : IsI w (some ⟨b, o, none⟩) len xs) (hk : k < len) : (-9223372036854775808 ≤ xs k ∧ xs k ≤ 9223372036854775807) ∧ b < w.heap.size ∧ w.cell? ⟨b, o + k, none⟩ = some (.int .i64 (xs k)) := by
  obtain ⟨h1, b', o', h2, h3, h4⟩ := h k hk
  cases h2
  exact ⟨h1, h3, h4⟩
theorem IsI.nil (w : World) (a0 : Option Addr) (xs : Nat → Int) : IsI w a0 0 xs := fun k hk => absurd hk (Nat.not_lt_zero k)
theorem IsI.congr {w : World} {a0 : Option Addr} {len : Nat} {xs ys : Nat → Int} (h : IsI w a0 len xs) (e : ∀ k, k < len → xs k = ys k) : IsI w a0 len ys := fun k hk => by rw [← e k hk]; exact h k hk
theorem add_off (b off j : Nat) : (⟨b, off, none⟩ : Addr).add j = ⟨b, off + j, none⟩ := by unfold Addr.add; split <;> simp_all
theorem row_in {w : World} {b n : Nat} {f : Nat → Int} (h : w.rowIs b 2 n (fun i => .int .i64 (f i))) (hf : ∀ i, i < n → -9223372036854775808 ≤ f i ∧ f i ≤ 9223372036854775807) : IsI w (some ⟨b, 0, none⟩) n f := fun k hk => ⟨hf k hk, b, 0, rfl, h.lt, by rw [Nat.zero_add]; exact h.cell hk⟩
theorem info64 : (Tryd.prog.info? 2).map (fun i => (i.zero, i.size, i.bytes)) = some (some (.int .i64 0), 1, 8) := by kernel_rfl
/-- a list of the call's own, of so many whole numbers -/
def Own (B : Nat) (v : Value) (l : List Int) (w : World) : Prop := w.ownsRow B 2 1 v l.length (l.map (Value.int .i64))
theorem Own.in {B : Nat} {v : Value} {l : List Int} {w : World} (h : Own B v l w) (hl : ∀ x ∈ l, -9223372036854775808 ≤ x ∧ x ≤ 9223372036854775807) : ∃ a0 cap, v = .slice a0 l.length cap ∧ IsI w a0 l.length (fun j => l.getD j 0) := by
  rcases h.2 with ⟨rfl, h0⟩ | ⟨g, cap, cur, rfl, hb, hg, h1, h2, h3, h4⟩
  · exact ⟨none, 0, by rw [h0], fun k hk => by omega⟩
  · refine ⟨some ⟨g, 0, none⟩, cap, rfl, fun k hk => ?_⟩
    have hx : l.getD k 0 = l[k] := by simp [List.getD, hk]
    refine ⟨by dsimp only; rw [hx]; exact hl _ (List.getElem_mem _), g, 0, rfl, lt_of_block hg, ?_⟩
    have e := h.cells (g := g) rfl k (.int .i64 (l.getD k 0)) (by simp [hk])
    rw [add_off] at e
    exact e
theorem Own.to {B : Nat} {v : Value} {l : List Int} {w w' : World} (h : Own B v l w) (hb : Ab w w') : Own B v l w' := by
  refine ⟨h.1, ?_⟩
  rcases h.2 with h0 | ⟨g, cap, cur, e, hb', hg, h1, h2, h3, h4⟩
  · exact .inl h0
  · exact .inr ⟨g, cap, cur, e, hb', hb.heap hg, h1, h2, h3, h4⟩
/-- all blocks of V but g are in w as they were -/
def Abo (V : World) (g : Nat) (w : World) : Prop := w.os = V.os ∧ w.tape = V.tape ∧ w.output = V.output ∧ V.heap.size ≤ w.heap.size ∧ ∀ k, k < V.heap.size → k ≠ g → w.heap[k]? = V.heap[k]?
theorem Abo.ab {w0 V w : World} {g : Nat} (h : Abo V g w) (a : Ab w0 V) (hg : w0.heap.size ≤ g) : Ab w0 w := by
  obtain ⟨h1, h2, h3, h4, h5⟩ := h
  exact ⟨h1.trans a.os, h2.trans a.tape, h3.trans a.output, Nat.le_trans (Below.size a) h4, fun k hk => (h5 k (Nat.lt_of_lt_of_le hk (Below.size a)) (by omega)).trans (a.block k hk)⟩
theorem Abo.refl (V : World) (g : Nat) : Abo V g V := ⟨rfl, rfl, rfl, Nat.le_refl _, fun _ _ _ => rfl⟩
theorem Own.alloc {B : Nat} {v : Value} {l : List Int} {w : World} (h : Own B v l w) (O : Obj) : Own B v l (w.alloc O) := World.ownsRow.alloc h O
end Sh
end Go.Proofs.YtpfndibgfkkcgaaDoor

namespace Go.Proofs.YtpfndibgfkkcgaaDoor
open Go.RowKit Go.Deep Cu
namespace Ms
open Sh
/-- within 64 bits -/
def W64 (x : Int) : Prop := -9223372036854775808 ≤ x ∧ x ≤ 9223372036854775807
/-- whether the lists fit -/
def fit2 (n lw lf : Nat) : Prop := lw = 6 * n * n ∧ lf = 12 * n * n
/-- whether what comes out can be -/
def can (n : Nat) (W F : Nat → Int) : Prop := ∀ c, c < 6 * n * n → 0 ≤ mv n W F c ∧ mv n W F c ≤ 9223372036854775807
/-- what Move is to answer -/
def MoveC : Prop := ∀ (n gb : Nat) (pw : Option Addr) (lw cw : Nat) (W : Nat → Int) (pf : Option Addr) (lf cf : Nat) (F : Nat → Int) (w : World), (1 ≤ n ∧ n ≤ 32) → GridOf n gb w → lw ≤ 9223372036854775807 → lf ≤ 9223372036854775807 → IsI w pw lw W → IsI w pf lf F →
    (fit2 n lw lf → can n W F → Calls Tryd.prog 13 #[.pointer (some ⟨gb, 0, none⟩), .slice pw lw cw, .slice pf lf cf] w fun e w' => ∃ v, e = .returned (.tuple #[v, .int .i64 0]) ∧ Below w.heap.size w w' ∧ Own w.heap.size v ((List.range (6 * n * n)).map (mv n W F)) w') ∧
    (fit2 n lw lf → ¬ can n W F → Calls Tryd.prog 13 #[.pointer (some ⟨gb, 0, none⟩), .slice pw lw cw, .slice pf lf cf] w fun e w' => e = .returned (.tuple #[.slice none 0 0, .int .i64 20]) ∧ Below w.heap.size w w') ∧
    (¬ fit2 n lw lf → Calls Tryd.prog 13 #[.pointer (some ⟨gb, 0, none⟩), .slice pw lw cw, .slice pf lf cf] w fun e w' => e = .returned (.tuple #[.slice none 0 0, .int .i64 1]) ∧ Below w.heap.size w w')
/-- what Total is to answer -/
def TotalC : Prop := ∀ (pw : Option Addr) (lw cw : Nat) (W : Nat → Int) (pm : Option Addr) (lm cm : Nat) (M : Nat → Int) (w : World), lw ≤ 17592186044416 → lm ≤ 17592186044416 → IsI w pw lw W → IsI w pm lm M →
    (W64 (sumN W lw + sumN M lm) → Calls Tryd.prog 10 #[.slice pw lw cw, .slice pm lm cm] w fun e w' => e = .returned (.tuple #[.int .i64 (sumN W lw + sumN M lm), .int .i64 0]) ∧ Below w.heap.size w w') ∧
    (¬ W64 (sumN W lw + sumN M lm) → Calls Tryd.prog 10 #[.slice pw lw cw, .slice pm lm cm] w fun e w' => e = .returned (.tuple #[.int .i64 0, .int .i64 20]) ∧ Below w.heap.size w w')
end Ms
end Go.Proofs.YtpfndibgfkkcgaaDoor

namespace Go.Proofs.YtpfndibgfkkcgaaDoor
open Go.RowKit Go.Deep
namespace Ms
open Sh
set_option maxRecDepth 100000 in
set_option maxHeartbeats 4000000 in
theorem same_at (pa pb : Option Addr) (len ca cb : Nat) (xs : Nat → Int) (w : World) (hl : len ≤ 281474976710656) (hA : IsI w pa len xs) (hB : IsI w pb len xs) :
    Calls Tryd.prog 18 #[.slice pa len ca, .slice pb len cb] w fun e w' => e = .returned (.bool true) ∧ Below w.heap.size w w' := by
  have HA := hid hA
  have HB := hid hB
  have HL := hid hl
  clear hA hB hl
  go_enter Tryd.func18, Tryd.ntmps18
  go_wp2
  go_loopw [5] (fun iv wr => ∃ c : Nat, c ≤ len ∧ iv = .int .i64 (c : Nat) ∧ Ab w wr) (fun iv _ => len - (intOf iv).toNat)
  case atStart => exact ⟨0, by omega, rfl, Ab.refl w⟩
  case round =>
    obtain ⟨c, hc, rfl, ar⟩ := hrel
    have AR := hid ar
    clear ar
    by_cases h : c < len
    · have HC := hid h
      obtain ⟨x, hx⟩ : ∃ x, xs c = x := ⟨_, rfl⟩
      obtain ⟨-, b1, o1, e1, l1, c1⟩ := HA.out c h
      obtain ⟨-, b2, o2, e2, l2, c2⟩ := HB.out c h
      rw [hx] at c1 c2
      have C1 := hid c1
      have C2 := hid c2
      have L1 := hid l1
      have L2 := hid l2
      have hcI : (c : Int) < len := by omega
      have hcB : (c : Int) ≤ 281474976710656 := by have := HL.out; omega
      clear c1 c2 l1 l2 hx h
      subst e1 e2
      go_upto_region 6 with fail
      obtain ⟨UU, E, hF1, hF2⟩ := cls wr
      have HU := hid hF2
      have HU1 := hid hF1
      have x1 : ∀ u, (E u).cell? ⟨b1, o1 + c, none⟩ = some (.int .i64 x) := fun u => (Below.cell (AR.out.trans (hF1 u)) L1.out).trans C1.out
      have x2 : ∀ u, (E u).cell? ⟨b2, o2 + c, none⟩ = some (.int .i64 x) := fun u => (Below.cell (AR.out.trans (hF1 u)) L2.out).trans C2.out
      have DD0 := HU.out _ (Ab.refl wr).drew
      clear hF1 hF2
      refine region_cls E (by kernel_rfl) (by kernel_rfl) DD0 ?_
      repeat (go_big_quiet_step (with_reducible rfl))
      refine wpQuiet_nil ?_
      intro z hwz
      obtain ⟨u0, hu⟩ := hwz
      have AZ : Hid (Ab w z) := by rw [hu]; exact AR.out.trans (HU1.out u0)
      clear hu u0
      clear HU HU1 DD0 x1 x2
      clear E UU
      go_wp2
      go_roundw
      case rel => exact ⟨c + 1, by have := HC.out; omega, by simp, AZ.out⟩
      case measure => simp [intOf]; have := HC.out; omega
    · have e : len = c := by omega
      subst e
      go_wp2
      go_ret
      exact ⟨rfl, AR.out⟩
end Ms
end Go.Proofs.YtpfndibgfkkcgaaDoor

namespace Go.Proofs.YtpfndibgfkkcgaaDoor
open Go.RowKit Go.Deep Cu
namespace Ms
open Sh
set_option maxRecDepth 100000 in
set_option maxHeartbeats 4000000 in
theorem one_at (N k : Nat) (q : Int) (w : World) (hN : N ≤ 65536) (hk : k < N) :
    Calls Tryd.prog 20 #[.int .i64 (N : Nat), .int .i64 (k : Nat), .int .i64 q] w fun e w' => ∃ b, e = .returned (.slice (some ⟨b, 0, none⟩) N N) ∧ Below w.heap.size w w' ∧ w'.rowIs b 2 N (fun i => .int .i64 (oneF k q i)) ∧ w.heap.size ≤ b := by
  have MK := run_make_row' (P := Tryd.prog) 22 2 (.int .i64 0) 8 Tryd.underlying22 info64 rfl .i64 .i64 N (by omega) (by omega) w
  obtain ⟨ob, hob⟩ : ∃ b, w.heap.size = b := ⟨_, rfl⟩
  have R0 : (w.alloc (.cells (madeCells #[.int .i64 0] N) 2)).rowIs ob 2 N (fun _ => .int .i64 0) := by rw [← hob]; exact World.rowIs_made _ _ _ _
  have A0 : Hid (Ab w (w.alloc (.cells (madeCells #[.int .i64 0] N) 2))) := bl1 w _
  have HO : Hid (w.heap.size ≤ ob) := Nat.le_of_eq hob
  have kI : (k : Int) < N := by omega
  have z1 := R0.cell hk
  have z2 := R0.frozen k
  have RW := hid R0
  clear R0
  generalize w.alloc (.cells (madeCells #[.int .i64 0] N) 2) = wm at *
  go_enter Tryd.func20, Tryd.ntmps20
  go_wp2
  go_ret
  refine ⟨ob, rfl, Ab.set A0.out HO.out _, (RW.out.set k _).congr (fun i _ => ?_), HO.out⟩
  unfold oneF
  by_cases e : i = k <;> simp [e]
end Ms
end Go.Proofs.YtpfndibgfkkcgaaDoor

namespace Go.Proofs.YtpfndibgfkkcgaaDoor
open Go.RowKit Go.Deep Cu
namespace Ms
open Sh
theorem lit_in (w : World) (l : List Int) (hl : ∀ x ∈ l, W64 x) : IsI (w.alloc (.cells (l.map (Value.int .i64)).toArray 2)) (some ⟨w.heap.size, 0, none⟩) l.length (fun i => l.getD i 0) := fun k hk => by
  have h := heap_alloc_new w (.cells (l.map (Value.int .i64)).toArray 2)
  refine ⟨?_, w.heap.size, 0, rfl, lt_of_block h, ?_⟩
  · have e : l.getD k 0 = l[k] := by simp [List.getD, hk]
    dsimp only
    rw [e]
    exact hl _ (List.getElem_mem _)
  · rw [Nat.zero_add]
    refine (cell_of_row _ _ k _ _ _ h).trans ?_
    simp [hk, List.getD]
def w5 (i : Nat) : Int := [5, 0, 0, 0, 0, 0].getD i 0
theorem aw_mv : (List.range (6 * 1 * 1)).map (mv 1 w5 (oneF 0 3)) = [2, 3, 0, 0, 0, 0] := by decide +kernel
theorem aw_can : can 1 w5 (oneF 0 3) := by
  intro c hc
  have h : ∀ c, c < 6 → 0 ≤ mv 1 w5 (oneF 0 3) c ∧ mv 1 w5 (oneF 0 3) c ≤ 9223372036854775807 := by decide +kernel
  exact h c (by omega)
theorem aw_not : ¬ can 1 w5 (oneF 0 6) := fun h => by
  have h0 := (h 0 (by omega)).1
  have e : mv 1 w5 (oneF 0 6) 0 = -1 := by decide +kernel
  omega
set_option maxRecDepth 100000 in
set_option maxHeartbeats 16000000 in
theorem awake_at (MC : MoveC) (TC : TotalC) (w : World) (hF : Fr w) :
    Calls Tryd.prog 9 #[] w fun e w' => e = .returned (.bool true) ∧ Below w.heap.size w w' := by
  have NW : Hid (Calls Tryd.prog 12 #[.int .i64 1] w fun e w' => ∃ gb, e = .returned (.tuple #[.pointer (some ⟨gb, 0, none⟩), .int .i64 0]) ∧ Ab w w' ∧ w.heap.size ≤ gb ∧ GridOf 1 gb w') := new_at 1 w ⟨by omega, by omega⟩ hF
  have O3 : Hid (∀ v, Calls Tryd.prog 20 #[.int .i64 12, .int .i64 0, .int .i64 3] v fun e w' => ∃ b, e = .returned (.slice (some ⟨b, 0, none⟩) 12 12) ∧ Below v.heap.size v w' ∧ w'.rowIs b 2 12 (fun i => .int .i64 (oneF 0 3 i)) ∧ v.heap.size ≤ b) := fun v => one_at 12 0 3 v (by omega) (by omega)
  have O6 : Hid (∀ v, Calls Tryd.prog 20 #[.int .i64 12, .int .i64 0, .int .i64 6] v fun e w' => ∃ b, e = .returned (.slice (some ⟨b, 0, none⟩) 12 12) ∧ Below v.heap.size v w' ∧ w'.rowIs b 2 12 (fun i => .int .i64 (oneF 0 6 i)) ∧ v.heap.size ≤ b) := fun v => one_at 12 0 6 v (by omega) (by omega)
  have L5 : Hid (∀ v : World, IsI (v.alloc (.cells #[.int .i64 5, .int .i64 0, .int .i64 0, .int .i64 0, .int .i64 0, .int .i64 0] 2)) (some ⟨v.heap.size, 0, none⟩) 6 w5) := fun v => lit_in v [5, 0, 0, 0, 0, 0] (fun x hx => by simp at hx; unfold W64; omega)
  have L2 : Hid (∀ v : World, IsI (v.alloc (.cells #[.int .i64 2, .int .i64 3, .int .i64 0, .int .i64 0, .int .i64 0, .int .i64 0] 2)) (some ⟨v.heap.size, 0, none⟩) 6 (fun i => [2, 3, 0, 0, 0, 0].getD i 0)) := fun v => lit_in v [2, 3, 0, 0, 0, 0] (fun x hx => by simp at hx; unfold W64; omega)
  have T1 : Hid (∀ v : World, Calls Tryd.prog 10 #[.slice (some ⟨v.heap.size, 0, none⟩) 2 2, .slice (some ⟨v.heap.size + 1, 0, none⟩) 1 1] ((v.alloc (.cells #[.int .i64 9223372036854775807, .int .i64 1] 2)).alloc (.cells #[.int .i64 (-1)] 2)) fun e w' => e = .returned (.tuple #[.int .i64 9223372036854775807, .int .i64 0]) ∧ Ab v w') := fun v => by
    have i1 := (lit_in v [9223372036854775807, 1] (fun x hx => by simp at hx; unfold W64; omega)).below (bl1 _ (.cells #[.int .i64 (-1)] 2))
    have i2 := lit_in (v.alloc (.cells #[.int .i64 9223372036854775807, .int .i64 1] 2)) [-1] (fun x hx => by simp at hx; unfold W64; omega)
    rw [show (v.alloc (.cells #[.int .i64 9223372036854775807, .int .i64 1] 2)).heap.size = v.heap.size + 1 by simp] at i2
    refine ((TC (some ⟨v.heap.size, 0, none⟩) 2 2 _ (some ⟨v.heap.size + 1, 0, none⟩) 1 1 _ _ (by omega) (by omega) i1 i2).1 (show W64 9223372036854775807 by unfold W64; omega)).mono ?_
    rintro e w' ⟨rfl, b⟩
    exact ⟨rfl, Ab.trans (bl2 _ _ _) b⟩
  have T2 : Hid (∀ v : World, Calls Tryd.prog 10 #[.slice (some ⟨v.heap.size, 0, none⟩) 2 2, .slice none 0 0] (v.alloc (.cells #[.int .i64 9223372036854775807, .int .i64 1] 2)) fun e w' => e = .returned (.tuple #[.int .i64 0, .int .i64 20]) ∧ Ab v w') := fun v => by
    have i1 := lit_in v [9223372036854775807, 1] (fun x hx => by simp at hx; unfold W64; omega)
    refine ((TC (some ⟨v.heap.size, 0, none⟩) 2 2 _ none 0 0 (fun _ => 0) _ (by omega) (by omega) i1 (IsI.nil _ _ _)).2 (show ¬ W64 9223372036854775808 by unfold W64; omega)).mono ?_
    rintro e w' ⟨rfl, b⟩
    exact ⟨rfl, Ab.trans (bl1 _ _) b⟩
  have HM := hid MC
  clear MC TC hF
  go_enter Tryd.func9, Tryd.ntmps9
  go_wp2_with fail
  refine NW.out.mono ?_
  rintro e9 v1 ⟨gb, rfl, a1, -, g1⟩
  have A1 := hid a1
  have G1 := hid g1
  have ED : Hid (Calls Tryd.prog 15 #[.pointer (some ⟨gb, 0, none⟩)] v1 fun e w' => e = .returned (.int .i64 12) ∧ w' = v1) := gEdges_at g1
  clear a1 g1 NW
  go_wp2_with fail
  refine ED.out.mono ?_
  rintro e9 v9 ⟨rfl, hv9⟩
  have hv8 := hv9.symm
  subst hv8
  clear ED
  go_wp2_with fail
  refine (O3.out _).mono ?_
  rintro e9 v2 ⟨b, rfl, b2, r2, l2⟩
  have A2 : Hid (Ab v1 v2) := Ab.trans (bl1 v1 _) b2
  have I2 := hid ((L5.out v1).below b2)
  have R2 := hid r2
  have M1 := hid ((HM.out 1 gb (some ⟨v1.heap.size, 0, none⟩) 6 6 w5 (some ⟨b, 0, none⟩) 12 12 (oneF 0 3) v2 ⟨by omega, by omega⟩ (G1.out.to A2.out) (by omega) (by omega) I2.out (row_in R2.out (fun i _ => by unfold oneF; split <;> omega))).1 ⟨rfl, rfl⟩ aw_can)
  rw [aw_mv] at M1
  clear b2 r2 l2 I2 R2
  go_wp2_with fail
  refine M1.out.mono ?_
  rintro e9 v3 ⟨lv, rfl, b3, o3⟩
  obtain ⟨a0, cap, hlv, i3⟩ := o3.in (fun x hx => by simp at hx; omega)
  subst hlv
  have A3 : Hid (Ab v1 v3) := A2.out.trans b3
  have I3 := hid i3
  clear b3 o3 i3 M1 A2
  go_wp2_with fail
  refine (O6.out _).mono ?_
  rintro e9 v4 ⟨b', rfl, b4, r4, l4⟩
  have A4 : Hid (Ab v3 v4) := Ab.trans (bl1 v3 _) b4
  have I4 := hid ((L5.out v3).below b4)
  have R4 := hid r4
  have M2 := hid ((HM.out 1 gb (some ⟨v3.heap.size, 0, none⟩) 6 6 w5 (some ⟨b', 0, none⟩) 12 12 (oneF 0 6) v4 ⟨by omega, by omega⟩ (G1.out.to (A3.out.trans A4.out)) (by omega) (by omega) I4.out (row_in R4.out (fun i _ => by unfold oneF; split <;> omega))).2.1 ⟨rfl, rfl⟩ aw_not)
  clear b4 r4 l4 I4 R4
  go_wp2_with fail
  refine M2.out.mono ?_
  rintro e9 v5 ⟨rfl, b5⟩
  have A5 : Hid (Ab v3 v5) := A4.out.trans b5
  clear b5 M2 A4
  go_wp2_with fail
  refine (T1.out v5).mono ?_
  rintro e9 v6 ⟨rfl, a6⟩
  have A6 : Hid (Ab v3 v6) := A5.out.trans a6
  clear a6 A5
  go_wp2_with fail
  refine (T2.out v6).mono ?_
  rintro e9 v7 ⟨rfl, a7⟩
  have A7 : Hid (Ab v3 v7) := A6.out.trans a7
  clear a7 A6
  have S3 := hid (same_at a0 (some ⟨v7.heap.size, 0, none⟩) 6 cap 6 _ (v7.alloc (.cells #[.int .i64 2, .int .i64 3, .int .i64 0, .int .i64 0, .int .i64 0, .int .i64 0] 2)) (by omega) (I3.out.below (A7.out.alloc _)) (L2.out v7))
  go_wp2_with fail
  refine S3.out.mono ?_
  rintro e9 v8 ⟨rfl, b8⟩
  have A8 : Hid (Ab w v8) := A1.out.trans (A3.out.trans ((A7.out.alloc _).trans b8))
  clear b8
  go_wp2
  go_ret
  exact ⟨rfl, A8.out⟩
end Ms
end Go.Proofs.YtpfndibgfkkcgaaDoor

namespace Go.Proofs.YtpfndibgfkkcgaaDoor
open Go.RowKit Go.Deep Cu
namespace Ms
open Sh
/-- four words of a sum of the reference -/
def Four (w : World) (b : Nat) (i0 i1 i2 i3 : Int) : Prop := w.heap[b]? = some (.cells #[.int .u64 i0, .int .u64 i1, .int .u64 i2, .int .u64 i3] 56)
theorem Four.frz {w : World} {b : Nat} {i0 i1 i2 i3 : Int} (h : Four w b i0 i1 i2 i3) (k : Nat) : w.frozen? ⟨b, k, none⟩ = false := by
  have r : w.rowIs b 56 4 (fun k => (#[.int .u64 i0, .int .u64 i1, .int .u64 i2, .int .u64 i3] : Array Value).getD k (.bool false)) := ⟨_, h, rfl, fun i hi => by
    match i, hi with
    | 0, _ => rfl
    | 1, _ => rfl
    | 2, _ => rfl
    | 3, _ => rfl⟩
  exact r.frozen k
theorem Abo.trans {u v w : World} {g : Nat} (h : Abo u g v) (k : Abo v g w) : Abo u g w := by
  obtain ⟨h1, h2, h3, h4, h5⟩ := h
  obtain ⟨k1, k2, k3, k4, k5⟩ := k
  exact ⟨k1.trans h1, k2.trans h2, k3.trans h3, Nat.le_trans h4 k4, fun i hi hne => (k5 i (by omega) hne).trans (h5 i hi hne)⟩
end Ms
end Go.Proofs.YtpfndibgfkkcgaaDoor

namespace Go.Proofs.YtpfndibgfkkcgaaDoor
open Go.RowKit Go.Deep Cu
namespace Ms
open Sh
/-- what a total is, and its error -/
def tv (S : Int) : Int := if -9223372036854775808 ≤ S ∧ S ≤ 9223372036854775807 then S else 0
def te (S : Int) : Int := if -9223372036854775808 ≤ S ∧ S ≤ 9223372036854775807 then 0 else 20
theorem tv_y {S : Int} (c : W64 S) : tv S = S := if_pos c
theorem tv_n {S : Int} (c : ¬ W64 S) : tv S = 0 := if_neg c
theorem te_y {S : Int} (c : W64 S) : te S = 0 := if_pos c
theorem te_n {S : Int} (c : ¬ W64 S) : te S = 20 := if_neg c
theorem total_of (TC : TotalC) (pw : Option Addr) (lw cw : Nat) (W : Nat → Int) (pm : Option Addr) (lm cm : Nat) (M : Nat → Int) (S : Int) (w : World) (h1 : lw ≤ 17592186044416) (h2 : lm ≤ 17592186044416) (hw : IsI w pw lw W) (hm : IsI w pm lm M) (hS : sumN W lw + sumN M lm = S) :
    Calls Tryd.prog 10 #[.slice pw lw cw, .slice pm lm cm] w fun e w' => e = .returned (.tuple #[.int .i64 (tv S), .int .i64 (te S)]) ∧ Below w.heap.size w w' := by
  have h := TC pw lw cw W pm lm cm M w h1 h2 hw hm
  rw [hS] at h
  by_cases c : W64 S
  · rw [tv_y c, te_y c]
    exact h.1 c
  · rw [tv_n c, te_n c]
    exact h.2 c
end Ms
end Go.Proofs.YtpfndibgfkkcgaaDoor

namespace Go.Proofs.YtpfndibgfkkcgaaDoor
open Go.RowKit Go.Deep Cu
namespace Ms
open Sh
theorem rev_sum (W : Nat → Int) (n : Nat) : sumN (fun i => W (n - 1 - i)) n = sumN W n := by
  rw [sumN_list, sumN_list]
  have e : (List.range n).map (fun i => W (n - 1 - i)) = ((List.range n).map W).reverse := by
    apply List.ext_getElem
    · simp
    · intro i h1 h2
      simp
  rw [e]
  exact perm_sum (List.reverse_perm _)
set_option maxRecDepth 100000 in
set_option maxHeartbeats 16000000 in
theorem parts_bad1 (pw : Option Addr) (lw cw : Nat) (W : Nat → Int) (pm : Option Addr) (lm cm : Nat) (x a e b f c g d h : Int) (w : World) (hl : lw ≤ 17592186044416) (hw : IsI w pw lw W) (hx1 : -9223372036854775808 ≤ x) (hx2 : x ≤ 9223372036854775807) (he : e = 20) (ha : a = 0)
    (AW : Hid (Calls Tryd.prog 9 #[] w fun e w' => e = .returned (.bool true) ∧ Below w.heap.size w w'))
    (T1 : Hid (∀ v, Ab w v → Calls Tryd.prog 10 #[.slice pw lw cw, .slice none 0 0] v fun r w' => r = .returned (.tuple #[.int .i64 a, .int .i64 e]) ∧ Below v.heap.size v w'))
    (T2 : Hid (∀ v, Ab w v → Calls Tryd.prog 10 #[.slice pm lm cm, .slice none 0 0] v fun r w' => r = .returned (.tuple #[.int .i64 b, .int .i64 f]) ∧ Below v.heap.size v w'))
    (T3 : Hid (∀ v, Ab w v → Calls Tryd.prog 10 #[.slice pw lw cw, .slice pm lm cm] v fun r w' => r = .returned (.tuple #[.int .i64 c, .int .i64 g]) ∧ Below v.heap.size v w'))
    (T4 : Hid (∀ v : World, Calls Tryd.prog 10 #[.slice none 0 0, .slice (some ⟨v.heap.size, 0, none⟩) 2 2] (v.alloc (.cells #[.int .i64 a, .int .i64 b] 2)) fun r w' => r = .returned (.tuple #[.int .i64 d, .int .i64 h]) ∧ Ab v w'))
    (T5 : Hid (∀ v ob, Ab w v → v.rowIs ob 2 lw (fun i => .int .i64 (W (lw - 1 - i))) → Calls Tryd.prog 10 #[.slice (some ⟨ob, 0, none⟩) lw lw, .slice none 0 0] v fun r w' => r = .returned (.tuple #[.int .i64 a, .int .i64 e]) ∧ Below v.heap.size v w'))
    (T6 : Hid (-9223372036854775807 ≤ x → ∀ v : World, Ab w v → Calls Tryd.prog 10 #[.slice pw lw cw, .slice (some ⟨v.heap.size, 0, none⟩) 2 2] (v.alloc (.cells #[.int .i64 x, .int .i64 (-x)] 2)) fun r w' => r = .returned (.tuple #[.int .i64 a, .int .i64 e]) ∧ Ab v w')) :
    Calls Tryd.prog 7 #[.slice pw lw cw, .slice pm lm cm, .int .i64 x] w fun r w' => r = .returned (.bool true) ∧ Below w.heap.size w w' := by
  have HW := hid hw
  have LW := hid hl
  clear hw hl
  have j1 : (e == 0) = false := by rw [he]; rfl
  have j2 : (e != 0) = true := by rw [he]; rfl
  have j3 : (a != 0) = false := by rw [ha]; rfl
  have j4 : (e != 20) = false := by rw [he]; rfl
  clear he ha
  have i1 : (a != a) = false := by simp
  have i2 : (e != e) = false := by simp
  have i3 : (a == a) = true := by simp
  have i4 : (e == e) = true := by simp
  go_enter Tryd.func7, Tryd.ntmps7
  go_wp2_with fail
  refine AW.out.mono ?_
  rintro e9 v0 ⟨rfl, b0⟩
  have A0 : Hid (Ab w v0) := b0
  clear b0
  go_wp2_with fail
  refine (T1.out _ A0.out).mono ?_
  rintro e9 v1 ⟨rfl, b1⟩
  have A1 : Hid (Ab w v1) := A0.out.trans b1
  clear b1 A0
  go_wp2_with fail
  refine (T2.out _ A1.out).mono ?_
  rintro e9 v2 ⟨rfl, b2⟩
  have A2 : Hid (Ab w v2) := A1.out.trans b2
  clear b2 A1
  go_wp2_with fail
  refine (T3.out _ A2.out).mono ?_
  rintro e9 v3 ⟨rfl, b3⟩
  have A3 : Hid (Ab w v3) := A2.out.trans b3
  clear b3 A2
  go_wp2_with fail
  refine (T4.out v3).mono ?_
  rintro e9 v4 ⟨rfl, b4⟩
  have A4 : Hid (Ab w v4) := A3.out.trans b4
  clear b4 A3 T1 T2 T3 T4
  have MK := run_make_row' (P := Tryd.prog) 22 2 (.int .i64 0) 8 Tryd.underlying22 info64 rfl .i64 .i64 lw (by have := LW.out; omega) (by have := LW.out; omega) v4
  obtain ⟨ob, hob⟩ : ∃ b, v4.heap.size = b := ⟨_, rfl⟩
  have RW : Hid ((v4.alloc (.cells (madeCells #[.int .i64 0] lw) 2)).rowIs ob 2 lw (fun _ => .int .i64 0)) := by rw [← hob]; exact World.rowIs_made _ _ _ _
  have A0 : Hid (Ab v4 (v4.alloc (.cells (madeCells #[.int .i64 0] lw) 2))) := bl1 v4 _
  have HO : Hid (v4.heap.size ≤ ob) := Nat.le_of_eq hob
  go_upto_region 10 with fail
  try rw [hob]
  generalize hV : World.alloc v4 _ = V at *
  clear hV hob MK
  go_wp2
  go_loopw [16] (fun iv wr => ∃ c : Nat, c ≤ lw ∧ iv = .int .i64 (c : Nat) ∧ Ab v4 wr ∧ wr.rowIs ob 2 lw (fun i => .int .i64 (if i < c then W (lw - 1 - i) else 0))) (fun iv _ => lw - (intOf iv).toNat)
  case atStart => exact ⟨0, by omega, rfl, A0.out, RW.out.congr (fun i _ => by simp)⟩
  case round =>
    obtain ⟨c, hc, rfl, a1, r1⟩ := hrel
    have AR := hid a1
    have RR := hid r1
    clear a1 r1 A0 RW
    by_cases hcn : c < lw
    · have HC := hid hcn
      have hcI : (c : Int) < lw := by omega
      have hcB : (lw : Int) ≤ 17592186044416 := by have := LW.out; omega
      obtain ⟨b0, o0, rfl⟩ := HW.out.some0 (show 0 < lw by omega)
      obtain ⟨x, hx⟩ : ∃ x, W (lw - 1 - c) = x := ⟨_, rfl⟩
      have at0 := (HW.out.below (A4.out.trans AR.out)).at0 (show lw - 1 - c < lw by omega)
      rw [hx] at at0
      have xc := at0.2.2
      have i0 : (0 : Int) ≤ (lw : Int) - 1 - (c : Int) := by omega
      have i1 : (lw : Int) - 1 - (c : Int) < (lw : Int) := by omega
      have z1 := RR.out.cell hcn
      have z2 := RR.out.frozen c
      have XE := hid hx
      clear at0 hx hcn hc
      go_wp2
      refine ⟨⟨c + 1, by have := HC.out; omega, by simp, Ab.set AR.out HO.out _, (RR.out.set c _).congr (fun i _ => ?_)⟩, by have := HC.out; simp [intOf]; omega⟩
      by_cases e : i = c
      · subst e; simp [XE.out]
      · have e2 : (i < c + 1) ↔ i < c := by omega
        simp [e, e2]
    · have e6 : lw = c := by omega
      subst e6
      have TB := hid (T5.out wr ob (A4.out.trans AR.out) (RR.out.congr (fun i hi => by simp [hi])))
      go_wp2_with fail
      refine TB.out.mono ?_
      rintro e9 v6 ⟨rfl, b6⟩
      have A6 : Hid (Ab w v6) := A4.out.trans (AR.out.trans b6)
      clear b6 TB
      by_cases q : x = -9223372036854775808
      · have d1 : (x == -9223372036854775808) = true := by simp [q]
        have Q := hid q
        clear q
        go_wp2
        go_ret
        exact ⟨rfl, A6.out⟩
      · have d1 : (x == -9223372036854775808) = false := by simp [q]
        have x3 : -9223372036854775807 ≤ x := by omega
        have TX := hid (T6.out x3 v6 A6.out)
        go_wp2_with fail
        refine TX.out.mono ?_
        rintro e9 v7 ⟨rfl, b7⟩
        have A7 : Hid (Ab w v7) := A6.out.trans b7
        clear b7 TX
        go_wp2
        go_ret
        exact ⟨rfl, A7.out⟩
set_option maxRecDepth 100000 in
set_option maxHeartbeats 16000000 in
theorem parts_bad2 (pw : Option Addr) (lw cw : Nat) (W : Nat → Int) (pm : Option Addr) (lm cm : Nat) (x a e b f c g d h : Int) (w : World) (hl : lw ≤ 17592186044416) (hw : IsI w pw lw W) (hx1 : -9223372036854775808 ≤ x) (hx2 : x ≤ 9223372036854775807) (he : e = 0) (hf : f = 20)
    (AW : Hid (Calls Tryd.prog 9 #[] w fun e w' => e = .returned (.bool true) ∧ Below w.heap.size w w'))
    (T1 : Hid (∀ v, Ab w v → Calls Tryd.prog 10 #[.slice pw lw cw, .slice none 0 0] v fun r w' => r = .returned (.tuple #[.int .i64 a, .int .i64 e]) ∧ Below v.heap.size v w'))
    (T2 : Hid (∀ v, Ab w v → Calls Tryd.prog 10 #[.slice pm lm cm, .slice none 0 0] v fun r w' => r = .returned (.tuple #[.int .i64 b, .int .i64 f]) ∧ Below v.heap.size v w'))
    (T3 : Hid (∀ v, Ab w v → Calls Tryd.prog 10 #[.slice pw lw cw, .slice pm lm cm] v fun r w' => r = .returned (.tuple #[.int .i64 c, .int .i64 g]) ∧ Below v.heap.size v w'))
    (T4 : Hid (∀ v : World, Calls Tryd.prog 10 #[.slice none 0 0, .slice (some ⟨v.heap.size, 0, none⟩) 2 2] (v.alloc (.cells #[.int .i64 a, .int .i64 b] 2)) fun r w' => r = .returned (.tuple #[.int .i64 d, .int .i64 h]) ∧ Ab v w'))
    (T5 : Hid (∀ v ob, Ab w v → v.rowIs ob 2 lw (fun i => .int .i64 (W (lw - 1 - i))) → Calls Tryd.prog 10 #[.slice (some ⟨ob, 0, none⟩) lw lw, .slice none 0 0] v fun r w' => r = .returned (.tuple #[.int .i64 a, .int .i64 e]) ∧ Below v.heap.size v w'))
    (T6 : Hid (-9223372036854775807 ≤ x → ∀ v : World, Ab w v → Calls Tryd.prog 10 #[.slice pw lw cw, .slice (some ⟨v.heap.size, 0, none⟩) 2 2] (v.alloc (.cells #[.int .i64 x, .int .i64 (-x)] 2)) fun r w' => r = .returned (.tuple #[.int .i64 a, .int .i64 e]) ∧ Ab v w')) :
    Calls Tryd.prog 7 #[.slice pw lw cw, .slice pm lm cm, .int .i64 x] w fun r w' => r = .returned (.bool true) ∧ Below w.heap.size w w' := by
  have HW := hid hw
  have LW := hid hl
  clear hw hl
  have j1 : (e == 0) = true := by rw [he]; rfl
  have j2 : (e != 0) = false := by rw [he]; rfl
  have j3 : (f == 0) = false := by rw [hf]; rfl
  clear he hf
  have i1 : (a != a) = false := by simp
  have i2 : (e != e) = false := by simp
  have i3 : (a == a) = true := by simp
  have i4 : (e == e) = true := by simp
  go_enter Tryd.func7, Tryd.ntmps7
  go_wp2_with fail
  refine AW.out.mono ?_
  rintro e9 v0 ⟨rfl, b0⟩
  have A0 : Hid (Ab w v0) := b0
  clear b0
  go_wp2_with fail
  refine (T1.out _ A0.out).mono ?_
  rintro e9 v1 ⟨rfl, b1⟩
  have A1 : Hid (Ab w v1) := A0.out.trans b1
  clear b1 A0
  go_wp2_with fail
  refine (T2.out _ A1.out).mono ?_
  rintro e9 v2 ⟨rfl, b2⟩
  have A2 : Hid (Ab w v2) := A1.out.trans b2
  clear b2 A1
  go_wp2_with fail
  refine (T3.out _ A2.out).mono ?_
  rintro e9 v3 ⟨rfl, b3⟩
  have A3 : Hid (Ab w v3) := A2.out.trans b3
  clear b3 A2
  go_wp2_with fail
  refine (T4.out v3).mono ?_
  rintro e9 v4 ⟨rfl, b4⟩
  have A4 : Hid (Ab w v4) := A3.out.trans b4
  clear b4 A3 T1 T2 T3 T4
  have MK := run_make_row' (P := Tryd.prog) 22 2 (.int .i64 0) 8 Tryd.underlying22 info64 rfl .i64 .i64 lw (by have := LW.out; omega) (by have := LW.out; omega) v4
  obtain ⟨ob, hob⟩ : ∃ b, v4.heap.size = b := ⟨_, rfl⟩
  have RW : Hid ((v4.alloc (.cells (madeCells #[.int .i64 0] lw) 2)).rowIs ob 2 lw (fun _ => .int .i64 0)) := by rw [← hob]; exact World.rowIs_made _ _ _ _
  have A0 : Hid (Ab v4 (v4.alloc (.cells (madeCells #[.int .i64 0] lw) 2))) := bl1 v4 _
  have HO : Hid (v4.heap.size ≤ ob) := Nat.le_of_eq hob
  go_upto_region 10 with fail
  try rw [hob]
  generalize hV : World.alloc v4 _ = V at *
  clear hV hob MK
  go_wp2
  go_loopw [16] (fun iv wr => ∃ c : Nat, c ≤ lw ∧ iv = .int .i64 (c : Nat) ∧ Ab v4 wr ∧ wr.rowIs ob 2 lw (fun i => .int .i64 (if i < c then W (lw - 1 - i) else 0))) (fun iv _ => lw - (intOf iv).toNat)
  case atStart => exact ⟨0, by omega, rfl, A0.out, RW.out.congr (fun i _ => by simp)⟩
  case round =>
    obtain ⟨c, hc, rfl, a1, r1⟩ := hrel
    have AR := hid a1
    have RR := hid r1
    clear a1 r1 A0 RW
    by_cases hcn : c < lw
    · have HC := hid hcn
      have hcI : (c : Int) < lw := by omega
      have hcB : (lw : Int) ≤ 17592186044416 := by have := LW.out; omega
      obtain ⟨b0, o0, rfl⟩ := HW.out.some0 (show 0 < lw by omega)
      obtain ⟨x, hx⟩ : ∃ x, W (lw - 1 - c) = x := ⟨_, rfl⟩
      have at0 := (HW.out.below (A4.out.trans AR.out)).at0 (show lw - 1 - c < lw by omega)
      rw [hx] at at0
      have xc := at0.2.2
      have i0 : (0 : Int) ≤ (lw : Int) - 1 - (c : Int) := by omega
      have i1 : (lw : Int) - 1 - (c : Int) < (lw : Int) := by omega
      have z1 := RR.out.cell hcn
      have z2 := RR.out.frozen c
      have XE := hid hx
      clear at0 hx hcn hc
      go_wp2
      refine ⟨⟨c + 1, by have := HC.out; omega, by simp, Ab.set AR.out HO.out _, (RR.out.set c _).congr (fun i _ => ?_)⟩, by have := HC.out; simp [intOf]; omega⟩
      by_cases e : i = c
      · subst e; simp [XE.out]
      · have e2 : (i < c + 1) ↔ i < c := by omega
        simp [e, e2]
    · have e6 : lw = c := by omega
      subst e6
      have TB := hid (T5.out wr ob (A4.out.trans AR.out) (RR.out.congr (fun i hi => by simp [hi])))
      go_wp2_with fail
      refine TB.out.mono ?_
      rintro e9 v6 ⟨rfl, b6⟩
      have A6 : Hid (Ab w v6) := A4.out.trans (AR.out.trans b6)
      clear b6 TB
      by_cases q : x = -9223372036854775808
      · have d1 : (x == -9223372036854775808) = true := by simp [q]
        have Q := hid q
        clear q
        go_wp2
        go_ret
        exact ⟨rfl, A6.out⟩
      · have d1 : (x == -9223372036854775808) = false := by simp [q]
        have x3 : -9223372036854775807 ≤ x := by omega
        have TX := hid (T6.out x3 v6 A6.out)
        go_wp2_with fail
        refine TX.out.mono ?_
        rintro e9 v7 ⟨rfl, b7⟩
        have A7 : Hid (Ab w v7) := A6.out.trans b7
        clear b7 TX
        go_wp2
        go_ret
        exact ⟨rfl, A7.out⟩
set_option maxRecDepth 100000 in
set_option maxHeartbeats 16000000 in
theorem parts_good (pw : Option Addr) (lw cw : Nat) (W : Nat → Int) (pm : Option Addr) (lm cm : Nat) (x a e b f c g d h : Int) (w : World) (hl : lw ≤ 17592186044416) (hw : IsI w pw lw W) (hx1 : -9223372036854775808 ≤ x) (hx2 : x ≤ 9223372036854775807) (he : e = 0) (hf : f = 0) (hc : c = d) (hg : g = h)
    (AW : Hid (Calls Tryd.prog 9 #[] w fun e w' => e = .returned (.bool true) ∧ Below w.heap.size w w'))
    (T1 : Hid (∀ v, Ab w v → Calls Tryd.prog 10 #[.slice pw lw cw, .slice none 0 0] v fun r w' => r = .returned (.tuple #[.int .i64 a, .int .i64 e]) ∧ Below v.heap.size v w'))
    (T2 : Hid (∀ v, Ab w v → Calls Tryd.prog 10 #[.slice pm lm cm, .slice none 0 0] v fun r w' => r = .returned (.tuple #[.int .i64 b, .int .i64 f]) ∧ Below v.heap.size v w'))
    (T3 : Hid (∀ v, Ab w v → Calls Tryd.prog 10 #[.slice pw lw cw, .slice pm lm cm] v fun r w' => r = .returned (.tuple #[.int .i64 c, .int .i64 g]) ∧ Below v.heap.size v w'))
    (T4 : Hid (∀ v : World, Calls Tryd.prog 10 #[.slice none 0 0, .slice (some ⟨v.heap.size, 0, none⟩) 2 2] (v.alloc (.cells #[.int .i64 a, .int .i64 b] 2)) fun r w' => r = .returned (.tuple #[.int .i64 d, .int .i64 h]) ∧ Ab v w'))
    (T5 : Hid (∀ v ob, Ab w v → v.rowIs ob 2 lw (fun i => .int .i64 (W (lw - 1 - i))) → Calls Tryd.prog 10 #[.slice (some ⟨ob, 0, none⟩) lw lw, .slice none 0 0] v fun r w' => r = .returned (.tuple #[.int .i64 a, .int .i64 e]) ∧ Below v.heap.size v w'))
    (T6 : Hid (-9223372036854775807 ≤ x → ∀ v : World, Ab w v → Calls Tryd.prog 10 #[.slice pw lw cw, .slice (some ⟨v.heap.size, 0, none⟩) 2 2] (v.alloc (.cells #[.int .i64 x, .int .i64 (-x)] 2)) fun r w' => r = .returned (.tuple #[.int .i64 a, .int .i64 e]) ∧ Ab v w')) :
    Calls Tryd.prog 7 #[.slice pw lw cw, .slice pm lm cm, .int .i64 x] w fun r w' => r = .returned (.bool true) ∧ Below w.heap.size w w' := by
  have HW := hid hw
  have LW := hid hl
  clear hw hl
  have j1 : (e == 0) = true := by rw [he]; rfl
  have j2 : (e != 0) = false := by rw [he]; rfl
  have j3 : (f == 0) = true := by rw [hf]; rfl
  have j4 : (c != d) = false := by rw [hc]; simp
  have j5 : (g != h) = false := by rw [hg]; simp
  clear he hf hc hg
  have i1 : (a != a) = false := by simp
  have i2 : (e != e) = false := by simp
  have i3 : (a == a) = true := by simp
  have i4 : (e == e) = true := by simp
  go_enter Tryd.func7, Tryd.ntmps7
  go_wp2_with fail
  refine AW.out.mono ?_
  rintro e9 v0 ⟨rfl, b0⟩
  have A0 : Hid (Ab w v0) := b0
  clear b0
  go_wp2_with fail
  refine (T1.out _ A0.out).mono ?_
  rintro e9 v1 ⟨rfl, b1⟩
  have A1 : Hid (Ab w v1) := A0.out.trans b1
  clear b1 A0
  go_wp2_with fail
  refine (T2.out _ A1.out).mono ?_
  rintro e9 v2 ⟨rfl, b2⟩
  have A2 : Hid (Ab w v2) := A1.out.trans b2
  clear b2 A1
  go_wp2_with fail
  refine (T3.out _ A2.out).mono ?_
  rintro e9 v3 ⟨rfl, b3⟩
  have A3 : Hid (Ab w v3) := A2.out.trans b3
  clear b3 A2
  go_wp2_with fail
  refine (T4.out v3).mono ?_
  rintro e9 v4 ⟨rfl, b4⟩
  have A4 : Hid (Ab w v4) := A3.out.trans b4
  clear b4 A3 T1 T2 T3 T4
  have MK := run_make_row' (P := Tryd.prog) 22 2 (.int .i64 0) 8 Tryd.underlying22 info64 rfl .i64 .i64 lw (by have := LW.out; omega) (by have := LW.out; omega) v4
  obtain ⟨ob, hob⟩ : ∃ b, v4.heap.size = b := ⟨_, rfl⟩
  have RW : Hid ((v4.alloc (.cells (madeCells #[.int .i64 0] lw) 2)).rowIs ob 2 lw (fun _ => .int .i64 0)) := by rw [← hob]; exact World.rowIs_made _ _ _ _
  have A0 : Hid (Ab v4 (v4.alloc (.cells (madeCells #[.int .i64 0] lw) 2))) := bl1 v4 _
  have HO : Hid (v4.heap.size ≤ ob) := Nat.le_of_eq hob
  go_upto_region 10 with fail
  try rw [hob]
  generalize hV : World.alloc v4 _ = V at *
  clear hV hob MK
  go_wp2
  go_loopw [16] (fun iv wr => ∃ c : Nat, c ≤ lw ∧ iv = .int .i64 (c : Nat) ∧ Ab v4 wr ∧ wr.rowIs ob 2 lw (fun i => .int .i64 (if i < c then W (lw - 1 - i) else 0))) (fun iv _ => lw - (intOf iv).toNat)
  case atStart => exact ⟨0, by omega, rfl, A0.out, RW.out.congr (fun i _ => by simp)⟩
  case round =>
    obtain ⟨c, hc, rfl, a1, r1⟩ := hrel
    have AR := hid a1
    have RR := hid r1
    clear a1 r1 A0 RW
    by_cases hcn : c < lw
    · have HC := hid hcn
      have hcI : (c : Int) < lw := by omega
      have hcB : (lw : Int) ≤ 17592186044416 := by have := LW.out; omega
      obtain ⟨b0, o0, rfl⟩ := HW.out.some0 (show 0 < lw by omega)
      obtain ⟨x, hx⟩ : ∃ x, W (lw - 1 - c) = x := ⟨_, rfl⟩
      have at0 := (HW.out.below (A4.out.trans AR.out)).at0 (show lw - 1 - c < lw by omega)
      rw [hx] at at0
      have xc := at0.2.2
      have i0 : (0 : Int) ≤ (lw : Int) - 1 - (c : Int) := by omega
      have i1 : (lw : Int) - 1 - (c : Int) < (lw : Int) := by omega
      have z1 := RR.out.cell hcn
      have z2 := RR.out.frozen c
      have XE := hid hx
      clear at0 hx hcn hc
      go_wp2
      refine ⟨⟨c + 1, by have := HC.out; omega, by simp, Ab.set AR.out HO.out _, (RR.out.set c _).congr (fun i _ => ?_)⟩, by have := HC.out; simp [intOf]; omega⟩
      by_cases e : i = c
      · subst e; simp [XE.out]
      · have e2 : (i < c + 1) ↔ i < c := by omega
        simp [e, e2]
    · have e6 : lw = c := by omega
      subst e6
      have TB := hid (T5.out wr ob (A4.out.trans AR.out) (RR.out.congr (fun i hi => by simp [hi])))
      go_wp2_with fail
      refine TB.out.mono ?_
      rintro e9 v6 ⟨rfl, b6⟩
      have A6 : Hid (Ab w v6) := A4.out.trans (AR.out.trans b6)
      clear b6 TB
      by_cases q : x = -9223372036854775808
      · have d1 : (x == -9223372036854775808) = true := by simp [q]
        have Q := hid q
        clear q
        go_wp2
        go_ret
        exact ⟨rfl, A6.out⟩
      · have d1 : (x == -9223372036854775808) = false := by simp [q]
        have x3 : -9223372036854775807 ≤ x := by omega
        have TX := hid (T6.out x3 v6 A6.out)
        go_wp2_with fail
        refine TX.out.mono ?_
        rintro e9 v7 ⟨rfl, b7⟩
        have A7 : Hid (Ab w v7) := A6.out.trans b7
        clear b7 TX
        go_wp2
        go_ret
        exact ⟨rfl, A7.out⟩
/-- MASSPARTS -/
theorem parts_at (MC : MoveC) (TC : TotalC) {pw : Option Addr} {lw cw : Nat} {W : Nat → Int} {pm : Option Addr} {lm cm : Nat} {M : Nat → Int} {x : Int} (w : World) (hFr : Fr w) (hw : IsI w pw lw W) (hm : IsI w pm lm M) (lw2 : lw ≤ 17592186044416) (lm2 : lm ≤ 17592186044416) (hx : W64 x) :
    Calls Tryd.prog 7 #[.slice pw lw cw, .slice pm lm cm, .int .i64 x] w fun e w' => e = .returned (.bool true) ∧ Below w.heap.size w w' := by
  have AW := awake_at MC TC w hFr
  have tvw : ∀ S, W64 (tv S) := fun S => by
    by_cases c : W64 S
    · rw [tv_y c]; exact c
    · rw [tv_n c]; unfold W64; omega
  have T1 : ∀ v, Ab w v → Calls Tryd.prog 10 #[.slice pw lw cw, .slice none 0 0] v fun r w' => r = .returned (.tuple #[.int .i64 (tv (sumN W lw)), .int .i64 (te (sumN W lw))]) ∧ Below v.heap.size v w' := fun v a => total_of TC pw lw cw W none 0 0 (fun _ => 0) _ v lw2 (by omega) (hw.below a) (IsI.nil _ _ _) (Int.add_zero _)
  have T2 : ∀ v, Ab w v → Calls Tryd.prog 10 #[.slice pm lm cm, .slice none 0 0] v fun r w' => r = .returned (.tuple #[.int .i64 (tv (sumN M lm)), .int .i64 (te (sumN M lm))]) ∧ Below v.heap.size v w' := fun v a => total_of TC pm lm cm M none 0 0 (fun _ => 0) _ v lm2 (by omega) (hm.below a) (IsI.nil _ _ _) (Int.add_zero _)
  have T3 : ∀ v, Ab w v → Calls Tryd.prog 10 #[.slice pw lw cw, .slice pm lm cm] v fun r w' => r = .returned (.tuple #[.int .i64 (tv (sumN W lw + sumN M lm)), .int .i64 (te (sumN W lw + sumN M lm))]) ∧ Below v.heap.size v w' := fun v a => total_of TC pw lw cw W pm lm cm M _ v lw2 lm2 (hw.below a) (hm.below a) rfl
  have T4 : ∀ v : World, Calls Tryd.prog 10 #[.slice none 0 0, .slice (some ⟨v.heap.size, 0, none⟩) 2 2] (v.alloc (.cells #[.int .i64 (tv (sumN W lw)), .int .i64 (tv (sumN M lm))] 2)) fun r w' => r = .returned (.tuple #[.int .i64 (tv (tv (sumN W lw) + tv (sumN M lm))), .int .i64 (te (tv (sumN W lw) + tv (sumN M lm)))]) ∧ Ab v w' := fun v => by
    have i := lit_in v [tv (sumN W lw), tv (sumN M lm)] (fun y hy => by
      simp at hy
      rcases hy with rfl | rfl <;> exact tvw _)
    refine (total_of TC none 0 0 (fun _ => 0) (some ⟨v.heap.size, 0, none⟩) 2 2 _ (tv (sumN W lw) + tv (sumN M lm)) _ (by omega) (by omega) (IsI.nil _ _ _) i ?_).mono ?_
    · show (0 : Int) + (0 + tv (sumN W lw) + tv (sumN M lm)) = _
      omega
    · rintro e w' ⟨rfl, b⟩
      exact ⟨rfl, Ab.trans (bl1 _ _) b⟩
  have T5 : ∀ v ob, Ab w v → v.rowIs ob 2 lw (fun i => .int .i64 (W (lw - 1 - i))) → Calls Tryd.prog 10 #[.slice (some ⟨ob, 0, none⟩) lw lw, .slice none 0 0] v fun r w' => r = .returned (.tuple #[.int .i64 (tv (sumN W lw)), .int .i64 (te (sumN W lw))]) ∧ Below v.heap.size v w' := fun v ob _ r => by
    refine total_of TC (some ⟨ob, 0, none⟩) lw lw (fun i => W (lw - 1 - i)) none 0 0 (fun _ => 0) _ v lw2 (by omega) (row_in r (fun i hi => ?_)) (IsI.nil _ _ _) ?_
    · exact (hw (lw - 1 - i) (by omega)).1
    · rw [rev_sum]
      exact Int.add_zero _
  have T6 : -9223372036854775807 ≤ x → ∀ v : World, Ab w v → Calls Tryd.prog 10 #[.slice pw lw cw, .slice (some ⟨v.heap.size, 0, none⟩) 2 2] (v.alloc (.cells #[.int .i64 x, .int .i64 (-x)] 2)) fun r w' => r = .returned (.tuple #[.int .i64 (tv (sumN W lw)), .int .i64 (te (sumN W lw))]) ∧ Ab v w' := fun h3 v a => by
    have i := lit_in v [x, -x] (fun y hy => by
      simp at hy
      unfold W64 at hx ⊢
      omega)
    refine (total_of TC pw lw cw W (some ⟨v.heap.size, 0, none⟩) 2 2 _ (sumN W lw) _ lw2 (by omega) (hw.below (a.trans (bl1 _ _))) i ?_).mono ?_
    · show sumN W lw + (0 + x + -x) = _
      omega
    · rintro e w' ⟨rfl, b⟩
      exact ⟨rfl, Ab.trans (bl1 _ _) b⟩
  by_cases c1 : W64 (sumN W lw)
  · by_cases c2 : W64 (sumN M lm)
    · exact parts_good pw lw cw W pm lm cm x _ _ _ _ _ _ _ _ w lw2 hw hx.1 hx.2 (te_y c1) (te_y c2) (by rw [tv_y c1, tv_y c2]) (by rw [tv_y c1, tv_y c2]) AW T1 T2 T3 T4 T5 T6
    · exact parts_bad2 pw lw cw W pm lm cm x _ _ _ _ _ _ _ _ w lw2 hw hx.1 hx.2 (te_y c1) (te_n c2) AW T1 T2 T3 T4 T5 T6
  · exact parts_bad1 pw lw cw W pm lm cm x _ _ _ _ _ _ _ _ w lw2 hw hx.1 hx.2 (te_n c1) (tv_n c1) AW T1 T2 T3 T4 T5 T6
end Ms
end Go.Proofs.YtpfndibgfkkcgaaDoor

namespace Go.Proofs.YtpfndibgfkkcgaaDoor
open Go.ChangeShapes Go.WideShapes Go.ChangeAt Go.WideMaps Go.WideElems Go.RowKit Go.Deep
namespace Sh
theorem trod_int {H : Type} {enc : TypeId × Value → H} {P : Program} {w : World} {base : Nat} {spare : Nat → Bool} {held : Bool} {t : TypeId} {fuel : Nat} {v : Value} {x : DataW H × List MemPlace} (ht : P.underlying t = some (.int .i64)) (h : DataW.trod enc P w base spare held fuel t [v] = some x) :
    ∃ b, v = .int .i64 b ∧ (-9223372036854775808 ≤ b ∧ b ≤ 9223372036854775807) := by
  obtain ⟨k, e, _, wf⟩ := DataW.trod_int ht h
  simp at e
  simp only [Lit.wf, Bool.and_eq_true, decide_eq_true_eq] at wf
  have q1 : IntKind.i64.min = -9223372036854775808 := by decide
  have q2 : IntKind.i64.max = 9223372036854775807 := by decide
  rw [q1, q2] at wf
  exact ⟨k, e, wf⟩
theorem cell_block {w : World} {a : Addr} {v : Value} (h : w.cell? a = some v) : a.block < w.heap.size := by
  by_cases c : a.block < w.heap.size
  · exact c
  · exfalso
    have : w.heap[a.block]? = none := by simp; omega
    simp [World.cell?, this] at h
theorem pick_fn {α : Type} {n : Nat} {R : Nat → α → Prop} (d : α) (h : ∀ i, i < n → ∃ x, R i x) : ∃ f : Nat → α, ∀ i, i < n → R i (f i) := by
  have : ∀ i, ∃ x, i < n → R i x := fun i => by
    by_cases c : i < n
    · obtain ⟨x, h1⟩ := h i c
      exact ⟨x, fun _ => h1⟩
    · exact ⟨d, fun h => absurd h c⟩
  exact ⟨fun i => (this i).choose, fun i hi => (this i).choose_spec hi⟩
theorem list_open {H : Type} {enc : TypeId × Value → H} {W : World} {cs : List Value} {fuel : Nat} {x : DataW H × List MemPlace}
    (hf : DataW.trod enc Tryd.prog W 0 (fun _ => true) true fuel 22 cs = some x) : ∃ a0 len cap xs, cs = [.slice a0 len cap] ∧ IsI W a0 len xs ∧ len ≤ cap ∧ cap ≤ maxLen := by
  rcases open_slice1 Tryd.underlying22 (by kernel_rfl) hf with ⟨hcs, _⟩ | ⟨a, l, c, m, n, V, D, Pl, hcs, _, hl, hm, hmm, _, hx⟩
  · exact ⟨none, 0, 0, fun _ => 0, hcs, fun k hk => by omega, Nat.le_refl _, Nat.zero_le _⟩
  · simp only [if_true] at hmm
    have each : ∀ i, i < l → ∃ x : Int, W.cell? (a.add i) = some (.int .i64 x) ∧ (-9223372036854775808 ≤ x ∧ x ≤ 9223372036854775807) := by
      intro i hi
      obtain ⟨h1, h2⟩ := hx i (by omega)
      obtain ⟨x, e, wx⟩ := trod_int Tryd.underlying2 h2
      rw [e] at h1
      exact ⟨x, h1, wx⟩
    obtain ⟨f, hf⟩ := pick_fn 0 each
    refine ⟨some a, l, c, f, hcs, fun k hk => ⟨(hf k hk).2, ?_⟩, hl, hm⟩
    have h0 := (hf k hk).1
    have z := (hf 0 (by omega)).1
    obtain ⟨b, off, spot⟩ := a
    have hspot : spot = none := by simpa [Addr.add] using World.cell?_spot z
    subst hspot
    rw [add_off] at h0
    exact ⟨b, off, rfl, cell_block h0, h0⟩
end Sh
end Go.Proofs.YtpfndibgfkkcgaaDoor

namespace Go.Proofs.YtpfndibgfkkcgaaDoor
open Go.ChangeShapes Go.WideShapes Go.ChangeAt Go.WideMaps Go.WideElems Go.RowKit Go.Deep
namespace Ms
open Sh
theorem lit_w {x : Int} (h : (Lit.int .i64 x).wf = true) : -9223372036854775808 ≤ x ∧ x ≤ 9223372036854775807 := by
  simp only [Lit.wf, Bool.and_eq_true, decide_eq_true_eq] at h
  have q1 : IntKind.i64.min = -9223372036854775808 := by decide
  have q2 : IntKind.i64.max = 9223372036854775807 := by decide
  omega
end Ms
end Go.Proofs.YtpfndibgfkkcgaaDoor

namespace Go.Proofs.YtpfndibgfkkcgaaDoor
open Go.RowKit Go.Deep Cu
namespace Ms
open Sh
/-- the lower word -/
def loW (x : Int) : Int := x % 18446744073709551616
/-- the upper word -/
def hiW (x : Int) : Int := x / 18446744073709551616 % 18446744073709551616
/-- a number as a word -/
def wd (n : Int) : Int := if n < 0 then n + 18446744073709551616 else n
/-- its sign as a word -/
def sgW (n : Int) : Int := if n < 0 then 18446744073709551615 else 0
theorem loW_in (x : Int) : 0 ≤ loW x ∧ loW x < 18446744073709551616 := by unfold loW; omega
theorem hiW_in (x : Int) : 0 ≤ hiW x ∧ hiW x < 18446744073709551616 := by unfold hiW; omega
theorem wd_in {n : Int} (h : W64 n) : 0 ≤ wd n ∧ wd n < 18446744073709551616 := by
  unfold W64 at h; unfold wd; split <;> omega
theorem sgW_in (n : Int) : 0 ≤ sgW n ∧ sgW n < 18446744073709551616 := by unfold sgW; split <;> omega
theorem wd_wrap {n : Int} (h : W64 n) : IntKind.u64.wrap n = wd n := by
  unfold W64 at h; unfold wd
  simp [IntKind.wrap, IntKind.bits, IntKind.signed]
  split <;> omega
theorem plus_low {x n : Int} (_h : W64 n) : (loW x + wd n + 0) % 18446744073709551616 = loW (x + n) := by
  unfold loW wd; split <;> omega
theorem plus_high {x n : Int} (_h : W64 n) : (hiW x + sgW n + (loW x + wd n + 0) / 18446744073709551616) % 18446744073709551616 = hiW (x + n) := by
  unfold hiW loW wd sgW; split <;> omega
theorem plus_carry {x n : Int} (h : W64 n) : 0 ≤ (loW x + wd n + 0) / 18446744073709551616 ∧ (loW x + wd n + 0) / 18446744073709551616 ≤ 1 := by
  have := loW_in x
  have := wd_in h
  omega
/-- what is borrowed -/
def bo (a b : Int) : Int := if a < b then 1 else 0
theorem bo_in (a b : Int) : 0 ≤ bo a b ∧ bo a b ≤ 1 := by unfold bo; split <;> omega
theorem minus_low {x n : Int} (_h : W64 n) : (loW x + 18446744073709551616 - wd n - 0) % 18446744073709551616 = loW (x - n) := by
  unfold loW wd; split <;> omega
theorem minus_high {x n : Int} (h : W64 n) : (hiW x + 18446744073709551616 - sgW n - bo (loW x) (wd n + 0)) % 18446744073709551616 = hiW (x - n) := by
  unfold W64 at h; unfold hiW loW wd sgW bo
  by_cases c : n < 0
  · rw [if_pos c, if_pos c]; split <;> omega
  · rw [if_neg c, if_neg c]; split <;> omega
/-- the lower word as a number -/
def sh (x : Int) : Int := if loW x < 9223372036854775808 then loW x else loW x - 18446744073709551616
theorem sh_in (x : Int) : W64 (sh x) := by
  have := loW_in x
  unfold W64 sh; split <;> omega
theorem sh_wrap (x : Int) : IntKind.i64.wrap (loW x) = sh x := by
  have := loW_in x
  unfold sh
  generalize loW x = y at *
  simp [IntKind.wrap, IntKind.bits, IntKind.signed]
  split <;> omega
theorem sh_of {x : Int} (h : W64 x) : sh x = x ∧ hiW x = sgW (sh x) := by
  unfold W64 at h
  have e : sh x = x := by unfold sh loW; split <;> omega
  refine ⟨e, ?_⟩
  rw [e]
  unfold hiW sgW; split <;> omega
theorem sh_no {x : Int} (h : ¬ W64 x) (a : -170141183460469231731687303715884105728 ≤ x) (b : x < 170141183460469231731687303715884105728) : hiW x ≠ sgW (sh x) := by
  unfold W64 at h
  unfold hiW sgW sh loW
  intro e
  by_cases c : x % 18446744073709551616 < 9223372036854775808
  · rw [if_pos c, if_neg (by omega)] at e; omega
  · rw [if_neg c, if_pos (by omega)] at e; omega
theorem three_a (s : String) (x y c : Nat) (hc1 : c ≤ 1) (w : World) : (Extern.MathBitsCarry.three s #[.int .u64 x, .int .u64 y, .int .u64 c]).run Tryd.prog w = .ok (x, y, c) w := by
  have h : c = 0 ∨ c = 1 := by omega
  rcases h with rfl | rfl <;> rfl
theorem run_add (x y c s o : Int) (hx : 0 ≤ x) (hy : 0 ≤ y) (hc : 0 ≤ c) (hc1 : c ≤ 1) (hs : (x + y + c) % 18446744073709551616 = s) (ho : (x + y + c) / 18446744073709551616 = o) (w : World) :
    (callFunc 37 #[.int .u64 x, .int .u64 y, .int .u64 c]).run Tryd.prog w = .ok (.value (.tuple #[.int .u64 s, .int .u64 o])) w := by
  rw [run_callFunc_extern (e := fun args => do
    let (x, y, c) ← Extern.MathBitsCarry.three "Add64" args
    pure (Extern.MathBitsCarry.pair ((x + y + c) % Extern.MathBitsCarry.m64) ((x + y + c) / Extern.MathBitsCarry.m64))) Tryd.func37 (by kernel_rfl) (by kernel_rfl) (by kernel_rfl) (by kernel_rfl)]
  obtain ⟨x, rfl⟩ : ∃ n : Nat, x = n := ⟨x.toNat, by omega⟩
  obtain ⟨y, rfl⟩ : ∃ n : Nat, y = n := ⟨y.toNat, by omega⟩
  obtain ⟨c, rfl⟩ : ∃ n : Nat, c = n := ⟨c.toNat, by omega⟩
  have e : Extern.MathBitsCarry.m64 = 18446744073709551616 := by decide
  have hp : Extern.MathBitsCarry.pair ((x + y + c) % Extern.MathBitsCarry.m64) ((x + y + c) / Extern.MathBitsCarry.m64) = .tuple #[.int .u64 s, .int .u64 o] := by
    unfold Extern.MathBitsCarry.pair
    rw [e, Int.ofNat_eq_natCast, Int.ofNat_eq_natCast]
    have h1 : (((x + y + c) % 18446744073709551616 : Nat) : Int) = s := by omega
    have h2 : (((x + y + c) / 18446744073709551616 : Nat) : Int) = o := by omega
    rw [h1, h2]
  have h4 := three_a "Add64" x y c (by omega) w
  rw [Sem.run_bind, h4, Result.andThen_ok]
  show Result.andThen (Sem.run Tryd.prog (pure (Extern.MathBitsCarry.pair ((x + y + c) % Extern.MathBitsCarry.m64) ((x + y + c) / Extern.MathBitsCarry.m64))) w) _ = _
  rw [hp]; rfl
theorem run_sub (x y c s o : Int) (hx : 0 ≤ x) (hy : 0 ≤ y) (hy1 : y < 18446744073709551616) (hc : 0 ≤ c) (hc1 : c ≤ 1) (hs : (x + 18446744073709551616 - y - c) % 18446744073709551616 = s) (ho : bo x (y + c) = o) (w : World) :
    (callFunc 45 #[.int .u64 x, .int .u64 y, .int .u64 c]).run Tryd.prog w = .ok (.value (.tuple #[.int .u64 s, .int .u64 o])) w := by
  rw [run_callFunc_extern (e := fun args => do
    let (x, y, b) ← Extern.MathBitsCarry.three "Sub64" args
    pure (Extern.MathBitsCarry.pair ((x + Extern.MathBitsCarry.m64 - y - b) % Extern.MathBitsCarry.m64) (if x < y + b then 1 else 0))) Tryd.func45 (by kernel_rfl) (by kernel_rfl) (by kernel_rfl) (by kernel_rfl)]
  obtain ⟨x, rfl⟩ : ∃ n : Nat, x = n := ⟨x.toNat, by omega⟩
  obtain ⟨y, rfl⟩ : ∃ n : Nat, y = n := ⟨y.toNat, by omega⟩
  obtain ⟨c, rfl⟩ : ∃ n : Nat, c = n := ⟨c.toNat, by omega⟩
  have e : Extern.MathBitsCarry.m64 = 18446744073709551616 := by decide
  have hp : Extern.MathBitsCarry.pair ((x + Extern.MathBitsCarry.m64 - y - c) % Extern.MathBitsCarry.m64) (if x < y + c then 1 else 0) = .tuple #[.int .u64 s, .int .u64 o] := by
    unfold Extern.MathBitsCarry.pair
    rw [e, Int.ofNat_eq_natCast, Int.ofNat_eq_natCast]
    have h1 : (((x + 18446744073709551616 - y - c) % 18446744073709551616 : Nat) : Int) = s := by omega
    have h2 : (((if x < y + c then 1 else 0) : Nat) : Int) = o := by
      unfold bo at ho
      by_cases d : x < y + c
      · rw [if_pos d]; rw [if_pos (by omega)] at ho; exact ho
      · rw [if_neg d]; rw [if_neg (by omega)] at ho; exact ho
    rw [h1, h2]
  have h4 := three_a "Sub64" x y c (by omega) w
  rw [Sem.run_bind, h4, Result.andThen_ok]
  show Result.andThen (Sem.run Tryd.prog (pure (Extern.MathBitsCarry.pair ((x + Extern.MathBitsCarry.m64 - y - c) % Extern.MathBitsCarry.m64) (if x < y + c then 1 else 0))) w) _ = _
  rw [hp]; rfl
/-- flows below a number -/
def upF (k : Nat) (F : Nat → Int) (i : Nat) : Int := if i < k then F i else 0
theorem mv_nil {n c : Nat} (W F : Nat → Int) (hn : 1 ≤ n) (hc : c < 6 * n * n) : mv n W (upF 0 F) c = W c := by
  have h := mv_back n W (fun _ => 0) c
  have g := mv_two n W (fun _ => 0) (fun i => -(fun _ => (0 : Int)) i) c
  rw [h] at g
  rw [g]
  exact mv_congr hn hc rfl (fun i _ => by simp [upF])
/-- one flow more -/
theorem mv_up {n k c : Nat} (W F : Nat → Int) (hn : 1 ≤ n) (hk : k < 12 * n * n) (hc : c < 6 * n * n) : mv n W (upF (k + 1) F) c = if c = edT n k / 4 then mv n W (upF k F) c - F k else if c = mt n (edT n k) / 4 then mv n W (upF k F) c + F k else mv n W (upF k F) c := by
  rw [← mv_one (q := F k) (mv n W (upF k F)) hn hk hc, mv_two]
  refine mv_congr hn hc rfl (fun i _ => ?_)
  unfold upF oneF
  by_cases a : i < k
  · rw [if_pos (by omega), if_pos a, if_neg (by omega)]; omega
  · by_cases b : i = k
    · subst b; rw [if_pos (by omega), if_neg (by omega), if_pos rfl]; omega
    · rw [if_neg (by omega), if_neg a, if_neg b]; omega
theorem mv_all {n c : Nat} (W F : Nat → Int) (hn : 1 ≤ n) (hc : c < 6 * n * n) : mv n W (upF (12 * n * n) F) c = mv n W F c :=
  mv_congr hn hc rfl (fun i hi => by unfold upF; rw [if_pos hi])
theorem sum_in {f : Nat → Int} : ∀ {l : Nat}, (∀ k, k < l → W64 (f k)) → -(9223372036854775808 * (l : Int)) ≤ sumN f l ∧ sumN f l ≤ 9223372036854775807 * (l : Int)
  | 0, _ => by unfold sumN; omega
  | l + 1, h => by
    have i := sum_in (l := l) (fun k hk => h k (by omega))
    have j := h l (by omega)
    unfold W64 at j
    show _ ≤ sumN f l + f l ∧ sumN f l + f l ≤ _
    omega
end Ms
end Go.Proofs.YtpfndibgfkkcgaaDoor
