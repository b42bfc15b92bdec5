/-
  Some of the texts of this proof, one behind the other.
-/
import Derived.Test.YtpfndibgfkkcgaaDoorRows
import Derived.Deep.OwnRows
import Derived.Deep.Cut
import Derived.Deep.CutRange
import Derived.Deep.AppendLies
import Derived.Deep.AppendSrc
import Derived.OwnWalk
import Derived.Deep.QuietTactic
import Derived.Test.YtpfndibgfkkcgaaDoorZ06
namespace Go.Proofs.YtpfndibgfkkcgaaDoor
open Go.RowKit Go.Deep
namespace Sh
/-- a list of so many whole numbers -/
def IsI (w : World) (a0 : Option Addr) (len : Nat) (xs : Nat → Int) : Prop := ∀ k, k < len → (-9223372036854775808 ≤ xs k ∧ xs k ≤ 9223372036854775807) ∧ ∃ b o, a0 = some ⟨b, o, none⟩ ∧ b < w.heap.size ∧ w.cell? ⟨b, o + k, none⟩ = some (.int .i64 (xs k))
theorem IsI.below {w w' : World} {a0 : Option Addr} {len : Nat} {xs : Nat → Int} (h : IsI w a0 len xs) (hb : Below w.heap.size w w') : IsI w' a0 len xs := by
  intro k hk
  obtain ⟨h1, b, o, h2, h3, h4⟩ := h k hk
  exact ⟨h1, b, o, h2, Nat.lt_of_lt_of_le h3 hb.size, (Below.cell hb h3).trans h4⟩
theorem IsI.some0 {w : World} {a0 : Option Addr} {len : Nat} {xs : Nat → Int} (h : IsI w a0 len xs) (h0 : 0 < len) : ∃ b o, a0 = some ⟨b, o, none⟩ := by
  obtain ⟨_, b, o, h2, _⟩ := h 0 h0
  exact ⟨b, o, h2⟩
theorem IsI.at0 {w : World} {b o len k : Nat} {xs : Nat → Int} (h : IsI w (some ⟨b, o, none⟩) len xs) (hk : k < len) : (-9223372036854775808 ≤ xs k ∧ xs k ≤ 9223372036854775807) ∧ b < w.heap.size ∧ w.cell? ⟨b, o + k, none⟩ = some (.int .i64 (xs k)) := by
  obtain ⟨h1, b', o', h2, h3, h4⟩ := h k hk
  cases h2
  exact ⟨h1, h3, h4⟩
theorem IsI.nil (w : World) (a0 : Option Addr) (xs : Nat → Int) : IsI w a0 0 xs := fun k hk => absurd hk (Nat.not_lt_zero k)
theorem IsI.congr {w : World} {a0 : Option Addr} {len : Nat} {xs ys : Nat → Int} (h : IsI w a0 len xs) (e : ∀ k, k < len → xs k = ys k) : IsI w a0 len ys := fun k hk => by rw [← e k hk]; exact h k hk
theorem add_off (b off j : Nat) : (⟨b, off, none⟩ : Addr).add j = ⟨b, off + j, none⟩ := by unfold Addr.add; split <;> simp_all
theorem row_in {w : World} {b n : Nat} {f : Nat → Int} (h : w.rowIs b 2 n (fun i => .int .i64 (f i))) (hf : ∀ i, i < n → -9223372036854775808 ≤ f i ∧ f i ≤ 9223372036854775807) : IsI w (some ⟨b, 0, none⟩) n f := fun k hk => ⟨hf k hk, b, 0, rfl, h.lt, by rw [Nat.zero_add]; exact h.cell hk⟩
theorem info64 : (Tryd.prog.info? 2).map (fun i => (i.zero, i.size, i.bytes)) = some (some (.int .i64 0), 1, 8) := by kernel_rfl
/-- a list of the call's own, of so many whole numbers -/
def Own (B : Nat) (v : Value) (l : List Int) (w : World) : Prop := w.ownsRow B 2 1 v l.length (l.map (Value.int .i64))
theorem Own.in {B : Nat} {v : Value} {l : List Int} {w : World} (h : Own B v l w) (hl : ∀ x ∈ l, -9223372036854775808 ≤ x ∧ x ≤ 9223372036854775807) : ∃ a0 cap, v = .slice a0 l.length cap ∧ IsI w a0 l.length (fun j => l.getD j 0) := by
  rcases h.2 with ⟨rfl, h0⟩ | ⟨g, cap, cur, rfl, hb, hg, h1, h2, h3, h4⟩
  · exact ⟨none, 0, by rw [h0], fun k hk => by omega⟩
  · refine ⟨some ⟨g, 0, none⟩, cap, rfl, fun k hk => ?_⟩
    have hx : l.getD k 0 = l[k] := by simp [List.getD, hk]
    refine ⟨by dsimp only; rw [hx]; exact hl _ (List.getElem_mem _), g, 0, rfl, lt_of_block hg, ?_⟩
    have e := h.cells (g := g) rfl k (.int .i64 (l.getD k 0)) (by simp [hk])
    rw [add_off] at e
    exact e
theorem Own.to {B : Nat} {v : Value} {l : List Int} {w w' : World} (h : Own B v l w) (hb : Ab w w') : Own B v l w' := by
  refine ⟨h.1, ?_⟩
  rcases h.2 with h0 | ⟨g, cap, cur, e, hb', hg, h1, h2, h3, h4⟩
  · exact .inl h0
  · exact .inr ⟨g, cap, cur, e, hb', hb.heap hg, h1, h2, h3, h4⟩
/-- all blocks of V but g are in w as they were -/
def Abo (V : World) (g : Nat) (w : World) : Prop := w.os = V.os ∧ w.tape = V.tape ∧ w.output = V.output ∧ V.heap.size ≤ w.heap.size ∧ ∀ k, k < V.heap.size → k ≠ g → w.heap[k]? = V.heap[k]?
theorem Abo.ab {w0 V w : World} {g : Nat} (h : Abo V g w) (a : Ab w0 V) (hg : w0.heap.size ≤ g) : Ab w0 w := by
  obtain ⟨h1, h2, h3, h4, h5⟩ := h
  exact ⟨h1.trans a.os, h2.trans a.tape, h3.trans a.output, Nat.le_trans (Below.size a) h4, fun k hk => (h5 k (Nat.lt_of_lt_of_le hk (Below.size a)) (by omega)).trans (a.block k hk)⟩
theorem Abo.refl (V : World) (g : Nat) : Abo V g V := ⟨rfl, rfl, rfl, Nat.le_refl _, fun _ _ _ => rfl⟩
theorem Own.alloc {B : Nat} {v : Value} {l : List Int} {w : World} (h : Own B v l w) (O : Obj) : Own B v l (w.alloc O) := World.ownsRow.alloc h O
end Sh
end Go.Proofs.YtpfndibgfkkcgaaDoor

namespace Go.Proofs.YtpfndibgfkkcgaaDoor
open Go.RowKit Go.Deep Cu
namespace Ms
open Sh
/-- within 64 bits -/
def W64 (x : Int) : Prop := -9223372036854775808 ≤ x ∧ x ≤ 9223372036854775807
/-- whether the lists fit -/
def fit2 (n lw lf : Nat) : Prop := lw = 6 * n * n ∧ lf = 12 * n * n
/-- whether what comes out can be -/
def can (n : Nat) (W F : Nat → Int) : Prop := ∀ c, c < 6 * n * n → 0 ≤ mv n W F c ∧ mv n W F c ≤ 9223372036854775807
/-- what Move is to answer -/
def MoveC : Prop := ∀ (n gb : Nat) (pw : Option Addr) (lw cw : Nat) (W : Nat → Int) (pf : Option Addr) (lf cf : Nat) (F : Nat → Int) (w : World), (1 ≤ n ∧ n ≤ 32) → GridOf n gb w → lw ≤ 9223372036854775807 → lf ≤ 9223372036854775807 → IsI w pw lw W → IsI w pf lf F →
    (fit2 n lw lf → can n W F → Calls Tryd.prog 13 #[.pointer (some ⟨gb, 0, none⟩), .slice pw lw cw, .slice pf lf cf] w fun e w' => ∃ v, e = .returned (.tuple #[v, .int .i64 0]) ∧ Below w.heap.size w w' ∧ Own w.heap.size v ((List.range (6 * n * n)).map (mv n W F)) w') ∧
    (fit2 n lw lf → ¬ can n W F → Calls Tryd.prog 13 #[.pointer (some ⟨gb, 0, none⟩), .slice pw lw cw, .slice pf lf cf] w fun e w' => e = .returned (.tuple #[.slice none 0 0, .int .i64 20]) ∧ Below w.heap.size w w') ∧
    (¬ fit2 n lw lf → Calls Tryd.prog 13 #[.pointer (some ⟨gb, 0, none⟩), .slice pw lw cw, .slice pf lf cf] w fun e w' => e = .returned (.tuple #[.slice none 0 0, .int .i64 1]) ∧ Below w.heap.size w w')
/-- what Total is to answer -/
def TotalC : Prop := ∀ (pw : Option Addr) (lw cw : Nat) (W : Nat → Int) (pm : Option Addr) (lm cm : Nat) (M : Nat → Int) (w : World), lw ≤ 17592186044416 → lm ≤ 17592186044416 → IsI w pw lw W → IsI w pm lm M →
    (W64 (sumN W lw + sumN M lm) → Calls Tryd.prog 10 #[.slice pw lw cw, .slice pm lm cm] w fun e w' => e = .returned (.tuple #[.int .i64 (sumN W lw + sumN M lm), .int .i64 0]) ∧ Below w.heap.size w w') ∧
    (¬ W64 (sumN W lw + sumN M lm) → Calls Tryd.prog 10 #[.slice pw lw cw, .slice pm lm cm] w fun e w' => e = .returned (.tuple #[.int .i64 0, .int .i64 20]) ∧ Below w.heap.size w w')
/-- the list that Move answers, read -/
theorem own_mv {B m : Nat} {v : Value} {f : Nat → Int} {w : World} (h : Own B v ((List.range m).map f) w) (hf : ∀ c, c < m → 0 ≤ f c ∧ f c ≤ 9223372036854775807) : ∃ a0 cap, v = .slice a0 m cap ∧ IsI w a0 m f := by
  obtain ⟨a0, cap, e, i⟩ := h.in (fun x hx => by
    obtain ⟨j, hj, rfl⟩ := List.mem_map.1 hx
    have := hf j (List.mem_range.1 hj)
    omega)
  rw [List.length_map, List.length_range] at e i
  exact ⟨a0, cap, e, i.congr (fun k hk => by simp [List.getD, hk])⟩
end Ms
end Go.Proofs.YtpfndibgfkkcgaaDoor

namespace Go.Proofs.YtpfndibgfkkcgaaDoor
open Go.RowKit Go.Deep
namespace Ms
open Sh
set_option maxRecDepth 100000 in
set_option maxHeartbeats 4000000 in
theorem same_at (pa pb : Option Addr) (len ca cb : Nat) (xs : Nat → Int) (w : World) (hl : len ≤ 281474976710656) (hA : IsI w pa len xs) (hB : IsI w pb len xs) :
    Calls Tryd.prog 18 #[.slice pa len ca, .slice pb len cb] w fun e w' => e = .returned (.bool true) ∧ Below w.heap.size w w' := by
  have HA := hid hA
  have HB := hid hB
  have HL := hid hl
  clear hA hB hl
  go_enter Tryd.func18, Tryd.ntmps18
  go_wp2
  go_loopw [5] (fun iv wr => ∃ c : Nat, c ≤ len ∧ iv = .int .i64 (c : Nat) ∧ Ab w wr) (fun iv _ => len - (intOf iv).toNat)
  case atStart => exact ⟨0, by omega, rfl, Ab.refl w⟩
  case round =>
    obtain ⟨c, hc, rfl, ar⟩ := hrel
    have AR := hid ar
    clear ar
    by_cases h : c < len
    · have HC := hid h
      obtain ⟨x, hx⟩ : ∃ x, xs c = x := ⟨_, rfl⟩
      obtain ⟨-, b1, o1, e1, l1, c1⟩ := HA.out c h
      obtain ⟨-, b2, o2, e2, l2, c2⟩ := HB.out c h
      rw [hx] at c1 c2
      have C1 := hid c1
      have C2 := hid c2
      have L1 := hid l1
      have L2 := hid l2
      have hcI : (c : Int) < len := by omega
      have hcB : (c : Int) ≤ 281474976710656 := by have := HL.out; omega
      clear c1 c2 l1 l2 hx h
      subst e1 e2
      go_upto_region 6 with fail
      obtain ⟨UU, E, hF1, hF2⟩ := cls wr
      have HU := hid hF2
      have HU1 := hid hF1
      have x1 : ∀ u, (E u).cell? ⟨b1, o1 + c, none⟩ = some (.int .i64 x) := fun u => (Below.cell (AR.out.trans (hF1 u)) L1.out).trans C1.out
      have x2 : ∀ u, (E u).cell? ⟨b2, o2 + c, none⟩ = some (.int .i64 x) := fun u => (Below.cell (AR.out.trans (hF1 u)) L2.out).trans C2.out
      have DD0 := HU.out _ (Ab.refl wr).drew
      clear hF1 hF2
      refine region_cls E (by kernel_rfl) (by kernel_rfl) DD0 ?_
      repeat (go_big_quiet_step (with_reducible rfl))
      refine wpQuiet_nil ?_
      intro z hwz
      obtain ⟨u0, hu⟩ := hwz
      have AZ : Hid (Ab w z) := by rw [hu]; exact AR.out.trans (HU1.out u0)
      clear hu u0
      clear HU HU1 DD0 x1 x2
      clear E UU
      go_wp2
      go_roundw
      case rel => exact ⟨c + 1, by have := HC.out; omega, by simp, AZ.out⟩
      case measure => simp [intOf]; have := HC.out; omega
    · have e : len = c := by omega
      subst e
      go_wp2
      go_ret
      exact ⟨rfl, AR.out⟩
end Ms
end Go.Proofs.YtpfndibgfkkcgaaDoor

namespace Go.Proofs.YtpfndibgfkkcgaaDoor
open Go.RowKit Go.Deep Cu
namespace Ms
open Sh
set_option maxRecDepth 100000 in
set_option maxHeartbeats 4000000 in
theorem one_at (N k : Nat) (q : Int) (w : World) (hN : N ≤ 65536) (hk : k < N) :
    Calls Tryd.prog 20 #[.int .i64 (N : Nat), .int .i64 (k : Nat), .int .i64 q] w fun e w' => ∃ b, e = .returned (.slice (some ⟨b, 0, none⟩) N N) ∧ Below w.heap.size w w' ∧ w'.rowIs b 2 N (fun i => .int .i64 (oneF k q i)) ∧ w.heap.size ≤ b := by
  have MK := run_make_row' (P := Tryd.prog) 22 2 (.int .i64 0) 8 Tryd.underlying22 info64 rfl .i64 .i64 N (by omega) (by omega) w
  obtain ⟨ob, hob⟩ : ∃ b, w.heap.size = b := ⟨_, rfl⟩
  have R0 : (w.alloc (.cells (madeCells #[.int .i64 0] N) 2)).rowIs ob 2 N (fun _ => .int .i64 0) := by rw [← hob]; exact World.rowIs_made _ _ _ _
  have A0 : Hid (Ab w (w.alloc (.cells (madeCells #[.int .i64 0] N) 2))) := bl1 w _
  have HO : Hid (w.heap.size ≤ ob) := Nat.le_of_eq hob
  have kI : (k : Int) < N := by omega
  have z1 := R0.cell hk
  have z2 := R0.frozen k
  have RW := hid R0
  clear R0
  generalize w.alloc (.cells (madeCells #[.int .i64 0] N) 2) = wm at *
  go_enter Tryd.func20, Tryd.ntmps20
  go_wp2
  go_ret
  refine ⟨ob, rfl, Ab.set A0.out HO.out _, (RW.out.set k _).congr (fun i _ => ?_), HO.out⟩
  unfold oneF
  by_cases e : i = k <;> simp [e]
end Ms
end Go.Proofs.YtpfndibgfkkcgaaDoor

namespace Go.Proofs.YtpfndibgfkkcgaaDoor
open Go.RowKit Go.Deep Cu
namespace Ms
open Sh
theorem lit_in (w : World) (l : List Int) (hl : ∀ x ∈ l, W64 x) : IsI (w.alloc (.cells (l.map (Value.int .i64)).toArray 2)) (some ⟨w.heap.size, 0, none⟩) l.length (fun i => l.getD i 0) := fun k hk => by
  have h := heap_alloc_new w (.cells (l.map (Value.int .i64)).toArray 2)
  refine ⟨?_, w.heap.size, 0, rfl, lt_of_block h, ?_⟩
  · have e : l.getD k 0 = l[k] := by simp [List.getD, hk]
    dsimp only
    rw [e]
    exact hl _ (List.getElem_mem _)
  · rw [Nat.zero_add]
    refine (cell_of_row _ _ k _ _ _ h).trans ?_
    simp [hk, List.getD]
def w5 (i : Nat) : Int := [5, 0, 0, 0, 0, 0].getD i 0
theorem aw_mv : (List.range (6 * 1 * 1)).map (mv 1 w5 (oneF 0 3)) = [2, 3, 0, 0, 0, 0] := by decide +kernel
theorem aw_can : can 1 w5 (oneF 0 3) := by
  intro c hc
  have h : ∀ c, c < 6 → 0 ≤ mv 1 w5 (oneF 0 3) c ∧ mv 1 w5 (oneF 0 3) c ≤ 9223372036854775807 := by decide +kernel
  exact h c (by omega)
theorem aw_not : ¬ can 1 w5 (oneF 0 6) := fun h => by
  have h0 := (h 0 (by omega)).1
  have e : mv 1 w5 (oneF 0 6) 0 = -1 := by decide +kernel
  omega
set_option maxRecDepth 100000 in
set_option maxHeartbeats 16000000 in
theorem awake_at (MC : MoveC) (TC : TotalC) (w : World) (hF : Fr w) :
    Calls Tryd.prog 9 #[] w fun e w' => e = .returned (.bool true) ∧ Below w.heap.size w w' := by
  have NW : Hid (Calls Tryd.prog 12 #[.int .i64 1] w fun e w' => ∃ gb, e = .returned (.tuple #[.pointer (some ⟨gb, 0, none⟩), .int .i64 0]) ∧ Ab w w' ∧ w.heap.size ≤ gb ∧ GridOf 1 gb w') := new_at 1 w ⟨by omega, by omega⟩ hF
  have O3 : Hid (∀ v, Calls Tryd.prog 20 #[.int .i64 12, .int .i64 0, .int .i64 3] v fun e w' => ∃ b, e = .returned (.slice (some ⟨b, 0, none⟩) 12 12) ∧ Below v.heap.size v w' ∧ w'.rowIs b 2 12 (fun i => .int .i64 (oneF 0 3 i)) ∧ v.heap.size ≤ b) := fun v => one_at 12 0 3 v (by omega) (by omega)
  have O6 : Hid (∀ v, Calls Tryd.prog 20 #[.int .i64 12, .int .i64 0, .int .i64 6] v fun e w' => ∃ b, e = .returned (.slice (some ⟨b, 0, none⟩) 12 12) ∧ Below v.heap.size v w' ∧ w'.rowIs b 2 12 (fun i => .int .i64 (oneF 0 6 i)) ∧ v.heap.size ≤ b) := fun v => one_at 12 0 6 v (by omega) (by omega)
  have L5 : Hid (∀ v : World, IsI (v.alloc (.cells #[.int .i64 5, .int .i64 0, .int .i64 0, .int .i64 0, .int .i64 0, .int .i64 0] 2)) (some ⟨v.heap.size, 0, none⟩) 6 w5) := fun v => lit_in v [5, 0, 0, 0, 0, 0] (fun x hx => by simp at hx; unfold W64; omega)
  have L2 : Hid (∀ v : World, IsI (v.alloc (.cells #[.int .i64 2, .int .i64 3, .int .i64 0, .int .i64 0, .int .i64 0, .int .i64 0] 2)) (some ⟨v.heap.size, 0, none⟩) 6 (fun i => [2, 3, 0, 0, 0, 0].getD i 0)) := fun v => lit_in v [2, 3, 0, 0, 0, 0] (fun x hx => by simp at hx; unfold W64; omega)
  have T1 : Hid (∀ v : World, Calls Tryd.prog 10 #[.slice (some ⟨v.heap.size, 0, none⟩) 2 2, .slice (some ⟨v.heap.size + 1, 0, none⟩) 1 1] ((v.alloc (.cells #[.int .i64 9223372036854775807, .int .i64 1] 2)).alloc (.cells #[.int .i64 (-1)] 2)) fun e w' => e = .returned (.tuple #[.int .i64 9223372036854775807, .int .i64 0]) ∧ Ab v w') := fun v => by
    have i1 := (lit_in v [9223372036854775807, 1] (fun x hx => by simp at hx; unfold W64; omega)).below (bl1 _ (.cells #[.int .i64 (-1)] 2))
    have i2 := lit_in (v.alloc (.cells #[.int .i64 9223372036854775807, .int .i64 1] 2)) [-1] (fun x hx => by simp at hx; unfold W64; omega)
    rw [show (v.alloc (.cells #[.int .i64 9223372036854775807, .int .i64 1] 2)).heap.size = v.heap.size + 1 by simp] at i2
    refine ((TC (some ⟨v.heap.size, 0, none⟩) 2 2 _ (some ⟨v.heap.size + 1, 0, none⟩) 1 1 _ _ (by omega) (by omega) i1 i2).1 (show W64 9223372036854775807 by unfold W64; omega)).mono ?_
    rintro e w' ⟨rfl, b⟩
    exact ⟨rfl, Ab.trans (bl2 _ _ _) b⟩
  have T2 : Hid (∀ v : World, Calls Tryd.prog 10 #[.slice (some ⟨v.heap.size, 0, none⟩) 2 2, .slice none 0 0] (v.alloc (.cells #[.int .i64 9223372036854775807, .int .i64 1] 2)) fun e w' => e = .returned (.tuple #[.int .i64 0, .int .i64 20]) ∧ Ab v w') := fun v => by
    have i1 := lit_in v [9223372036854775807, 1] (fun x hx => by simp at hx; unfold W64; omega)
    refine ((TC (some ⟨v.heap.size, 0, none⟩) 2 2 _ none 0 0 (fun _ => 0) _ (by omega) (by omega) i1 (IsI.nil _ _ _)).2 (show ¬ W64 9223372036854775808 by unfold W64; omega)).mono ?_
    rintro e w' ⟨rfl, b⟩
    exact ⟨rfl, Ab.trans (bl1 _ _) b⟩
  have HM := hid MC
  clear MC TC hF
  go_enter Tryd.func9, Tryd.ntmps9
  go_wp2_with fail
  refine NW.out.mono ?_
  rintro e9 v1 ⟨gb, rfl, a1, -, g1⟩
  have A1 := hid a1
  have G1 := hid g1
  have ED : Hid (Calls Tryd.prog 15 #[.pointer (some ⟨gb, 0, none⟩)] v1 fun e w' => e = .returned (.int .i64 12) ∧ w' = v1) := gEdges_at g1
  clear a1 g1 NW
  go_wp2_with fail
  refine ED.out.mono ?_
  rintro e9 v9 ⟨rfl, hv9⟩
  have hv8 := hv9.symm
  subst hv8
  clear ED
  go_wp2_with fail
  refine (O3.out _).mono ?_
  rintro e9 v2 ⟨b, rfl, b2, r2, l2⟩
  have A2 : Hid (Ab v1 v2) := Ab.trans (bl1 v1 _) b2
  have I2 := hid ((L5.out v1).below b2)
  have R2 := hid r2
  have M1 := hid ((HM.out 1 gb (some ⟨v1.heap.size, 0, none⟩) 6 6 w5 (some ⟨b, 0, none⟩) 12 12 (oneF 0 3) v2 ⟨by omega, by omega⟩ (G1.out.to A2.out) (by omega) (by omega) I2.out (row_in R2.out (fun i _ => by unfold oneF; split <;> omega))).1 ⟨rfl, rfl⟩ aw_can)
  rw [aw_mv] at M1
  clear b2 r2 l2 I2 R2
  go_wp2_with fail
  refine M1.out.mono ?_
  rintro e9 v3 ⟨lv, rfl, b3, o3⟩
  obtain ⟨a0, cap, hlv, i3⟩ := o3.in (fun x hx => by simp at hx; omega)
  subst hlv
  have A3 : Hid (Ab v1 v3) := A2.out.trans b3
  have I3 := hid i3
  clear b3 o3 i3 M1 A2
  go_wp2_with fail
  refine (O6.out _).mono ?_
  rintro e9 v4 ⟨b', rfl, b4, r4, l4⟩
  have A4 : Hid (Ab v3 v4) := Ab.trans (bl1 v3 _) b4
  have I4 := hid ((L5.out v3).below b4)
  have R4 := hid r4
  have M2 := hid ((HM.out 1 gb (some ⟨v3.heap.size, 0, none⟩) 6 6 w5 (some ⟨b', 0, none⟩) 12 12 (oneF 0 6) v4 ⟨by omega, by omega⟩ (G1.out.to (A3.out.trans A4.out)) (by omega) (by omega) I4.out (row_in R4.out (fun i _ => by unfold oneF; split <;> omega))).2.1 ⟨rfl, rfl⟩ aw_not)
  clear b4 r4 l4 I4 R4
  go_wp2_with fail
  refine M2.out.mono ?_
  rintro e9 v5 ⟨rfl, b5⟩
  have A5 : Hid (Ab v3 v5) := A4.out.trans b5
  clear b5 M2 A4
  go_wp2_with fail
  refine (T1.out v5).mono ?_
  rintro e9 v6 ⟨rfl, a6⟩
  have A6 : Hid (Ab v3 v6) := A5.out.trans a6
  clear a6 A5
  go_wp2_with fail
  refine (T2.out v6).mono ?_
  rintro e9 v7 ⟨rfl, a7⟩
  have A7 : Hid (Ab v3 v7) := A6.out.trans a7
  clear a7 A6
  have S3 := hid (same_at a0 (some ⟨v7.heap.size, 0, none⟩) 6 cap 6 _ (v7.alloc (.cells #[.int .i64 2, .int .i64 3, .int .i64 0, .int .i64 0, .int .i64 0, .int .i64 0] 2)) (by omega) (I3.out.below (A7.out.alloc _)) (L2.out v7))
  go_wp2_with fail
  refine S3.out.mono ?_
  rintro e9 v8 ⟨rfl, b8⟩
  have A8 : Hid (Ab w v8) := A1.out.trans (A3.out.trans ((A7.out.alloc _).trans b8))
  clear b8
  go_wp2
  go_ret
  exact ⟨rfl, A8.out⟩
end Ms
end Go.Proofs.YtpfndibgfkkcgaaDoor

namespace Go.Proofs.YtpfndibgfkkcgaaDoor
open Go.RowKit Go.Deep Cu
namespace Ms
open Sh
set_option maxRecDepth 100000 in
set_option maxHeartbeats 8000000 in
theorem one_side (side : Int) (pw : Option Addr) (lw cw : Nat) (pf : Option Addr) (lf cf : Nat) (w : World)
    (AW : Hid (Calls Tryd.prog 9 #[] w fun e w' => e = .returned (.bool true) ∧ Below w.heap.size w w')) (NW : Hid (∀ v, Calls Tryd.prog 12 #[.int .i64 side] v fun e w' => e = .returned (.tuple #[.pointer none, .int .i64 10]) ∧ w' = v)) :
    Calls Tryd.prog 5 #[.int .i64 side, .slice pw lw cw, .slice pf lf cf] w fun e w' => e = .returned (.bool true) ∧ Below w.heap.size w w' := by
  go_enter Tryd.func5, Tryd.ntmps5
  go_wp2_with fail
  refine AW.out.mono ?_
  rintro e9 v0 ⟨rfl, b0⟩
  have A0 : Hid (Ab w v0) := b0
  clear b0
  go_wp2_with fail
  refine (NW.out _).mono ?_
  rintro e9 v9 ⟨rfl, hv9⟩
  have hv8 := hv9.symm
  subst hv8
  go_wp2
  go_ret
  exact ⟨rfl, A0.out⟩
set_option maxRecDepth 100000 in
set_option maxHeartbeats 8000000 in
theorem one_len (n M N : Nat) (side : Int) (pw : Option Addr) (lw cw : Nat) (pf : Option Addr) (lf cf : Nat) (w : World) (hl : ¬ (lw = M ∧ lf = 2))
    (AW : Hid (Calls Tryd.prog 9 #[] w fun e w' => e = .returned (.bool true) ∧ Below w.heap.size w w')) (NW : Hid (∀ v, Ab w v → Calls Tryd.prog 12 #[.int .i64 side] v fun e w' => ∃ gb, e = .returned (.tuple #[.pointer (some ⟨gb, 0, none⟩), .int .i64 0]) ∧ Ab v w' ∧ GridOf n gb w')) (CEL : Hid (∀ u gb, GridOf n gb u → Calls Tryd.prog 14 #[.pointer (some ⟨gb, 0, none⟩)] u fun e w' => e = .returned (.int .i64 (M : Nat)) ∧ w' = u)) (EDG : Hid (∀ u gb, GridOf n gb u → Calls Tryd.prog 15 #[.pointer (some ⟨gb, 0, none⟩)] u fun e w' => e = .returned (.int .i64 (N : Nat)) ∧ w' = u)) :
    Calls Tryd.prog 5 #[.int .i64 side, .slice pw lw cw, .slice pf lf cf] w fun e w' => e = .returned (.bool true) ∧ Below w.heap.size w w' := by
  by_cases c1 : lw = M
  · have d1 : ((lw : Int) != (M : Int)) = false := by simp; omega
    have d2 : ((lf : Int) != 2) = true := by simp; omega
    clear hl c1
    go_enter Tryd.func5, Tryd.ntmps5
    go_wp2_with fail
    refine AW.out.mono ?_
    rintro e9 v0 ⟨rfl, b0⟩
    have A0 : Hid (Ab w v0) := b0
    clear b0
    go_wp2_with fail
    refine (NW.out v0 A0.out).mono ?_
    rintro e9 v1 ⟨gb, rfl, a1, g1⟩
    have A1 : Hid (Ab w v1) := A0.out.trans a1
    have G1 := hid g1
    clear a1 g1 A0
    have CE := hid (fun u (a : Ab v1 u) => CEL.out u gb (G1.out.to a))
    have EE := hid (fun u (a : Ab v1 u) => EDG.out u gb (G1.out.to a))
    go_wp2_with fail
    refine (CE.out _ (Ab.refl _)).mono ?_
    rintro e9 v9 ⟨rfl, hv9⟩
    have hv8 := hv9.symm
    subst hv8
    go_wp2
    go_ret
    exact ⟨rfl, A1.out⟩
  · have d1 : ((lw : Int) != (M : Int)) = true := by simp; omega
    clear hl c1
    go_enter Tryd.func5, Tryd.ntmps5
    go_wp2_with fail
    refine AW.out.mono ?_
    rintro e9 v0 ⟨rfl, b0⟩
    have A0 : Hid (Ab w v0) := b0
    clear b0
    go_wp2_with fail
    refine (NW.out v0 A0.out).mono ?_
    rintro e9 v1 ⟨gb, rfl, a1, g1⟩
    have A1 : Hid (Ab w v1) := A0.out.trans a1
    have G1 := hid g1
    clear a1 g1 A0
    have CE := hid (fun u (a : Ab v1 u) => CEL.out u gb (G1.out.to a))
    have EE := hid (fun u (a : Ab v1 u) => EDG.out u gb (G1.out.to a))
    go_wp2_with fail
    refine (CE.out _ (Ab.refl _)).mono ?_
    rintro e9 v9 ⟨rfl, hv9⟩
    have hv8 := hv9.symm
    subst hv8
    go_wp2
    go_ret
    exact ⟨rfl, A1.out⟩
set_option maxRecDepth 100000 in
set_option maxHeartbeats 16000000 in
theorem one_go (n M N wb wo cw fb fo cf L R k ls rs : Nat) (side a q : Int) (W D : Nat → Int) (w : World) (hw : IsI w (some ⟨wb, wo, none⟩) M W) (BM : Hid (0 < M ∧ M ≤ 6144 ∧ 0 < N ∧ N ≤ 12288)) (n0 : (0 : Int) < N) (n1 : (N : Int) ≤ 12288) (q1 : -9223372036854775808 ≤ q) (q2 : q ≤ 9223372036854775807)
    (FC0 : Hid (∀ v, Ab w v → v.cell? ⟨fb, fo, none⟩ = some (.int .i64 a))) (FC1 : Hid (∀ v, Ab w v → v.cell? ⟨fb, fo + 1, none⟩ = some (.int .i64 q)))
    (u : Int) (ue : IntKind.u64.wrap a = u) (ke : u.tmod (N : Int) = (k : Int)) (k1 : (k : Int) < N) (LR : Hid (k < N ∧ L < M ∧ R < M ∧ L ≠ R))
    (DE : Hid (∀ c, D c = if c = L then W c - q else if c = R then W c + q else W c))
    (AW : Hid (Calls Tryd.prog 9 #[] w fun e w' => e = .returned (.bool true) ∧ Below w.heap.size w w')) (NW : Hid (∀ v, Ab w v → Calls Tryd.prog 12 #[.int .i64 side] v fun e w' => ∃ gb, e = .returned (.tuple #[.pointer (some ⟨gb, 0, none⟩), .int .i64 0]) ∧ Ab v w' ∧ GridOf n gb w')) (CEL : Hid (∀ u gb, GridOf n gb u → Calls Tryd.prog 14 #[.pointer (some ⟨gb, 0, none⟩)] u fun e w' => e = .returned (.int .i64 (M : Nat)) ∧ w' = u)) (EDG : Hid (∀ u gb, GridOf n gb u → Calls Tryd.prog 15 #[.pointer (some ⟨gb, 0, none⟩)] u fun e w' => e = .returned (.int .i64 (N : Nat)) ∧ w' = u))
    (EG : Hid (∀ u gb, GridOf n gb u → Calls Tryd.prog 19 #[.pointer (some ⟨gb, 0, none⟩), .int .i64 (k : Nat)] u fun e w' => e = .returned (.tuple #[.agg #[.int .i64 (L : Nat), .int .i64 (ls : Nat), .int .i64 (R : Nat), .int .i64 (rs : Nat)], .bool true]) ∧ Below u.heap.size u w'))
    (MY : Hid ((∀ c, c < M → 0 ≤ D c ∧ D c ≤ 9223372036854775807) → ∀ v gb b, Ab w v → GridOf n gb v → v.rowIs b 2 N (fun i => .int .i64 (oneF k q i)) → Calls Tryd.prog 13 #[.pointer (some ⟨gb, 0, none⟩), .slice (some ⟨wb, wo, none⟩) M cw, .slice (some ⟨b, 0, none⟩) N N] v fun e w' => ∃ b0 o0 cap, e = .returned (.tuple #[.slice (some ⟨b0, o0, none⟩) M cap, .int .i64 0]) ∧ Below v.heap.size v w' ∧ IsI w' (some ⟨b0, o0, none⟩) M D))
    (MN : Hid (¬ (∀ c, c < M → 0 ≤ D c ∧ D c ≤ 9223372036854775807) → ∀ v gb b, Ab w v → GridOf n gb v → v.rowIs b 2 N (fun i => .int .i64 (oneF k q i)) → Calls Tryd.prog 13 #[.pointer (some ⟨gb, 0, none⟩), .slice (some ⟨wb, wo, none⟩) M cw, .slice (some ⟨b, 0, none⟩) N N] v fun e w' => e = .returned (.tuple #[.slice none 0 0, .int .i64 20]) ∧ Below v.heap.size v w')) :
    Calls Tryd.prog 5 #[.int .i64 side, .slice (some ⟨wb, wo, none⟩) M cw, .slice (some ⟨fb, fo, none⟩) 2 cf] w fun e w' => e = .returned (.bool true) ∧ Below w.heap.size w w' := by
  have HW := hid hw
  clear hw
  have d1 : ((M : Int) != (M : Int)) = false := by simp
  go_enter Tryd.func5, Tryd.ntmps5
  go_wp2_with fail
  refine AW.out.mono ?_
  rintro e9 v0 ⟨rfl, b0⟩
  have A0 : Hid (Ab w v0) := b0
  clear b0
  go_wp2_with fail
  refine (NW.out v0 A0.out).mono ?_
  rintro e9 v1 ⟨gb, rfl, a1, g1⟩
  have A1 : Hid (Ab w v1) := A0.out.trans a1
  have G1 := hid g1
  clear a1 g1 A0
  have CE := hid (fun u (a : Ab v1 u) => CEL.out u gb (G1.out.to a))
  have EE := hid (fun u (a : Ab v1 u) => EDG.out u gb (G1.out.to a))
  go_wp2_with fail
  refine (CE.out _ (Ab.refl _)).mono ?_
  rintro e9 v9 ⟨rfl, hv9⟩
  have hv8 := hv9.symm
  subst hv8
  go_wp2
  go_loopw [9] (fun iv wr => ∃ c : Nat, c ≤ M ∧ iv = .int .i64 (c : Nat) ∧ (∀ i, i < c → 0 ≤ W i) ∧ wr = v1) (fun iv _ => M - (intOf iv).toNat)
  case atStart => exact ⟨0, by omega, rfl, fun i hi => absurd hi (Nat.not_lt_zero i), rfl⟩
  case round =>
    obtain ⟨c, hc, rfl, gg, hwr⟩ := hrel
    have hwr2 := hwr.symm
    subst hwr2
    have GG := hid gg
    clear gg
    by_cases hcn : c < M
    · have HC := hid hcn
      have hcI : (c : Int) < M := by omega
      have hcB : (c : Int) ≤ 6144 := by have := BM.out; omega
      obtain ⟨x, hx⟩ : ∃ x, W c = x := ⟨_, rfl⟩
      have xc := ((HW.out.below A1.out).at0 hcn).2.2
      rw [hx] at xc
      have XE := hid hx
      clear hx hcn hc
      by_cases q0 : x < 0
      · have d : decide (x < 0) = true := decide_eq_true q0
        go_wp2
        go_ret
        exact ⟨rfl, A1.out⟩
      · have d : decide (x < 0) = false := decide_eq_false q0
        go_wp2
        exact ⟨⟨c + 1, by have := HC.out; omega, by simp, fun i hi => by
          by_cases l : i < c
          · exact GG.out i l
          · obtain rfl : i = c := by omega
            rw [XE.out]; omega, by first | trivial | rfl⟩, by have := HC.out; simp [intOf]; omega⟩
    · have e6 : M = c := by omega
      subst e6
      go_upto_region 11 with fail
      obtain ⟨UU, EU, hF1, hF2⟩ := cls v1
      have HU := hid hF2
      have HU1 := hid hF1
      have q0 : ∀ u, (EU u).cell? ⟨fb, fo, none⟩ = some (.int .i64 a) := fun u => FC0.out _ (A1.out.trans (hF1 u))
      have EB := hid (fun u (h : Ab v1 u) => (EE.out u h).mono (fun e w' k => (⟨k.1, by obtain ⟨_, rfl⟩ := k; exact Below.refl _ _⟩ : e = .returned (.int .i64 (N : Nat)) ∧ Below u.heap.size u w')))
      have DD0 := HU.out _ (Ab.refl v1).drew
      clear hF1 hF2
      refine region_cls EU (by kernel_rfl) (by kernel_rfl) DD0 ?_
      repeat (go_big_quiet_step (first
        | (with_reducible rfl)
        | (go_at_call 15; exact calls_cls HU HU1 (EB.out _ (HU1.out _)))))
      refine wpQuiet_nil ?_
      intro v2 hwz
      obtain ⟨u0, hu⟩ := hwz
      have A2 : Hid (Ab v1 v2) := by rw [hu]; exact HU1.out u0
      clear hu u0
      clear HU HU1 DD0 q0 EB
      clear EU UU
      have EGc := hid (EG.out v2 gb (G1.out.to A2.out))
      go_wp2_with fail
      refine EGc.out.mono ?_
      rintro e9 v3 ⟨rfl, b3⟩
      have A3 : Hid (Ab v1 v3) := A2.out.trans b3
      clear b3 EGc A2
      have A4 : Hid (Ab v1 (v3.alloc (.cells #[.int .i64 (L : Nat), .int .i64 (ls : Nat), .int .i64 (R : Nat), .int .i64 (rs : Nat)] 41))) := A3.out.alloc _
      have RX : Hid ((v3.alloc (.cells #[.int .i64 (L : Nat), .int .i64 (ls : Nat), .int .i64 (R : Nat), .int .i64 (rs : Nat)] 41)).heap[v3.heap.size]? = some (.cells #[.int .i64 (L : Nat), .int .i64 (ls : Nat), .int .i64 (R : Nat), .int .i64 (rs : Nat)] 41)) := heap_alloc_new _ _
      obtain ⟨gx, hgx⟩ : ∃ g, v3.heap.size = g := ⟨_, rfl⟩
      rw [hgx] at RX
      go_upto_region 13 with fail
      try rw [hgx]
      generalize hV : World.alloc v3 _ = V at *
      clear hV hgx A3
      have fc := FC1.out V (A1.out.trans A4.out)
      have O1 := hid (one_at N k q V (by have := BM.out; omega) LR.out.1)
      go_wp2_with fail
      refine (EE.out _ A4.out).mono ?_
      rintro e9 v9 ⟨rfl, hv9⟩
      have hv8 := hv9.symm
      subst hv8
      go_wp2_with fail
      refine O1.out.mono ?_
      rintro e9 v5 ⟨b, rfl, b5, r5, l5⟩
      have A5 : Hid (Ab V v5) := b5
      have R5 := hid r5
      have GV := hid (G1.out.to (A4.out.trans A5.out))
      have AW5 := hid (A1.out.trans (A4.out.trans A5.out))
      clear b5 r5 l5 O1 fc
      have WN : Hid (0 ≤ W L ∧ 0 ≤ W R) := ⟨GG.out L LR.out.2.1, GG.out R LR.out.2.2.1⟩
      obtain ⟨xL, hxL⟩ : ∃ x, W L = x := ⟨_, rfl⟩
      obtain ⟨xR, hxR⟩ : ∃ x, W R = x := ⟨_, rfl⟩
      have WB : Hid (xL ≤ 9223372036854775807 ∧ xR ≤ 9223372036854775807) := by rw [← hxL, ← hxR]; exact ⟨((HW.out.at0 LR.out.2.1).1).2, ((HW.out.at0 LR.out.2.2.1).1).2⟩
      have xl0 := WN.out.1
      have xr0 := WN.out.2
      rw [hxL] at xl0
      rw [hxR] at xr0
      have xl1 := WB.out.1
      have xr1 := WB.out.2
      have DL : Hid (D L = xL - q) := by show _ = _; rw [DE.out, if_pos rfl, hxL]
      have DR : Hid (D R = xR + q) := by show _ = _; rw [DE.out, if_neg (Ne.symm LR.out.2.2.2), if_pos rfl, hxR]
      have CAN : Hid ((∀ c, c < M → 0 ≤ D c ∧ D c ≤ 9223372036854775807) ↔ (0 ≤ xL - q ∧ xL - q ≤ 9223372036854775807) ∧ (0 ≤ xR + q ∧ xR + q ≤ 9223372036854775807)) := by
        constructor
        · intro h
          have h1 := h L LR.out.2.1
          have h2 := h R LR.out.2.2.1
          rw [DL.out] at h1
          rw [DR.out] at h2
          exact ⟨h1, h2⟩
        · rintro ⟨h1, h2⟩ c hc
          by_cases e1 : c = L
          · rw [e1, DL.out]; exact h1
          · by_cases e2 : c = R
            · rw [e2, DR.out]; exact h2
            · rw [DE.out, if_neg e1, if_neg e2]
              exact ⟨GG.out c hc, ((HW.out.at0 hc).1).2⟩
      have XL := hid hxL
      have XR := hid hxR
      have lI : (L : Int) < M := by have := LR.out; omega
      have rI : (R : Int) < M := by have := LR.out; omega
      have mI : (M : Int) ≤ 6144 := by have := BM.out; omega
      clear hxL hxR WN WB
      by_cases cn : ∀ c, c < M → 0 ≤ D c ∧ D c ≤ 9223372036854775807
      · have YC : Hid ((0 ≤ xL - q ∧ xL - q ≤ 9223372036854775807) ∧ (0 ≤ xR + q ∧ xR + q ≤ 9223372036854775807)) := CAN.out.1 cn
        have MM := hid (MY.out cn v5 gb b AW5.out GV.out R5.out)
        clear cn MY MN CAN
        go_wp2_with fail
        refine MM.out.mono ?_
        rintro e9 v6 ⟨b0, o0, cap, rfl, b6, i6⟩
        have A6 : Hid (Ab v5 v6) := b6
        have I6 := hid i6
        clear b6 i6 MM
        have RX6 := hid ((A5.out.trans A6.out).heap RX.out)
        have f0 := cell_of_row _ _ 0 _ _ _ RX6.out
        have f2 := cell_of_row _ _ 2 _ _ _ RX6.out
        have w0 := ((HW.out.below (AW5.out.trans A6.out)).at0 LR.out.2.1).2.2
        have w1 := ((HW.out.below (AW5.out.trans A6.out)).at0 LR.out.2.2.1).2.2
        rw [XL.out] at w0
        rw [XR.out] at w1
        by_cases p : q < 0
        · have g1 : decide (q < 0) = true := decide_eq_true p
          have g2 : (q == -9223372036854775808) = false := by have := YC.out; simp; omega
          obtain ⟨m, hm⟩ : ∃ m, -q = m := ⟨_, rfl⟩
          have m0 : 0 < m := by omega
          have m1 : m ≤ 9223372036854775807 := by have := YC.out; omega
          have g3 : decide (xR < m) = false := decide_eq_false (by have := YC.out; omega)
          have g4 : decide (9223372036854775807 - m < xL) = false := decide_eq_false (by have := YC.out; omega)
          obtain ⟨df, hdf⟩ : ∃ x, xR - m = x := ⟨_, rfl⟩
          obtain ⟨dt, hdt⟩ : ∃ x, xL + m = x := ⟨_, rfl⟩
          have df0 : 0 ≤ df ∧ df ≤ 9223372036854775807 := by have := YC.out; omega
          have dt0 : 0 ≤ dt ∧ dt ≤ 9223372036854775807 := by have := YC.out; omega
          have DF : Hid (D R = df) := by have h := DR.out; show _ = _; rw [h]; omega
          have DT : Hid (D L = dt) := by have h := DL.out; show _ = _; rw [h]; omega
          have df1 := df0.1
          have df2 := df0.2
          have dt1 := dt0.1
          have dt2 := dt0.2
          have g5 : (df != df) = false := by simp
          have g6 : (dt != dt) = false := by simp
          clear df0 dt0
          go_upto_region 26 with fail
          obtain ⟨UU, EU, hF1, hF2⟩ := cls v6
          have HU := hid hF2
          have HU1 := hid hF1
          have k0 : ∀ u, (EU u).cell? ⟨wb, wo + L, none⟩ = some (.int .i64 xL) := fun u => by have h := ((HW.out.below (AW5.out.trans (A6.out.trans (hF1 u)))).at0 LR.out.2.1).2.2; rwa [XL.out] at h
          have k1 : ∀ u, (EU u).cell? ⟨wb, wo + R, none⟩ = some (.int .i64 xR) := fun u => by have h := ((HW.out.below (AW5.out.trans (A6.out.trans (hF1 u)))).at0 LR.out.2.2.1).2.2; rwa [XR.out] at h
          have k2 : ∀ u, (EU u).cell? ⟨b0, o0 + R, none⟩ = some (.int .i64 df) := fun u => by have h := ((I6.out.below (hF1 u)).at0 LR.out.2.2.1).2.2; rwa [DF.out] at h
          have k3 : ∀ u, (EU u).cell? ⟨b0, o0 + L, none⟩ = some (.int .i64 dt) := fun u => by have h := ((I6.out.below (hF1 u)).at0 LR.out.2.1).2.2; rwa [DT.out] at h
          have DD0 := HU.out _ (Ab.refl v6).drew
          clear hF1 hF2 w0 w1 f0 f2
          refine region_cls EU (by kernel_rfl) (by kernel_rfl) DD0 ?_
          repeat (go_big_quiet_step (with_reducible rfl))
          refine wpQuiet_nil ?_
          intro v7 hwz
          obtain ⟨u0, hu⟩ := hwz
          have A7 : Hid (Ab v6 v7) := by rw [hu]; exact HU1.out u0
          clear hu u0
          clear HU HU1 DD0 k0 k1 k2 k3
          clear EU UU
          clear g1 g2 g3 g4 g5 g6
          go_wp2
          go_loopw [17] (fun iv wr => ∃ c : Nat, c ≤ M ∧ iv = .int .i64 (c : Nat) ∧ Ab v6 wr) (fun iv _ => M - (intOf iv).toNat)
          case atStart => exact ⟨0, by omega, rfl, A7.out⟩
          case round =>
            obtain ⟨c, hc, rfl, ar⟩ := hrel
            have AR := hid ar
            clear ar A7
            by_cases hcn : c < M
            · have HC := hid hcn
              have hcI : (c : Int) < M := by omega
              obtain ⟨x, hx⟩ : ∃ x, W c = x := ⟨_, rfl⟩
              obtain ⟨y, hy⟩ : ∃ x, D c = x := ⟨_, rfl⟩
              have XE := hid hx
              have YE := hid hy
              clear hx hy hc
              have QQ : Hid (c ≠ R → c ≠ L → x = y) := fun h1 h2 => by rw [← XE.out, ← YE.out, DE.out, if_neg h2, if_neg h1]
              go_upto_region 31 with fail
              obtain ⟨UU, EU, hF1, hF2⟩ := cls wr
              have HU := hid hF2
              have HU1 := hid hF1
              have k0 : ∀ u, (EU u).cell? ⟨wb, wo + c, none⟩ = some (.int .i64 x) := fun u => by have h := ((HW.out.below (AW5.out.trans (A6.out.trans (AR.out.trans (hF1 u))))).at0 HC.out).2.2; rwa [XE.out] at h
              have k1 : ∀ u, (EU u).cell? ⟨b0, o0 + c, none⟩ = some (.int .i64 y) := fun u => by have h := ((I6.out.below (AR.out.trans (hF1 u))).at0 HC.out).2.2; rwa [YE.out] at h
              have DD0 := HU.out _ (Ab.refl wr).drew
              clear hF1 hF2 hcn
              by_cases e1 : c = R
              · have g1 : ((c : Int) != (R : Int)) = false := by simp; omega
                clear e1
                refine region_cls EU (by kernel_rfl) (by kernel_rfl) DD0 ?_
                repeat (go_big_quiet_step (with_reducible rfl))
                refine wpQuiet_nil ?_
                intro v8 hwz
                obtain ⟨u0, hu⟩ := hwz
                have A8 : Hid (Ab wr v8) := by rw [hu]; exact HU1.out u0
                clear hu u0
                clear HU HU1 DD0 k0 k1
                clear EU UU
                go_wp2
                exact ⟨⟨c + 1, by have := HC.out; omega, by simp, AR.out.trans A8.out⟩, by have := HC.out; simp [intOf]; omega⟩
              · have g1 : ((c : Int) != (R : Int)) = true := by simp; omega
                by_cases e2 : c = L
                · have g2 : ((c : Int) != (L : Int)) = false := by simp; omega
                  clear e1 e2
                  refine region_cls EU (by kernel_rfl) (by kernel_rfl) DD0 ?_
                  repeat (go_big_quiet_step (with_reducible rfl))
                  refine wpQuiet_nil ?_
                  intro v8 hwz
                  obtain ⟨u0, hu⟩ := hwz
                  have A8 : Hid (Ab wr v8) := by rw [hu]; exact HU1.out u0
                  clear hu u0
                  clear HU HU1 DD0 k0 k1
                  clear EU UU
                  go_wp2
                  exact ⟨⟨c + 1, by have := HC.out; omega, by simp, AR.out.trans A8.out⟩, by have := HC.out; simp [intOf]; omega⟩
                · have g2 : ((c : Int) != (L : Int)) = true := by simp; omega
                  have e3 := QQ.out e1 e2
                  have g3 : (y != x) = false := by simp [e3]
                  clear e1 e2 e3
                  refine region_cls EU (by kernel_rfl) (by kernel_rfl) DD0 ?_
                  repeat (go_big_quiet_step (with_reducible rfl))
                  refine wpQuiet_nil ?_
                  intro v8 hwz
                  obtain ⟨u0, hu⟩ := hwz
                  have A8 : Hid (Ab wr v8) := by rw [hu]; exact HU1.out u0
                  clear hu u0
                  clear HU HU1 DD0 k0 k1
                  clear EU UU
                  go_wp2
                  exact ⟨⟨c + 1, by have := HC.out; omega, by simp, AR.out.trans A8.out⟩, by have := HC.out; simp [intOf]; omega⟩
            · have e6 : M = c := by omega
              subst e6
              go_wp2
              go_ret
              exact ⟨rfl, AW5.out.trans (A6.out.trans AR.out)⟩
        · have g1 : decide (q < 0) = false := decide_eq_false p
          have g2 : (q == -9223372036854775808) = false := by simp; omega
          have m0 : 0 ≤ q := by omega
          have g3 : decide (xL < q) = false := decide_eq_false (by have := YC.out; omega)
          have g4 : decide (9223372036854775807 - q < xR) = false := decide_eq_false (by have := YC.out; omega)
          obtain ⟨df, hdf⟩ : ∃ x, xL - q = x := ⟨_, rfl⟩
          obtain ⟨dt, hdt⟩ : ∃ x, xR + q = x := ⟨_, rfl⟩
          have df0 : 0 ≤ df ∧ df ≤ 9223372036854775807 := by have := YC.out; omega
          have dt0 : 0 ≤ dt ∧ dt ≤ 9223372036854775807 := by have := YC.out; omega
          have DF : Hid (D L = df) := by have h := DL.out; show _ = _; rw [h]; omega
          have DT : Hid (D R = dt) := by have h := DR.out; show _ = _; rw [h]; omega
          have df1 := df0.1
          have df2 := df0.2
          have dt1 := dt0.1
          have dt2 := dt0.2
          have g5 : (df != df) = false := by simp
          have g6 : (dt != dt) = false := by simp
          clear df0 dt0
          go_upto_region 26 with fail
          obtain ⟨UU, EU, hF1, hF2⟩ := cls v6
          have HU := hid hF2
          have HU1 := hid hF1
          have k0 : ∀ u, (EU u).cell? ⟨wb, wo + L, none⟩ = some (.int .i64 xL) := fun u => by have h := ((HW.out.below (AW5.out.trans (A6.out.trans (hF1 u)))).at0 LR.out.2.1).2.2; rwa [XL.out] at h
          have k1 : ∀ u, (EU u).cell? ⟨wb, wo + R, none⟩ = some (.int .i64 xR) := fun u => by have h := ((HW.out.below (AW5.out.trans (A6.out.trans (hF1 u)))).at0 LR.out.2.2.1).2.2; rwa [XR.out] at h
          have k2 : ∀ u, (EU u).cell? ⟨b0, o0 + L, none⟩ = some (.int .i64 df) := fun u => by have h := ((I6.out.below (hF1 u)).at0 LR.out.2.1).2.2; rwa [DF.out] at h
          have k3 : ∀ u, (EU u).cell? ⟨b0, o0 + R, none⟩ = some (.int .i64 dt) := fun u => by have h := ((I6.out.below (hF1 u)).at0 LR.out.2.2.1).2.2; rwa [DT.out] at h
          have DD0 := HU.out _ (Ab.refl v6).drew
          clear hF1 hF2 w0 w1 f0 f2
          refine region_cls EU (by kernel_rfl) (by kernel_rfl) DD0 ?_
          repeat (go_big_quiet_step (with_reducible rfl))
          refine wpQuiet_nil ?_
          intro v7 hwz
          obtain ⟨u0, hu⟩ := hwz
          have A7 : Hid (Ab v6 v7) := by rw [hu]; exact HU1.out u0
          clear hu u0
          clear HU HU1 DD0 k0 k1 k2 k3
          clear EU UU
          clear g1 g2 g3 g4 g5 g6
          go_wp2
          go_loopw [17] (fun iv wr => ∃ c : Nat, c ≤ M ∧ iv = .int .i64 (c : Nat) ∧ Ab v6 wr) (fun iv _ => M - (intOf iv).toNat)
          case atStart => exact ⟨0, by omega, rfl, A7.out⟩
          case round =>
            obtain ⟨c, hc, rfl, ar⟩ := hrel
            have AR := hid ar
            clear ar A7
            by_cases hcn : c < M
            · have HC := hid hcn
              have hcI : (c : Int) < M := by omega
              obtain ⟨x, hx⟩ : ∃ x, W c = x := ⟨_, rfl⟩
              obtain ⟨y, hy⟩ : ∃ x, D c = x := ⟨_, rfl⟩
              have XE := hid hx
              have YE := hid hy
              clear hx hy hc
              have QQ : Hid (c ≠ L → c ≠ R → x = y) := fun h1 h2 => by rw [← XE.out, ← YE.out, DE.out, if_neg h1, if_neg h2]
              go_upto_region 31 with fail
              obtain ⟨UU, EU, hF1, hF2⟩ := cls wr
              have HU := hid hF2
              have HU1 := hid hF1
              have k0 : ∀ u, (EU u).cell? ⟨wb, wo + c, none⟩ = some (.int .i64 x) := fun u => by have h := ((HW.out.below (AW5.out.trans (A6.out.trans (AR.out.trans (hF1 u))))).at0 HC.out).2.2; rwa [XE.out] at h
              have k1 : ∀ u, (EU u).cell? ⟨b0, o0 + c, none⟩ = some (.int .i64 y) := fun u => by have h := ((I6.out.below (AR.out.trans (hF1 u))).at0 HC.out).2.2; rwa [YE.out] at h
              have DD0 := HU.out _ (Ab.refl wr).drew
              clear hF1 hF2 hcn
              by_cases e1 : c = L
              · have g1 : ((c : Int) != (L : Int)) = false := by simp; omega
                clear e1
                refine region_cls EU (by kernel_rfl) (by kernel_rfl) DD0 ?_
                repeat (go_big_quiet_step (with_reducible rfl))
                refine wpQuiet_nil ?_
                intro v8 hwz
                obtain ⟨u0, hu⟩ := hwz
                have A8 : Hid (Ab wr v8) := by rw [hu]; exact HU1.out u0
                clear hu u0
                clear HU HU1 DD0 k0 k1
                clear EU UU
                go_wp2
                exact ⟨⟨c + 1, by have := HC.out; omega, by simp, AR.out.trans A8.out⟩, by have := HC.out; simp [intOf]; omega⟩
              · have g1 : ((c : Int) != (L : Int)) = true := by simp; omega
                by_cases e2 : c = R
                · have g2 : ((c : Int) != (R : Int)) = false := by simp; omega
                  clear e1 e2
                  refine region_cls EU (by kernel_rfl) (by kernel_rfl) DD0 ?_
                  repeat (go_big_quiet_step (with_reducible rfl))
                  refine wpQuiet_nil ?_
                  intro v8 hwz
                  obtain ⟨u0, hu⟩ := hwz
                  have A8 : Hid (Ab wr v8) := by rw [hu]; exact HU1.out u0
                  clear hu u0
                  clear HU HU1 DD0 k0 k1
                  clear EU UU
                  go_wp2
                  exact ⟨⟨c + 1, by have := HC.out; omega, by simp, AR.out.trans A8.out⟩, by have := HC.out; simp [intOf]; omega⟩
                · have g2 : ((c : Int) != (R : Int)) = true := by simp; omega
                  have e3 := QQ.out e1 e2
                  have g3 : (y != x) = false := by simp [e3]
                  clear e1 e2 e3
                  refine region_cls EU (by kernel_rfl) (by kernel_rfl) DD0 ?_
                  repeat (go_big_quiet_step (with_reducible rfl))
                  refine wpQuiet_nil ?_
                  intro v8 hwz
                  obtain ⟨u0, hu⟩ := hwz
                  have A8 : Hid (Ab wr v8) := by rw [hu]; exact HU1.out u0
                  clear hu u0
                  clear HU HU1 DD0 k0 k1
                  clear EU UU
                  go_wp2
                  exact ⟨⟨c + 1, by have := HC.out; omega, by simp, AR.out.trans A8.out⟩, by have := HC.out; simp [intOf]; omega⟩
            · have e6 : M = c := by omega
              subst e6
              go_wp2
              go_ret
              exact ⟨rfl, AW5.out.trans (A6.out.trans AR.out)⟩
      · have NC : Hid (¬ ((0 ≤ xL - q ∧ xL - q ≤ 9223372036854775807) ∧ (0 ≤ xR + q ∧ xR + q ≤ 9223372036854775807))) := fun h => cn (CAN.out.2 h)
        have MM := hid (MN.out cn v5 gb b AW5.out GV.out R5.out)
        clear cn MY MN CAN
        go_wp2_with fail
        refine MM.out.mono ?_
        rintro e9 v6 ⟨rfl, b6⟩
        have A6 : Hid (Ab v5 v6) := b6
        clear b6 MM
        have RX6 := hid ((A5.out.trans A6.out).heap RX.out)
        have f0 := cell_of_row _ _ 0 _ _ _ RX6.out
        have f2 := cell_of_row _ _ 2 _ _ _ RX6.out
        have w0 := ((HW.out.below (AW5.out.trans A6.out)).at0 LR.out.2.1).2.2
        have w1 := ((HW.out.below (AW5.out.trans A6.out)).at0 LR.out.2.2.1).2.2
        rw [XL.out] at w0
        rw [XR.out] at w1
        by_cases p : q < 0
        · have g1 : decide (q < 0) = true := decide_eq_true p
          by_cases z : q = -9223372036854775808
          · have g2 : (q == -9223372036854775808) = true := by simp [z]
            have Z := hid z
            clear z
            go_wp2
            go_ret
            exact ⟨rfl, AW5.out.trans A6.out⟩
          · have g2 : (q == -9223372036854775808) = false := by simp [z]
            obtain ⟨m, hm⟩ : ∃ m, -q = m := ⟨_, rfl⟩
            have m0 : 0 < m := by omega
            have m1 : m ≤ 9223372036854775807 := by omega
            by_cases y : xR < m
            · have g3 : decide (xR < m) = true := decide_eq_true y
              clear NC
              go_wp2
              go_ret
              exact ⟨rfl, AW5.out.trans A6.out⟩
            · have g3 : decide (xR < m) = false := decide_eq_false y
              have g4 : decide (9223372036854775807 - m < xL) = true := decide_eq_true (by have := NC.out; omega)
              clear NC
              go_wp2
              go_ret
              exact ⟨rfl, AW5.out.trans A6.out⟩
        · have g1 : decide (q < 0) = false := decide_eq_false p
          have g2 : (q == -9223372036854775808) = false := by simp; omega
          by_cases y : xL < q
          · have g3 : decide (xL < q) = true := decide_eq_true y
            clear NC
            go_wp2
            go_ret
            exact ⟨rfl, AW5.out.trans A6.out⟩
          · have g3 : decide (xL < q) = false := decide_eq_false y
            have g4 : decide (9223372036854775807 - q < xR) = true := decide_eq_true (by have := NC.out; omega)
            clear NC
            go_wp2
            go_ret
            exact ⟨rfl, AW5.out.trans A6.out⟩
/-- MASSONE -/
theorem massone_at (MC : MoveC) (TC : TotalC) {side : Int} {pw : Option Addr} {lw cw : Nat} {W : Nat → Int} {pf : Option Addr} {lf cf : Nat} {F : Nat → Int} (w : World) (hFr : Fr w) (hw : IsI w pw lw W) (hf : IsI w pf lf F) :
    Calls Tryd.prog 5 #[.int .i64 side, .slice pw lw cw, .slice pf lf cf] w fun e w' => e = .returned (.bool true) ∧ Below w.heap.size w w' := by
  have AW := awake_at MC TC w hFr
  by_cases hs : 1 ≤ side ∧ side ≤ 32
  · obtain ⟨n, rfl⟩ := Int.eq_ofNat_of_zero_le (show 0 ≤ side by omega)
    have hn : 1 ≤ n ∧ n ≤ 32 := by omega
    have NW : ∀ v, Ab w v → Calls Tryd.prog 12 #[.int .i64 (n : Nat)] v fun e w' => ∃ gb, e = .returned (.tuple #[.pointer (some ⟨gb, 0, none⟩), .int .i64 0]) ∧ Ab v w' ∧ GridOf n gb w' := fun v a => by
      refine (new_at n v hn (hFr.to a)).mono ?_
      rintro e w' ⟨gb, rfl, a, -, g⟩
      exact ⟨gb, rfl, a, g⟩
    have CE : ∀ u gb, GridOf n gb u → Calls Tryd.prog 14 #[.pointer (some ⟨gb, 0, none⟩)] u fun e w' => e = .returned (.int .i64 (6 * n * n : Nat)) ∧ w' = u := fun u gb g => gCells_at g
    have EE : ∀ u gb, GridOf n gb u → Calls Tryd.prog 15 #[.pointer (some ⟨gb, 0, none⟩)] u fun e w' => e = .returned (.int .i64 (12 * n * n : Nat)) ∧ w' = u := fun u gb g => gEdges_at g
    by_cases hl : lw = 6 * n * n ∧ lf = 2
    · obtain ⟨rfl, rfl⟩ := hl
      have p1 : 0 < n * n := Nat.mul_pos (by omega) (by omega)
      have p2 : n * n ≤ 32 * 32 := Nat.mul_le_mul hn.2 hn.2
      have qq : 0 < 6 * n * n ∧ 6 * n * n ≤ 6144 ∧ 0 < 12 * n * n ∧ 12 * n * n ≤ 12288 := by rw [Nat.mul_assoc, Nat.mul_assoc]; omega
      obtain ⟨wb, wo, rfl⟩ := hw.some0 qq.1
      obtain ⟨fb, fo, rfl⟩ := hf.some0 (by omega)
      have f0 := hf.at0 (k := 0) (by omega)
      have f1 := hf.at0 (k := 1) (by omega)
      have u0 : 0 ≤ IntKind.u64.wrap (F 0) := by rw [IntKind.wrap_u64]; omega
      obtain ⟨k, hk⟩ := Int.eq_ofNat_of_zero_le (show 0 ≤ (IntKind.u64.wrap (F 0)).tmod ((12 * n * n : Nat) : Int) by
        rw [Int.tmod_eq_emod_of_nonneg u0]
        exact Int.emod_nonneg _ (by omega))
      have kn : k < 12 * n * n := by
        have h := Int.emod_lt_of_pos (IntKind.u64.wrap (F 0)) (show (0 : Int) < ((12 * n * n : Nat) : Int) by omega)
        rw [← Int.tmod_eq_emod_of_nonneg u0, hk] at h
        omega
      obtain ⟨t1, t2, t3⟩ := edT_spec hn.1 kn
      have md := mt_dec hn.1 t1
      have D0 : ∀ c, c < 6 * n * n → mv n W (oneF k (F 1)) c = if c = edT n k / 4 then W c - F 1 else if c = mt n (edT n k) / 4 then W c + F 1 else W c := fun c hc => mv_one W hn.1 kn hc
      have fq : ∀ i, i < 12 * n * n → -9223372036854775808 ≤ oneF k (F 1) i ∧ oneF k (F 1) i ≤ 9223372036854775807 := fun i _ => by
        unfold oneF
        have := f1.1
        split <;> omega
      refine one_go n _ _ wb wo cw fb fo cf (edT n k / 4) (mt n (edT n k) / 4) k (edT n k % 4) (mt n (edT n k) % 4) (n : Nat) (F 0) (F 1) W (fun c => if c = edT n k / 4 then W c - F 1 else if c = mt n (edT n k) / 4 then W c + F 1 else W c) w hw qq (by omega) (by omega) f1.1.1 f1.1.2 ?_ ?_ _ rfl hk (by omega) ?_ (fun c => rfl) AW NW CE EE ?_ ?_ ?_
      · intro v a
        exact ((hf.below a).at0 (k := 0) (by omega)).2.2
      · intro v a
        exact ((hf.below a).at0 (k := 1) (by omega)).2.2
      · exact ⟨kn, t_cell t1, t_cell (mt_lt hn.1 t1), Nat.ne_of_lt (ends_ne hn.1 kn)⟩
      · intro u gb g
        have h := gEdge_ok hn t1 t2 g
        rw [t3, ← md.1, ← md.2] at h
        exact h
      · intro c v gb b a g r
        have c' : can n W (oneF k (F 1)) := fun i hi => by rw [D0 i hi]; exact c i hi
        refine ((MC n gb _ _ cw W (some ⟨b, 0, none⟩) _ _ (oneF k (F 1)) v hn g (by omega) (by omega) (hw.below a) (row_in r fq)).1 ⟨rfl, rfl⟩ c').mono ?_
        rintro e w' ⟨l, rfl, bl, o⟩
        obtain ⟨a0, cap, rfl, i⟩ := own_mv o c'
        obtain ⟨b0, o0, rfl⟩ := i.some0 qq.1
        exact ⟨b0, o0, cap, rfl, bl, i.congr (fun j hj => D0 j hj)⟩
      · intro c v gb b a g r
        exact (MC n gb _ _ cw W (some ⟨b, 0, none⟩) _ _ (oneF k (F 1)) v hn g (by omega) (by omega) (hw.below a) (row_in r fq)).2.1 ⟨rfl, rfl⟩ (fun c' => c (fun i hi => by have h := c' i hi; rwa [D0 i hi] at h))
    · exact one_len n _ _ (n : Nat) pw lw cw pf lf cf w hl AW NW CE EE
  · exact one_side side pw lw cw pf lf cf w AW (fun v => new_no side v hs)
end Ms
end Go.Proofs.YtpfndibgfkkcgaaDoor
