/-
  Some of the texts of this proof, one behind the other.
-/
import Derived.Test.YtpfndibgfkkcgaaDoorRows
import Derived.Deep.OwnRows
import Derived.Deep.Cut
import Derived.Deep.CutRange
import Derived.Deep.AppendLies
import Derived.Deep.AppendSrc
import Derived.OwnWalk
import Derived.Deep.QuietTactic
import Derived.Test.YtpfndibgfkkcgaaDoorZ06
namespace Go.Proofs.YtpfndibgfkkcgaaDoor
open Go.RowKit Go.Deep
namespace Sh
/-- a list of so many whole numbers -/
def IsI (w : World) (a0 : Option Addr) (len : Nat) (xs : Nat → Int) : Prop := ∀ k, k < len → (-9223372036854775808 ≤ xs k ∧ xs k ≤ 9223372036854775807) ∧ ∃ b o, a0 = some ⟨b, o, none⟩ ∧ b < w.heap.size ∧ w.cell? ⟨b, o + k, none⟩ = some (.int .i64 (xs k))
theorem IsI.below {w w' : World} {a0 : Option Addr} {len : Nat} {xs : Nat → Int} (h : IsI w a0 len xs) (hb : Below w.heap.size w w') : IsI w' a0 len xs := by
  intro k hk
  obtain ⟨h1, b, o, h2, h3, h4⟩ := h k hk
  exact ⟨h1, b, o, h2, Nat.lt_of_lt_of_le h3 hb.size, (Below.cell hb h3).trans h4⟩
theorem IsI.some0 {w : World} {a0 : Option Addr} {len : Nat} {xs : Nat → Int} (h : IsI w a0 len xs) (h0 : 0 < len) : ∃ b o, a0 = some ⟨b, o, none⟩ := by
  obtain ⟨_, b, o, h2, _⟩ := h 0 h0
  exact ⟨b, o, h2⟩
theorem IsI.at0 {w : World} {b o len k : Nat} {xs : Nat → Int} (h : IsI w (some ⟨b, o, none⟩) len xs) (hk : k < len) : (-9223372036854775808 ≤ xs k ∧ xs k ≤ 9223372036854775807) ∧ b < w.heap.size ∧ w.cell? ⟨b, o + k, none⟩ = some (.int .i64 (xs k)) := by
  obtain ⟨h1, b', o', h2, h3, h4⟩ := h k hk
  cases h2
  exact ⟨h1, h3, h4⟩
theorem IsI.nil (w : World) (a0 : Option Addr) (xs : Nat → Int) : IsI w a0 0 xs := fun k hk => absurd hk (Nat.not_lt_zero k)
theorem IsI.congr {w : World} {a0 : Option Addr} {len : Nat} {xs ys : Nat → Int} (h : IsI w a0 len xs) (e : ∀ k, k < len → xs k = ys k) : IsI w a0 len ys := fun k hk => by rw [← e k hk]; exact h k hk
theorem add_off (b off j : Nat) : (⟨b, off, none⟩ : Addr).add j = ⟨b, off + j, none⟩ := by unfold Addr.add; split <;> simp_all
theorem row_in {w : World} {b n : Nat} {f : Nat → Int} (h : w.rowIs b 2 n (fun i => .int .i64 (f i))) (hf : ∀ i, i < n → -9223372036854775808 ≤ f i ∧ f i ≤ 9223372036854775807) : IsI w (some ⟨b, 0, none⟩) n f := fun k hk => ⟨hf k hk, b, 0, rfl, h.lt, by rw [Nat.zero_add]; exact h.cell hk⟩
theorem info64 : (Tryd.prog.info? 2).map (fun i => (i.zero, i.size, i.bytes)) = some (some (.int .i64 0), 1, 8) := by kernel_rfl
/-- a list of the call's own, of so many whole numbers -/
def Own (B : Nat) (v : Value) (l : List Int) (w : World) : Prop := w.ownsRow B 2 1 v l.length (l.map (Value.int .i64))
theorem Own.in {B : Nat} {v : Value} {l : List Int} {w : World} (h : Own B v l w) (hl : ∀ x ∈ l, -9223372036854775808 ≤ x ∧ x ≤ 9223372036854775807) : ∃ a0 cap, v = .slice a0 l.length cap ∧ IsI w a0 l.length (fun j => l.getD j 0) := by
  rcases h.2 with ⟨rfl, h0⟩ | ⟨g, cap, cur, rfl, hb, hg, h1, h2, h3, h4⟩
  · exact ⟨none, 0, by rw [h0], fun k hk => by omega⟩
  · refine ⟨some ⟨g, 0, none⟩, cap, rfl, fun k hk => ?_⟩
    have hx : l.getD k 0 = l[k] := by simp [List.getD, hk]
    refine ⟨by dsimp only; rw [hx]; exact hl _ (List.getElem_mem _), g, 0, rfl, lt_of_block hg, ?_⟩
    have e := h.cells (g := g) rfl k (.int .i64 (l.getD k 0)) (by simp [hk])
    rw [add_off] at e
    exact e
theorem Own.to {B : Nat} {v : Value} {l : List Int} {w w' : World} (h : Own B v l w) (hb : Ab w w') : Own B v l w' := by
  refine ⟨h.1, ?_⟩
  rcases h.2 with h0 | ⟨g, cap, cur, e, hb', hg, h1, h2, h3, h4⟩
  · exact .inl h0
  · exact .inr ⟨g, cap, cur, e, hb', hb.heap hg, h1, h2, h3, h4⟩
/-- all blocks of V but g are in w as they were -/
def Abo (V : World) (g : Nat) (w : World) : Prop := w.os = V.os ∧ w.tape = V.tape ∧ w.output = V.output ∧ V.heap.size ≤ w.heap.size ∧ ∀ k, k < V.heap.size → k ≠ g → w.heap[k]? = V.heap[k]?
theorem Abo.ab {w0 V w : World} {g : Nat} (h : Abo V g w) (a : Ab w0 V) (hg : w0.heap.size ≤ g) : Ab w0 w := by
  obtain ⟨h1, h2, h3, h4, h5⟩ := h
  exact ⟨h1.trans a.os, h2.trans a.tape, h3.trans a.output, Nat.le_trans (Below.size a) h4, fun k hk => (h5 k (Nat.lt_of_lt_of_le hk (Below.size a)) (by omega)).trans (a.block k hk)⟩
theorem Abo.refl (V : World) (g : Nat) : Abo V g V := ⟨rfl, rfl, rfl, Nat.le_refl _, fun _ _ _ => rfl⟩
theorem Own.alloc {B : Nat} {v : Value} {l : List Int} {w : World} (h : Own B v l w) (O : Obj) : Own B v l (w.alloc O) := World.ownsRow.alloc h O
end Sh
end Go.Proofs.YtpfndibgfkkcgaaDoor

namespace Go.Proofs.YtpfndibgfkkcgaaDoor
open Go.RowKit Go.Deep Cu
namespace Ms
open Sh
/-- within 64 bits -/
def W64 (x : Int) : Prop := -9223372036854775808 ≤ x ∧ x ≤ 9223372036854775807
/-- whether the lists fit -/
def fit2 (n lw lf : Nat) : Prop := lw = 6 * n * n ∧ lf = 12 * n * n
/-- whether what comes out can be -/
def can (n : Nat) (W F : Nat → Int) : Prop := ∀ c, c < 6 * n * n → 0 ≤ mv n W F c ∧ mv n W F c ≤ 9223372036854775807
/-- what Move is to answer -/
def MoveC : Prop := ∀ (n gb : Nat) (pw : Option Addr) (lw cw : Nat) (W : Nat → Int) (pf : Option Addr) (lf cf : Nat) (F : Nat → Int) (w : World), (1 ≤ n ∧ n ≤ 32) → GridOf n gb w → lw ≤ 9223372036854775807 → lf ≤ 9223372036854775807 → IsI w pw lw W → IsI w pf lf F →
    (fit2 n lw lf → can n W F → Calls Tryd.prog 13 #[.pointer (some ⟨gb, 0, none⟩), .slice pw lw cw, .slice pf lf cf] w fun e w' => ∃ v, e = .returned (.tuple #[v, .int .i64 0]) ∧ Below w.heap.size w w' ∧ Own w.heap.size v ((List.range (6 * n * n)).map (mv n W F)) w') ∧
    (fit2 n lw lf → ¬ can n W F → Calls Tryd.prog 13 #[.pointer (some ⟨gb, 0, none⟩), .slice pw lw cw, .slice pf lf cf] w fun e w' => e = .returned (.tuple #[.slice none 0 0, .int .i64 20]) ∧ Below w.heap.size w w') ∧
    (¬ fit2 n lw lf → Calls Tryd.prog 13 #[.pointer (some ⟨gb, 0, none⟩), .slice pw lw cw, .slice pf lf cf] w fun e w' => e = .returned (.tuple #[.slice none 0 0, .int .i64 1]) ∧ Below w.heap.size w w')
/-- what Total is to answer -/
def TotalC : Prop := ∀ (pw : Option Addr) (lw cw : Nat) (W : Nat → Int) (pm : Option Addr) (lm cm : Nat) (M : Nat → Int) (w : World), lw ≤ 17592186044416 → lm ≤ 17592186044416 → IsI w pw lw W → IsI w pm lm M →
    (W64 (sumN W lw + sumN M lm) → Calls Tryd.prog 10 #[.slice pw lw cw, .slice pm lm cm] w fun e w' => e = .returned (.tuple #[.int .i64 (sumN W lw + sumN M lm), .int .i64 0]) ∧ Below w.heap.size w w') ∧
    (¬ W64 (sumN W lw + sumN M lm) → Calls Tryd.prog 10 #[.slice pw lw cw, .slice pm lm cm] w fun e w' => e = .returned (.tuple #[.int .i64 0, .int .i64 20]) ∧ Below w.heap.size w w')
/-- the list that Move answers, read -/
theorem own_mv {B m : Nat} {v : Value} {f : Nat → Int} {w : World} (h : Own B v ((List.range m).map f) w) (hf : ∀ c, c < m → 0 ≤ f c ∧ f c ≤ 9223372036854775807) : ∃ a0 cap, v = .slice a0 m cap ∧ IsI w a0 m f := by
  obtain ⟨a0, cap, e, i⟩ := h.in (fun x hx => by
    obtain ⟨j, hj, rfl⟩ := List.mem_map.1 hx
    have := hf j (List.mem_range.1 hj)
    omega)
  rw [List.length_map, List.length_range] at e i
  exact ⟨a0, cap, e, i.congr (fun k hk => by simp [List.getD, hk])⟩
end Ms
end Go.Proofs.YtpfndibgfkkcgaaDoor

namespace Go.Proofs.YtpfndibgfkkcgaaDoor
open Go.RowKit Go.Deep
namespace Ms
open Sh
set_option maxRecDepth 100000 in
set_option maxHeartbeats 4000000 in
theorem same_at (pa pb : Option Addr) (len ca cb : Nat) (xs : Nat → Int) (w : World) (hl : len ≤ 281474976710656) (hA : IsI w pa len xs) (hB : IsI w pb len xs) :
    Calls Tryd.prog 18 #[.slice pa len ca, .slice pb len cb] w fun e w' => e = .returned (.bool true) ∧ Below w.heap.size w w' := by
  have HA := hid hA
  have HB := hid hB
  have HL := hid hl
  clear hA hB hl
  go_enter Tryd.func18, Tryd.ntmps18
  go_wp2
  go_loopw [5] (fun iv wr => ∃ c : Nat, c ≤ len ∧ iv = .int .i64 (c : Nat) ∧ Ab w wr) (fun iv _ => len - (intOf iv).toNat)
  case atStart => exact ⟨0, by omega, rfl, Ab.refl w⟩
  case round =>
    obtain ⟨c, hc, rfl, ar⟩ := hrel
    have AR := hid ar
    clear ar
    by_cases h : c < len
    · have HC := hid h
      obtain ⟨x, hx⟩ : ∃ x, xs c = x := ⟨_, rfl⟩
      obtain ⟨-, b1, o1, e1, l1, c1⟩ := HA.out c h
      obtain ⟨-, b2, o2, e2, l2, c2⟩ := HB.out c h
      rw [hx] at c1 c2
      have C1 := hid c1
      have C2 := hid c2
      have L1 := hid l1
      have L2 := hid l2
      have hcI : (c : Int) < len := by omega
      have hcB : (c : Int) ≤ 281474976710656 := by have := HL.out; omega
      clear c1 c2 l1 l2 hx h
      subst e1 e2
      go_upto_region 6 with fail
      obtain ⟨UU, E, hF1, hF2⟩ := cls wr
      have HU := hid hF2
      have HU1 := hid hF1
      have x1 : ∀ u, (E u).cell? ⟨b1, o1 + c, none⟩ = some (.int .i64 x) := fun u => (Below.cell (AR.out.trans (hF1 u)) L1.out).trans C1.out
      have x2 : ∀ u, (E u).cell? ⟨b2, o2 + c, none⟩ = some (.int .i64 x) := fun u => (Below.cell (AR.out.trans (hF1 u)) L2.out).trans C2.out
      have DD0 := HU.out _ (Ab.refl wr).drew
      clear hF1 hF2
      refine region_cls E (by kernel_rfl) (by kernel_rfl) DD0 ?_
      repeat (go_big_quiet_step (with_reducible rfl))
      refine wpQuiet_nil ?_
      intro z hwz
      obtain ⟨u0, hu⟩ := hwz
      have AZ : Hid (Ab w z) := by rw [hu]; exact AR.out.trans (HU1.out u0)
      clear hu u0
      clear HU HU1 DD0 x1 x2
      clear E UU
      go_wp2
      go_roundw
      case rel => exact ⟨c + 1, by have := HC.out; omega, by simp, AZ.out⟩
      case measure => simp [intOf]; have := HC.out; omega
    · have e : len = c := by omega
      subst e
      go_wp2
      go_ret
      exact ⟨rfl, AR.out⟩
end Ms
end Go.Proofs.YtpfndibgfkkcgaaDoor

namespace Go.Proofs.YtpfndibgfkkcgaaDoor
open Go.RowKit Go.Deep Cu
namespace Ms
open Sh
set_option maxRecDepth 100000 in
set_option maxHeartbeats 4000000 in
theorem one_at (N k : Nat) (q : Int) (w : World) (hN : N ≤ 65536) (hk : k < N) :
    Calls Tryd.prog 20 #[.int .i64 (N : Nat), .int .i64 (k : Nat), .int .i64 q] w fun e w' => ∃ b, e = .returned (.slice (some ⟨b, 0, none⟩) N N) ∧ Below w.heap.size w w' ∧ w'.rowIs b 2 N (fun i => .int .i64 (oneF k q i)) ∧ w.heap.size ≤ b := by
  have MK := run_make_row' (P := Tryd.prog) 22 2 (.int .i64 0) 8 Tryd.underlying22 info64 rfl .i64 .i64 N (by omega) (by omega) w
  obtain ⟨ob, hob⟩ : ∃ b, w.heap.size = b := ⟨_, rfl⟩
  have R0 : (w.alloc (.cells (madeCells #[.int .i64 0] N) 2)).rowIs ob 2 N (fun _ => .int .i64 0) := by rw [← hob]; exact World.rowIs_made _ _ _ _
  have A0 : Hid (Ab w (w.alloc (.cells (madeCells #[.int .i64 0] N) 2))) := bl1 w _
  have HO : Hid (w.heap.size ≤ ob) := Nat.le_of_eq hob
  have kI : (k : Int) < N := by omega
  have z1 := R0.cell hk
  have z2 := R0.frozen k
  have RW := hid R0
  clear R0
  generalize w.alloc (.cells (madeCells #[.int .i64 0] N) 2) = wm at *
  go_enter Tryd.func20, Tryd.ntmps20
  go_wp2
  go_ret
  refine ⟨ob, rfl, Ab.set A0.out HO.out _, (RW.out.set k _).congr (fun i _ => ?_), HO.out⟩
  unfold oneF
  by_cases e : i = k <;> simp [e]
theorem and32i (n : Int) : bits .and .i64 n 4294967295 = n % 4294967296 := by
  have h127 : (BitVec.ofInt 64 4294967295).toNat = 2 ^ 32 - 1 := by decide
  have key : (BitVec.ofInt 64 n &&& BitVec.ofInt 64 4294967295).toNat = (n % ((2 ^ 64 : Nat) : Int)).toNat % 2 ^ 32 := by
    rw [BitVec.toNat_and, BitVec.toNat_ofInt, h127, Nat.and_two_pow_sub_one_eq_mod]
  show IntKind.i64.wrap ((BitVec.ofInt 64 n &&& BitVec.ofInt 64 4294967295).toNat : Nat) = n % 4294967296
  rw [key, IntKind.wrap_i64]
  omega
theorem sum_bd' {f : Nat → Int} {n : Nat} (hf : ∀ i, i < n → -9223372036854775808 ≤ f i ∧ f i ≤ 9223372036854775807) : ∀ c : Nat, c ≤ n → -9223372036854775808 * (c : Int) ≤ sumN f c ∧ sumN f c ≤ 9223372036854775808 * (c : Int)
  | 0, _ => by show _ ≤ (0 : Int) ∧ (0 : Int) ≤ _; omega
  | c + 1, h1 => by
    have h := sum_bd' hf c (by omega)
    have k := hf c (by omega)
    show _ ≤ sumN f c + f c ∧ sumN f c + f c ≤ _
    omega
theorem carry (s x : Int) : s / 4294967296 + x / 4294967296 + (s % 4294967296 + x % 4294967296) / 4294967296 = (s + x) / 4294967296 ∧ (s % 4294967296 + x % 4294967296) % 4294967296 = (s + x) % 4294967296 := by omega
set_option maxRecDepth 100000 in
set_option maxHeartbeats 8000000 in
theorem added_at (p : Option Addr) (n cp : Nat) (f : Nat → Int) (w : World) (hn : n ≤ 65536) (hf : IsI w p n f) :
    Calls Tryd.prog 16 #[.slice p n cp] w fun e w' => e = .returned (.tuple #[.int .i64 (sumN f n / 4294967296), .int .i64 (sumN f n % 4294967296)]) ∧ w' = w := by
  have HF := hid hf
  have HN := hid hn
  have SB : Hid (∀ c, c ≤ n → -9223372036854775808 * (c : Int) ≤ sumN f c ∧ sumN f c ≤ 9223372036854775808 * (c : Int)) := sum_bd' (fun i hi => (hf i hi).1)
  clear hf hn
  go_enter Tryd.func16, Tryd.ntmps16
  go_wp2
  go_loopw [4, 5, 6] (fun hv lv iv wr => ∃ c : Nat, c ≤ n ∧ iv = .int .i64 (c : Nat) ∧ hv = .int .i64 (sumN f c / 4294967296) ∧ lv = .int .i64 (sumN f c % 4294967296) ∧ wr = w) (fun _ _ iv _ => n - (intOf iv).toNat)
  case atStart => exact ⟨0, by omega, rfl, rfl, rfl, rfl⟩
  case round =>
    obtain ⟨c, hc, rfl, rfl, rfl, hwr⟩ := hrel
    have hwr2 := hwr.symm
    subst hwr2
    have sb := SB.out c hc
    obtain ⟨s, hs⟩ : ∃ s, sumN f c = s := ⟨_, rfl⟩
    have SE := hid hs
    rw [hs] at sb ⊢
    by_cases hcn : c < n
    · have HC := hid hcn
      have hcI : (c : Int) < n := by omega
      have hcB : (c : Int) ≤ 65536 := by have := HN.out; omega
      obtain ⟨b0, o0, rfl⟩ := HF.out.some0 (show 0 < n by omega)
      obtain ⟨x, hx⟩ : ∃ x, f c = x := ⟨_, rfl⟩
      have at0 := HF.out.at0 hcn
      rw [hx] at at0
      have xc := at0.2.2
      have x1 := at0.1.1
      have x2 := at0.1.2
      have XE := hid hx
      obtain ⟨h, hh⟩ : ∃ h, s / 4294967296 = h := ⟨_, rfl⟩
      obtain ⟨l, hl⟩ : ∃ l, s % 4294967296 = l := ⟨_, rfl⟩
      obtain ⟨xh, hxh⟩ : ∃ h, x / 4294967296 = h := ⟨_, rfl⟩
      obtain ⟨xl, hxl⟩ : ∃ h, x % 4294967296 = h := ⟨_, rfl⟩
      obtain ⟨c0, hc0⟩ : ∃ h, (l + xl) / 4294967296 = h := ⟨_, rfl⟩
      obtain ⟨l0, hl0⟩ : ∃ h, (l + xl) % 4294967296 = h := ⟨_, rfl⟩
      have b1 : bits .and .i64 x 4294967295 = xl := by rw [and32i, hxl]
      have b2 : bits .and .i64 (l + xl) 4294967295 = l0 := by rw [and32i, hl0]
      have h1 : -140737488355328 ≤ h ∧ h ≤ 140737488355328 := by omega
      have l1 : 0 ≤ l ∧ l < 4294967296 := by omega
      have xh1 : -2147483648 ≤ xh ∧ xh < 2147483648 := by omega
      have xl1 : 0 ≤ xl ∧ xl < 4294967296 := by omega
      have c01 : 0 ≤ c0 ∧ c0 ≤ 1 := by omega
      have NX : Hid (h + xh + c0 = sumN f (c + 1) / 4294967296 ∧ l0 = sumN f (c + 1) % 4294967296) := by
        have e : sumN f (c + 1) = s + x := by show sumN f c + f c = _; rw [SE.out, XE.out]
        have k := carry s x
        rw [hh, hl, hxh, hxl, hc0, hl0] at k
        rw [e]
        exact k
      rw [hh, hl]
      have h11 := h1.1
      have h12 := h1.2
      have l11 := l1.1
      have l12 := l1.2
      have xh11 := xh1.1
      have xh12 := xh1.2
      have xl11 := xl1.1
      have xl12 := xl1.2
      have c011 := c01.1
      have c012 := c01.2
      clear at0 hx hcn hc hh hl hl0 hxl h1 l1 xh1 xl1 c01 sb hs
      go_wp2
      refine ⟨⟨c + 1, by have := HC.out; omega, by simp, ?_, ?_, by first | trivial | rfl⟩, by have := HC.out; simp [intOf]; omega⟩
      · rw [← NX.out.1]
      · rw [← NX.out.2]
    · have e6 : n = c := by omega
      subst e6
      go_wp2
      go_ret2
      exact ⟨by first | rfl | (rw [SE.out]; rfl), by first | trivial | rfl⟩
set_option maxRecDepth 100000 in
set_option maxHeartbeats 8000000 in
theorem opp_at (p : Option Addr) (n cp : Nat) (f : Nat → Int) (w : World) (hn : n ≤ 65536) (hf : IsI w p n f) :
    Calls Tryd.prog 17 #[.slice p n cp] w fun e w' => Below w.heap.size w w' ∧ ((∃ v, e = .returned (.tuple #[v, .bool false])) ∨ ∃ b, e = .returned (.tuple #[.slice (some ⟨b, 0, none⟩) n n, .bool true]) ∧ w'.rowIs b 2 n (fun i => .int .i64 (-f i)) ∧ w.heap.size ≤ b ∧ ∀ i, i < n → -9223372036854775807 ≤ f i) := by
  have MK := run_make_row' (P := Tryd.prog) 22 2 (.int .i64 0) 8 Tryd.underlying22 info64 rfl .i64 .i64 n (by omega) (by omega) w
  obtain ⟨ob, hob⟩ : ∃ b, w.heap.size = b := ⟨_, rfl⟩
  have RW : Hid ((w.alloc (.cells (madeCells #[.int .i64 0] n) 2)).rowIs ob 2 n (fun _ => .int .i64 0)) := by rw [← hob]; exact World.rowIs_made _ _ _ _
  have A0 : Hid (Ab w (w.alloc (.cells (madeCells #[.int .i64 0] n) 2))) := bl1 w _
  have HO : Hid (w.heap.size ≤ ob) := Nat.le_of_eq hob
  have HF := hid hf
  have HN := hid hn
  clear hf hn
  generalize w.alloc (.cells (madeCells #[.int .i64 0] n) 2) = wm at *
  go_enter Tryd.func17, Tryd.ntmps17
  go_wp2
  clear MK hob
  go_loopw [5] (fun iv wr => ∃ c : Nat, c ≤ n ∧ iv = .int .i64 (c : Nat) ∧ Ab w wr ∧ wr.rowIs ob 2 n (fun i => .int .i64 (if i < c then -f i else 0)) ∧ ∀ i, i < c → -9223372036854775807 ≤ f i) (fun iv _ => n - (intOf iv).toNat)
  case atStart => exact ⟨0, by omega, rfl, A0.out, RW.out.congr (fun i _ => by simp), fun i hi => absurd hi (Nat.not_lt_zero i)⟩
  case round =>
    obtain ⟨c, hc, rfl, a1, r1, g1⟩ := hrel
    have AR := hid a1
    have RR := hid r1
    have GG := hid g1
    clear a1 r1 g1 A0 RW
    by_cases hcn : c < n
    · have HC := hid hcn
      have hcI : (c : Int) < n := by omega
      have hcB : (c : Int) ≤ 65536 := by have := HN.out; omega
      obtain ⟨b0, o0, rfl⟩ := HF.out.some0 (show 0 < n by omega)
      obtain ⟨x, hx⟩ : ∃ x, f c = x := ⟨_, rfl⟩
      have at0 := HF.out.at0 hcn
      rw [hx] at at0
      have xc : wr.cell? ⟨b0, o0 + c, none⟩ = some (.int .i64 x) := (Below.cell AR.out at0.2.1).trans at0.2.2
      have x1 := at0.1.1
      have x2 := at0.1.2
      have XE := hid hx
      have z1 := RR.out.cell hcn
      have z2 := RR.out.frozen c
      clear at0 hx hcn hc
      by_cases q : x = -9223372036854775808
      · have d1 : (x == -9223372036854775808) = true := by simp [q]
        have Q := hid q
        clear q
        go_wp2
        go_ret2
        exact ⟨AR.out, Or.inl ⟨_, rfl⟩⟩
      · have d1 : (x == -9223372036854775808) = false := by simp [q]
        have x3 : -9223372036854775807 ≤ x := by omega
        go_wp2
        refine ⟨⟨c + 1, by have := HC.out; omega, by simp, Ab.set AR.out HO.out _, (RR.out.set c _).congr (fun i _ => ?_), fun i hi => ?_⟩, by have := HC.out; simp [intOf]; omega⟩
        · by_cases e : i = c
          · subst e; simp [XE.out]
          · have e2 : (i < c + 1) ↔ i < c := by omega
            simp [e, e2]
        · by_cases l : i < c
          · exact GG.out i l
          · obtain rfl : i = c := by omega
            rw [XE.out]; exact x3
    · have e6 : n = c := by omega
      subst e6
      go_wp2
      go_ret2
      exact ⟨AR.out, Or.inr ⟨ob, rfl, RR.out.congr (fun i hi => by simp [hi]), HO.out, GG.out⟩⟩
end Ms
end Go.Proofs.YtpfndibgfkkcgaaDoor

namespace Go.Proofs.YtpfndibgfkkcgaaDoor
open Go.RowKit Go.Deep Cu
namespace Ms
open Sh
theorem lit_in (w : World) (l : List Int) (hl : ∀ x ∈ l, W64 x) : IsI (w.alloc (.cells (l.map (Value.int .i64)).toArray 2)) (some ⟨w.heap.size, 0, none⟩) l.length (fun i => l.getD i 0) := fun k hk => by
  have h := heap_alloc_new w (.cells (l.map (Value.int .i64)).toArray 2)
  refine ⟨?_, w.heap.size, 0, rfl, lt_of_block h, ?_⟩
  · have e : l.getD k 0 = l[k] := by simp [List.getD, hk]
    dsimp only
    rw [e]
    exact hl _ (List.getElem_mem _)
  · rw [Nat.zero_add]
    refine (cell_of_row _ _ k _ _ _ h).trans ?_
    simp [hk, List.getD]
def w5 (i : Nat) : Int := [5, 0, 0, 0, 0, 0].getD i 0
theorem aw_mv : (List.range (6 * 1 * 1)).map (mv 1 w5 (oneF 0 3)) = [2, 3, 0, 0, 0, 0] := by decide +kernel
theorem aw_can : can 1 w5 (oneF 0 3) := by
  intro c hc
  have h : ∀ c, c < 6 → 0 ≤ mv 1 w5 (oneF 0 3) c ∧ mv 1 w5 (oneF 0 3) c ≤ 9223372036854775807 := by decide +kernel
  exact h c (by omega)
theorem aw_not : ¬ can 1 w5 (oneF 0 6) := fun h => by
  have h0 := (h 0 (by omega)).1
  have e : mv 1 w5 (oneF 0 6) 0 = -1 := by decide +kernel
  omega
set_option maxRecDepth 100000 in
set_option maxHeartbeats 16000000 in
theorem awake_at (MC : MoveC) (TC : TotalC) (w : World) (hF : Fr w) :
    Calls Tryd.prog 9 #[] w fun e w' => e = .returned (.bool true) ∧ Below w.heap.size w w' := by
  have NW : Hid (Calls Tryd.prog 12 #[.int .i64 1] w fun e w' => ∃ gb, e = .returned (.tuple #[.pointer (some ⟨gb, 0, none⟩), .int .i64 0]) ∧ Ab w w' ∧ w.heap.size ≤ gb ∧ GridOf 1 gb w') := new_at 1 w ⟨by omega, by omega⟩ hF
  have O3 : Hid (∀ v, Calls Tryd.prog 20 #[.int .i64 12, .int .i64 0, .int .i64 3] v fun e w' => ∃ b, e = .returned (.slice (some ⟨b, 0, none⟩) 12 12) ∧ Below v.heap.size v w' ∧ w'.rowIs b 2 12 (fun i => .int .i64 (oneF 0 3 i)) ∧ v.heap.size ≤ b) := fun v => one_at 12 0 3 v (by omega) (by omega)
  have O6 : Hid (∀ v, Calls Tryd.prog 20 #[.int .i64 12, .int .i64 0, .int .i64 6] v fun e w' => ∃ b, e = .returned (.slice (some ⟨b, 0, none⟩) 12 12) ∧ Below v.heap.size v w' ∧ w'.rowIs b 2 12 (fun i => .int .i64 (oneF 0 6 i)) ∧ v.heap.size ≤ b) := fun v => one_at 12 0 6 v (by omega) (by omega)
  have L5 : Hid (∀ v : World, IsI (v.alloc (.cells #[.int .i64 5, .int .i64 0, .int .i64 0, .int .i64 0, .int .i64 0, .int .i64 0] 2)) (some ⟨v.heap.size, 0, none⟩) 6 w5) := fun v => lit_in v [5, 0, 0, 0, 0, 0] (fun x hx => by simp at hx; unfold W64; omega)
  have L2 : Hid (∀ v : World, IsI (v.alloc (.cells #[.int .i64 2, .int .i64 3, .int .i64 0, .int .i64 0, .int .i64 0, .int .i64 0] 2)) (some ⟨v.heap.size, 0, none⟩) 6 (fun i => [2, 3, 0, 0, 0, 0].getD i 0)) := fun v => lit_in v [2, 3, 0, 0, 0, 0] (fun x hx => by simp at hx; unfold W64; omega)
  have T1 : Hid (∀ v : World, Calls Tryd.prog 10 #[.slice (some ⟨v.heap.size, 0, none⟩) 2 2, .slice (some ⟨v.heap.size + 1, 0, none⟩) 1 1] ((v.alloc (.cells #[.int .i64 9223372036854775807, .int .i64 1] 2)).alloc (.cells #[.int .i64 (-1)] 2)) fun e w' => e = .returned (.tuple #[.int .i64 9223372036854775807, .int .i64 0]) ∧ Ab v w') := fun v => by
    have i1 := (lit_in v [9223372036854775807, 1] (fun x hx => by simp at hx; unfold W64; omega)).below (bl1 _ (.cells #[.int .i64 (-1)] 2))
    have i2 := lit_in (v.alloc (.cells #[.int .i64 9223372036854775807, .int .i64 1] 2)) [-1] (fun x hx => by simp at hx; unfold W64; omega)
    rw [show (v.alloc (.cells #[.int .i64 9223372036854775807, .int .i64 1] 2)).heap.size = v.heap.size + 1 by simp] at i2
    refine ((TC (some ⟨v.heap.size, 0, none⟩) 2 2 _ (some ⟨v.heap.size + 1, 0, none⟩) 1 1 _ _ (by omega) (by omega) i1 i2).1 (show W64 9223372036854775807 by unfold W64; omega)).mono ?_
    rintro e w' ⟨rfl, b⟩
    exact ⟨rfl, Ab.trans (bl2 _ _ _) b⟩
  have T2 : Hid (∀ v : World, Calls Tryd.prog 10 #[.slice (some ⟨v.heap.size, 0, none⟩) 2 2, .slice none 0 0] (v.alloc (.cells #[.int .i64 9223372036854775807, .int .i64 1] 2)) fun e w' => e = .returned (.tuple #[.int .i64 0, .int .i64 20]) ∧ Ab v w') := fun v => by
    have i1 := lit_in v [9223372036854775807, 1] (fun x hx => by simp at hx; unfold W64; omega)
    refine ((TC (some ⟨v.heap.size, 0, none⟩) 2 2 _ none 0 0 (fun _ => 0) _ (by omega) (by omega) i1 (IsI.nil _ _ _)).2 (show ¬ W64 9223372036854775808 by unfold W64; omega)).mono ?_
    rintro e w' ⟨rfl, b⟩
    exact ⟨rfl, Ab.trans (bl1 _ _) b⟩
  have HM := hid MC
  clear MC TC hF
  go_enter Tryd.func9, Tryd.ntmps9
  go_wp2_with fail
  refine NW.out.mono ?_
  rintro e9 v1 ⟨gb, rfl, a1, -, g1⟩
  have A1 := hid a1
  have G1 := hid g1
  have ED : Hid (Calls Tryd.prog 15 #[.pointer (some ⟨gb, 0, none⟩)] v1 fun e w' => e = .returned (.int .i64 12) ∧ w' = v1) := gEdges_at g1
  clear a1 g1 NW
  go_wp2_with fail
  refine ED.out.mono ?_
  rintro e9 v9 ⟨rfl, hv9⟩
  have hv8 := hv9.symm
  subst hv8
  clear ED
  go_wp2_with fail
  refine (O3.out _).mono ?_
  rintro e9 v2 ⟨b, rfl, b2, r2, l2⟩
  have A2 : Hid (Ab v1 v2) := Ab.trans (bl1 v1 _) b2
  have I2 := hid ((L5.out v1).below b2)
  have R2 := hid r2
  have M1 := hid ((HM.out 1 gb (some ⟨v1.heap.size, 0, none⟩) 6 6 w5 (some ⟨b, 0, none⟩) 12 12 (oneF 0 3) v2 ⟨by omega, by omega⟩ (G1.out.to A2.out) (by omega) (by omega) I2.out (row_in R2.out (fun i _ => by unfold oneF; split <;> omega))).1 ⟨rfl, rfl⟩ aw_can)
  rw [aw_mv] at M1
  clear b2 r2 l2 I2 R2
  go_wp2_with fail
  refine M1.out.mono ?_
  rintro e9 v3 ⟨lv, rfl, b3, o3⟩
  obtain ⟨a0, cap, hlv, i3⟩ := o3.in (fun x hx => by simp at hx; omega)
  subst hlv
  have A3 : Hid (Ab v1 v3) := A2.out.trans b3
  have I3 := hid i3
  clear b3 o3 i3 M1 A2
  go_wp2_with fail
  refine (O6.out _).mono ?_
  rintro e9 v4 ⟨b', rfl, b4, r4, l4⟩
  have A4 : Hid (Ab v3 v4) := Ab.trans (bl1 v3 _) b4
  have I4 := hid ((L5.out v3).below b4)
  have R4 := hid r4
  have M2 := hid ((HM.out 1 gb (some ⟨v3.heap.size, 0, none⟩) 6 6 w5 (some ⟨b', 0, none⟩) 12 12 (oneF 0 6) v4 ⟨by omega, by omega⟩ (G1.out.to (A3.out.trans A4.out)) (by omega) (by omega) I4.out (row_in R4.out (fun i _ => by unfold oneF; split <;> omega))).2.1 ⟨rfl, rfl⟩ aw_not)
  clear b4 r4 l4 I4 R4
  go_wp2_with fail
  refine M2.out.mono ?_
  rintro e9 v5 ⟨rfl, b5⟩
  have A5 : Hid (Ab v3 v5) := A4.out.trans b5
  clear b5 M2 A4
  go_wp2_with fail
  refine (T1.out v5).mono ?_
  rintro e9 v6 ⟨rfl, a6⟩
  have A6 : Hid (Ab v3 v6) := A5.out.trans a6
  clear a6 A5
  go_wp2_with fail
  refine (T2.out v6).mono ?_
  rintro e9 v7 ⟨rfl, a7⟩
  have A7 : Hid (Ab v3 v7) := A6.out.trans a7
  clear a7 A6
  have S3 := hid (same_at a0 (some ⟨v7.heap.size, 0, none⟩) 6 cap 6 _ (v7.alloc (.cells #[.int .i64 2, .int .i64 3, .int .i64 0, .int .i64 0, .int .i64 0, .int .i64 0] 2)) (by omega) (I3.out.below (A7.out.alloc _)) (L2.out v7))
  go_wp2_with fail
  refine S3.out.mono ?_
  rintro e9 v8 ⟨rfl, b8⟩
  have A8 : Hid (Ab w v8) := A1.out.trans (A3.out.trans ((A7.out.alloc _).trans b8))
  clear b8
  go_wp2
  go_ret
  exact ⟨rfl, A8.out⟩
end Ms
end Go.Proofs.YtpfndibgfkkcgaaDoor

namespace Go.Proofs.YtpfndibgfkkcgaaDoor
open Go.RowKit Go.Deep Cu
namespace Ms
open Sh
set_option maxRecDepth 100000 in
set_option maxHeartbeats 8000000 in
theorem kept_side (side : Int) (pw : Option Addr) (lw cw : Nat) (_W : Nat → Int) (pf : Option Addr) (lf cf : Nat) (_F : Nat → Int) (w : World)
    (AW : Hid (Calls Tryd.prog 9 #[] w fun e w' => e = .returned (.bool true) ∧ Below w.heap.size w w')) (NW : Hid (∀ v, Calls Tryd.prog 12 #[.int .i64 side] v fun e w' => e = .returned (.tuple #[.pointer none, .int .i64 10]) ∧ w' = v)) :
    Calls Tryd.prog 4 #[.int .i64 side, .slice pw lw cw, .slice pf lf cf] w fun e w' => e = .returned (.bool true) ∧ Below w.heap.size w w' := by
  go_enter Tryd.func4, Tryd.ntmps4
  go_wp2_with fail
  refine AW.out.mono ?_
  rintro e9 v0 ⟨rfl, b0⟩
  have A0 : Hid (Ab w v0) := b0
  clear b0
  go_wp2_with fail
  refine (NW.out _).mono ?_
  rintro e9 v9 ⟨rfl, hv9⟩
  have hv8 := hv9.symm
  subst hv8
  go_wp2
  go_ret
  exact ⟨rfl, A0.out⟩
set_option maxRecDepth 100000 in
set_option maxHeartbeats 8000000 in
theorem kept_arg (n : Nat) (side : Int) (pw : Option Addr) (lw cw : Nat) (W : Nat → Int) (pf : Option Addr) (lf cf : Nat) (F : Nat → Int) (w : World) (hn : 1 ≤ n ∧ n ≤ 32) (hw : IsI w pw lw W) (hf : IsI w pf lf F) (lw2 : lw ≤ 9223372036854775807) (lf2 : lf ≤ 9223372036854775807) (MC : MoveC) (HB : Hid (¬ fit2 n lw lf))
    (AW : Hid (Calls Tryd.prog 9 #[] w fun e w' => e = .returned (.bool true) ∧ Below w.heap.size w w')) (NW : Hid (∀ v, Ab w v → Calls Tryd.prog 12 #[.int .i64 side] v fun e w' => ∃ gb, e = .returned (.tuple #[.pointer (some ⟨gb, 0, none⟩), .int .i64 0]) ∧ Ab v w' ∧ GridOf n gb w')) :
    Calls Tryd.prog 4 #[.int .i64 side, .slice pw lw cw, .slice pf lf cf] w fun e w' => e = .returned (.bool true) ∧ Below w.heap.size w w' := by
  have HM := hid MC
  have HW := hid hw
  have HF := hid hf
  have HN := hid hn
  have LW := hid lw2
  have LF := hid lf2
  clear MC hw hf hn lw2 lf2
  obtain ⟨M, hM⟩ : ∃ M, 6 * n * n = M := ⟨_, rfl⟩
  obtain ⟨N, hN⟩ : ∃ N, 12 * n * n = N := ⟨_, rfl⟩
  have MM := hid hM
  have NN := hid hN
  clear hM hN
  go_enter Tryd.func4, Tryd.ntmps4
  go_wp2_with fail
  refine AW.out.mono ?_
  rintro e9 v0 ⟨rfl, b0⟩
  have A0 : Hid (Ab w v0) := b0
  clear b0
  go_wp2_with fail
  refine (NW.out v0 A0.out).mono ?_
  rintro e9 v1 ⟨gb, rfl, a1, g1⟩
  have A1 : Hid (Ab w v1) := A0.out.trans a1
  have G1 := hid g1
  clear a1 g1 A0
  have M1 := hid ((HM.out n gb pw lw cw W pf lf cf F v1 HN.out G1.out LW.out LF.out (HW.out.below A1.out) (HF.out.below A1.out)).2.2 HB.out)
  have CE : Hid (∀ u, Ab v1 u → Calls Tryd.prog 14 #[.pointer (some ⟨gb, 0, none⟩)] u fun e w' => e = .returned (.int .i64 (M : Nat)) ∧ w' = u) := fun u a => by rw [← MM.out]; exact gCells_at (G1.out.to a)
  have EE : Hid (∀ u, Ab v1 u → Calls Tryd.prog 15 #[.pointer (some ⟨gb, 0, none⟩)] u fun e w' => e = .returned (.int .i64 (N : Nat)) ∧ w' = u) := fun u a => by rw [← NN.out]; exact gEdges_at (G1.out.to a)
  go_wp2_with fail
  refine M1.out.mono ?_
  rintro e9 v2 ⟨rfl, b2⟩
  have A2 : Hid (Ab v1 v2) := b2
  clear b2 M1
  by_cases c1 : lw = M
  · have c2 : lf ≠ N := fun e => HB.out ⟨by rw [MM.out]; exact c1, by rw [NN.out]; exact e⟩
    have d1 : ((lw : Int) != (M : Int)) = false := by simp; omega
    have d2 : ((lf : Int) != (N : Int)) = true := by simp; omega
    clear c1 c2
    go_wp2_with fail
    refine (CE.out _ A2.out).mono ?_
    rintro e9 v9 ⟨rfl, hv9⟩
    have hv8 := hv9.symm
    subst hv8
    go_wp2_with fail
    refine (EE.out _ A2.out).mono ?_
    rintro e9 v9 ⟨rfl, hv9⟩
    have hv8 := hv9.symm
    subst hv8
    go_wp2
    go_ret
    exact ⟨rfl, A1.out.trans A2.out⟩
  · have d1 : ((lw : Int) != (M : Int)) = true := by simp; omega
    clear c1
    go_wp2_with fail
    refine (CE.out _ A2.out).mono ?_
    rintro e9 v9 ⟨rfl, hv9⟩
    have hv8 := hv9.symm
    subst hv8
    go_wp2
    go_ret
    exact ⟨rfl, A1.out.trans A2.out⟩
set_option maxRecDepth 100000 in
set_option maxHeartbeats 8000000 in
theorem kept_rng (n : Nat) (side : Int) (pw : Option Addr) (lw cw : Nat) (W : Nat → Int) (pf : Option Addr) (lf cf : Nat) (F : Nat → Int) (w : World) (hn : 1 ≤ n ∧ n ≤ 32) (hw : IsI w pw lw W) (hf : IsI w pf lf F) (lw2 : lw ≤ 9223372036854775807) (lf2 : lf ≤ 9223372036854775807) (MC : MoveC) (HB : Hid (fit2 n lw lf ∧ ¬ can n W F))
    (AW : Hid (Calls Tryd.prog 9 #[] w fun e w' => e = .returned (.bool true) ∧ Below w.heap.size w w')) (NW : Hid (∀ v, Ab w v → Calls Tryd.prog 12 #[.int .i64 side] v fun e w' => ∃ gb, e = .returned (.tuple #[.pointer (some ⟨gb, 0, none⟩), .int .i64 0]) ∧ Ab v w' ∧ GridOf n gb w')) :
    Calls Tryd.prog 4 #[.int .i64 side, .slice pw lw cw, .slice pf lf cf] w fun e w' => e = .returned (.bool true) ∧ Below w.heap.size w w' := by
  have HM := hid MC
  have HW := hid hw
  have HF := hid hf
  have HN := hid hn
  have LW := hid lw2
  have LF := hid lf2
  clear MC hw hf hn lw2 lf2
  obtain ⟨M, hM⟩ : ∃ M, 6 * n * n = M := ⟨_, rfl⟩
  obtain ⟨N, hN⟩ : ∃ N, 12 * n * n = N := ⟨_, rfl⟩
  have MM := hid hM
  have NN := hid hN
  clear hM hN
  go_enter Tryd.func4, Tryd.ntmps4
  go_wp2_with fail
  refine AW.out.mono ?_
  rintro e9 v0 ⟨rfl, b0⟩
  have A0 : Hid (Ab w v0) := b0
  clear b0
  go_wp2_with fail
  refine (NW.out v0 A0.out).mono ?_
  rintro e9 v1 ⟨gb, rfl, a1, g1⟩
  have A1 : Hid (Ab w v1) := A0.out.trans a1
  have G1 := hid g1
  clear a1 g1 A0
  have M1 := hid ((HM.out n gb pw lw cw W pf lf cf F v1 HN.out G1.out LW.out LF.out (HW.out.below A1.out) (HF.out.below A1.out)).2.1 HB.out.1 HB.out.2)
  have CE : Hid (∀ u, Ab v1 u → Calls Tryd.prog 14 #[.pointer (some ⟨gb, 0, none⟩)] u fun e w' => e = .returned (.int .i64 (M : Nat)) ∧ w' = u) := fun u a => by rw [← MM.out]; exact gCells_at (G1.out.to a)
  have EE : Hid (∀ u, Ab v1 u → Calls Tryd.prog 15 #[.pointer (some ⟨gb, 0, none⟩)] u fun e w' => e = .returned (.int .i64 (N : Nat)) ∧ w' = u) := fun u a => by rw [← NN.out]; exact gEdges_at (G1.out.to a)
  go_wp2_with fail
  refine M1.out.mono ?_
  rintro e9 v2 ⟨rfl, b2⟩
  have A2 : Hid (Ab v1 v2) := b2
  clear b2 M1
  have c1 : lw = M := by rw [← MM.out]; exact HB.out.1.1
  have c2 : lf = N := by rw [← NN.out]; exact HB.out.1.2
  have d1 : ((lw : Int) != (M : Int)) = false := by simp; omega
  have d2 : ((lf : Int) != (N : Int)) = false := by simp; omega
  clear c1 c2
  go_wp2_with fail
  refine (CE.out _ A2.out).mono ?_
  rintro e9 v9 ⟨rfl, hv9⟩
  have hv8 := hv9.symm
  subst hv8
  go_wp2_with fail
  refine (EE.out _ A2.out).mono ?_
  rintro e9 v9 ⟨rfl, hv9⟩
  have hv8 := hv9.symm
  subst hv8
  go_wp2
  go_ret
  exact ⟨rfl, A1.out.trans A2.out⟩
set_option maxRecDepth 100000 in
set_option maxHeartbeats 16000000 in
theorem kept_ok (n : Nat) (side : Int) (wb wo M cw : Nat) (W : Nat → Int) (fb fo N cf : Nat) (F D : Nat → Int) (w : World) (hw : IsI w (some ⟨wb, wo, none⟩) M W) (hf : IsI w (some ⟨fb, fo, none⟩) N F)
    (BM : Hid (0 < M ∧ M ≤ 6144 ∧ N ≤ 12288)) (KS : Hid (sumN D M = sumN W M)) (DB : Hid (∀ c, c < M → 0 ≤ D c ∧ D c ≤ 9223372036854775807))
    (M1 : Hid (∀ v gb, Ab w v → GridOf n gb v → Calls Tryd.prog 13 #[.pointer (some ⟨gb, 0, none⟩), .slice (some ⟨wb, wo, none⟩) M cw, .slice (some ⟨fb, fo, none⟩) N cf] v fun e w' => ∃ a0 cap, e = .returned (.tuple #[.slice a0 M cap, .int .i64 0]) ∧ Below v.heap.size v w' ∧ IsI w' a0 M D))
    (M2 : Hid ((∀ c, c < M → 0 ≤ W c) → ∀ v gb a0 cap b, Ab w v → GridOf n gb v → IsI v a0 M D → v.rowIs b 2 N (fun i => .int .i64 (-F i)) → (∀ i, i < N → -9223372036854775807 ≤ F i) → Calls Tryd.prog 13 #[.pointer (some ⟨gb, 0, none⟩), .slice a0 M cap, .slice (some ⟨b, 0, none⟩) N N] v fun e w' => ∃ a0 cap, e = .returned (.tuple #[.slice a0 M cap, .int .i64 0]) ∧ Below v.heap.size v w' ∧ IsI w' a0 M W))
    (AW : Hid (Calls Tryd.prog 9 #[] w fun e w' => e = .returned (.bool true) ∧ Below w.heap.size w w')) (NW : Hid (∀ v, Ab w v → Calls Tryd.prog 12 #[.int .i64 side] v fun e w' => ∃ gb, e = .returned (.tuple #[.pointer (some ⟨gb, 0, none⟩), .int .i64 0]) ∧ Ab v w' ∧ GridOf n gb w')) :
    Calls Tryd.prog 4 #[.int .i64 side, .slice (some ⟨wb, wo, none⟩) M cw, .slice (some ⟨fb, fo, none⟩) N cf] w fun e w' => e = .returned (.bool true) ∧ Below w.heap.size w w' := by
  have HW := hid hw
  have HF := hid hf
  clear hw hf
  go_enter Tryd.func4, Tryd.ntmps4
  go_wp2_with fail
  refine AW.out.mono ?_
  rintro e9 v0 ⟨rfl, b0⟩
  have A0 : Hid (Ab w v0) := b0
  clear b0
  go_wp2_with fail
  refine (NW.out v0 A0.out).mono ?_
  rintro e9 v1 ⟨gb, rfl, a1, g1⟩
  have A1 : Hid (Ab w v1) := A0.out.trans a1
  have G1 := hid g1
  clear a1 g1 A0
  go_wp2_with fail
  refine (M1.out _ gb A1.out G1.out).mono ?_
  rintro e9 v2 ⟨a0, cap, rfl, b2, i2⟩
  have A2 : Hid (Ab v1 v2) := b2
  have I2 := hid i2
  clear b2 i2
  have AD1 := hid (added_at (some ⟨wb, wo, none⟩) M cw W v2 (by have := BM.out; omega) (HW.out.below (A1.out.trans A2.out)))
  have AD2 := hid (added_at a0 M cap D v2 (by have := BM.out; omega) I2.out)
  rw [KS.out] at AD2
  go_wp2_with fail
  refine AD1.out.mono ?_
  rintro e9 v9 ⟨rfl, hv9⟩
  have hv8 := hv9.symm
  subst hv8
  go_wp2_with fail
  refine AD2.out.mono ?_
  rintro e9 v9 ⟨rfl, hv9⟩
  have hv8 := hv9.symm
  subst hv8
  clear AD1 AD2
  have A12 := hid (A1.out.trans A2.out)
  obtain ⟨s1, hs1⟩ : ∃ s, sumN W M / 4294967296 = s := ⟨_, rfl⟩
  obtain ⟨s2, hs2⟩ : ∃ s, sumN W M % 4294967296 = s := ⟨_, rfl⟩
  rw [hs1, hs2]
  clear hs1 hs2
  have d1 : (s1 != s1) = false := by simp
  have d2 : (s2 != s2) = false := by simp
  have d3 : ((M : Int) != (M : Int)) = false := by simp
  go_wp2
  go_loopw [14, 15] (fun gv iv wr => ∃ (g : Bool) (c : Nat), c ≤ M ∧ iv = .int .i64 (c : Nat) ∧ gv = .bool g ∧ (g = true → ∀ i, i < c → 0 ≤ W i) ∧ wr = v2) (fun _ iv _ => M - (intOf iv).toNat)
  case atStart => exact ⟨true, 0, by omega, rfl, rfl, fun _ i hi => absurd hi (Nat.not_lt_zero i), rfl⟩
  case round =>
    obtain ⟨g, c, hc, rfl, rfl, gg, hwr⟩ := hrel
    have hwr2 := hwr.symm
    subst hwr2
    have GG := hid gg
    clear gg
    by_cases hcn : c < M
    · have HC := hid hcn
      have hcI : (c : Int) < M := by omega
      have hcB : (c : Int) ≤ 6144 := by have := BM.out; omega
      obtain ⟨ab, ao, rfl⟩ := I2.out.some0 BM.out.1
      obtain ⟨x, hx⟩ : ∃ x, W c = x := ⟨_, rfl⟩
      obtain ⟨y, hy⟩ : ∃ x, D c = x := ⟨_, rfl⟩
      have xc := ((HW.out.below A12.out).at0 hcn).2.2
      have yc := (I2.out.at0 hcn).2.2
      have y0 := (DB.out c hcn).1
      rw [hx] at xc
      rw [hy] at yc y0
      have e1 : decide (y < 0) = false := decide_eq_false (by omega)
      have XE := hid hx
      clear hx hy hcn hc
      cases g with
      | true =>
        have e2 : ∃ q, decide (0 ≤ x) = q := ⟨_, rfl⟩
        obtain ⟨q, e2⟩ := e2
        have QQ : Hid (q = true → 0 ≤ x) := fun h => of_decide_eq_true (e2.trans h)
        go_wp2
        refine ⟨⟨q, c + 1, by have := HC.out; omega, by simp, rfl, fun h i hi => ?_, by first | trivial | rfl⟩, by have := HC.out; simp [intOf]; omega⟩
        by_cases l : i < c
        · exact GG.out rfl i l
        · obtain rfl : i = c := by omega
          rw [XE.out]; exact QQ.out h
      | false =>
        go_wp2
        exact ⟨⟨false, c + 1, by have := HC.out; omega, by simp, rfl, fun h => absurd h (by simp), by first | trivial | rfl⟩, by have := HC.out; simp [intOf]; omega⟩
    · have e6 : M = c := by omega
      subst e6
      have OP := hid (opp_at (some ⟨fb, fo, none⟩) N cf F _ (by have := BM.out; omega) (HF.out.below A12.out))
      go_wp2_with fail
      refine OP.out.mono ?_
      rintro e9 v3 ⟨b3, q3⟩
      have A3 : Hid (Ab _ v3) := b3
      clear b3 OP
      rcases q3 with ⟨vv, rfl⟩ | ⟨b, rfl, r3, l3, f3⟩
      · go_wp2
        go_ret
        exact ⟨rfl, A12.out.trans A3.out⟩
      · cases g with
        | false =>
          go_wp2
          go_ret
          exact ⟨rfl, A12.out.trans A3.out⟩
        | true =>
          have M3 := hid (M2.out (GG.out rfl) v3 gb a0 cap b (A12.out.trans A3.out) (G1.out.to (A2.out.trans A3.out)) (I2.out.below A3.out) r3 f3)
          clear r3 l3 f3
          go_wp2_with fail
          refine M3.out.mono ?_
          rintro e9 v4 ⟨a4, c4, rfl, b4, i4⟩
          have A4 : Hid (Ab _ v4) := b4
          have S4 := hid (same_at a4 (some ⟨wb, wo, none⟩) M c4 cw W v4 (by have := BM.out; omega) i4 (HW.out.below ((A12.out.trans A3.out).trans A4.out)))
          clear b4 i4 M3
          go_wp2_with fail
          refine S4.out.mono ?_
          rintro e9 v5 ⟨rfl, b5⟩
          have A5 : Hid (Ab w v5) := (A12.out.trans A3.out).trans (A4.out.trans b5)
          clear b5 S4
          go_wp2
          go_ret
          exact ⟨rfl, A5.out⟩
/-- MASSKEPT -/
theorem kept_at (MC : MoveC) (TC : TotalC) {side : Int} {pw : Option Addr} {lw cw : Nat} {W : Nat → Int} {pf : Option Addr} {lf cf : Nat} {F : Nat → Int} (w : World) (hFr : Fr w) (hw : IsI w pw lw W) (hf : IsI w pf lf F) (lw2 : lw ≤ 9223372036854775807) (lf2 : lf ≤ 9223372036854775807) :
    Calls Tryd.prog 4 #[.int .i64 side, .slice pw lw cw, .slice pf lf cf] w fun e w' => e = .returned (.bool true) ∧ Below w.heap.size w w' := by
  have AW := awake_at MC TC w hFr
  by_cases hs : 1 ≤ side ∧ side ≤ 32
  · obtain ⟨n, rfl⟩ := Int.eq_ofNat_of_zero_le (show 0 ≤ side by omega)
    have hn : 1 ≤ n ∧ n ≤ 32 := by omega
    have NW : ∀ v, Ab w v → Calls Tryd.prog 12 #[.int .i64 (n : Nat)] v fun e w' => ∃ gb, e = .returned (.tuple #[.pointer (some ⟨gb, 0, none⟩), .int .i64 0]) ∧ Ab v w' ∧ GridOf n gb w' := fun v a => by
      refine (new_at n v hn (hFr.to a)).mono ?_
      rintro e w' ⟨gb, rfl, a, -, g⟩
      exact ⟨gb, rfl, a, g⟩
    by_cases f : fit2 n lw lf
    · by_cases c : can n W F
      · obtain ⟨rfl, rfl⟩ := f
        have p1 : 0 < n * n := Nat.mul_pos (by omega) (by omega)
        have p2 : n * n ≤ 32 * 32 := Nat.mul_le_mul hn.2 hn.2
        have q1 : 0 < 6 * n * n ∧ 6 * n * n ≤ 6144 ∧ 12 * n * n ≤ 12288 := by rw [Nat.mul_assoc, Nat.mul_assoc]; omega
        have q2 : 0 < 12 * n * n := by rw [Nat.mul_assoc]; omega
        obtain ⟨wb, wo, rfl⟩ := hw.some0 q1.1
        obtain ⟨fb, fo, rfl⟩ := hf.some0 q2
        refine kept_ok n (n : Nat) wb wo _ cw W fb fo _ cf F (mv n W F) w hw hf q1 (kept W F hn.1) c ?_ ?_ AW NW
        · intro v gb a g
          refine ((MC n gb _ _ cw W _ _ cf F v hn g lw2 lf2 (hw.below a) (hf.below a)).1 ⟨rfl, rfl⟩ c).mono ?_
          rintro e w' ⟨l, rfl, b, o⟩
          obtain ⟨a0, cap, rfl, i⟩ := own_mv o c
          exact ⟨a0, cap, rfl, b, i⟩
        · intro wn v gb a0 cap b a g i r f
          have c2 : can n (mv n W F) (fun i => -F i) := fun k hk => by
            rw [mv_back]
            exact ⟨wn k hk, (hw.at0 hk).1.2⟩
          refine ((MC n gb a0 _ cap (mv n W F) (some ⟨b, 0, none⟩) _ _ (fun i => -F i) v hn g lw2 lf2 i (row_in r (fun i hi => by have := f i hi; have := (hf.at0 hi).1; omega))).1 ⟨rfl, rfl⟩ c2).mono ?_
          rintro e w' ⟨l, rfl, b, o⟩
          obtain ⟨a0, cap, rfl, i⟩ := own_mv o c2
          exact ⟨a0, cap, rfl, b, i.congr (fun k _ => mv_back n W F k)⟩
      · exact kept_rng n (n : Nat) pw lw cw W pf lf cf F w hn hw hf lw2 lf2 MC ⟨f, c⟩ AW NW
    · exact kept_arg n (n : Nat) pw lw cw W pf lf cf F w hn hw hf lw2 lf2 MC f AW NW
  · exact kept_side side pw lw cw W pf lf cf F w AW (fun v => new_no side v hs)
end Ms
end Go.Proofs.YtpfndibgfkkcgaaDoor

namespace Go.Proofs.YtpfndibgfkkcgaaDoor
open Go.RowKit Go.Deep Cu
namespace Ms
open Sh
/-- the lower word -/
def loW (x : Int) : Int := x % 18446744073709551616
/-- the upper word -/
def hiW (x : Int) : Int := x / 18446744073709551616 % 18446744073709551616
/-- a number as a word -/
def wd (n : Int) : Int := if n < 0 then n + 18446744073709551616 else n
/-- its sign as a word -/
def sgW (n : Int) : Int := if n < 0 then 18446744073709551615 else 0
theorem loW_in (x : Int) : 0 ≤ loW x ∧ loW x < 18446744073709551616 := by unfold loW; omega
theorem hiW_in (x : Int) : 0 ≤ hiW x ∧ hiW x < 18446744073709551616 := by unfold hiW; omega
theorem wd_in {n : Int} (h : W64 n) : 0 ≤ wd n ∧ wd n < 18446744073709551616 := by
  unfold W64 at h; unfold wd; split <;> omega
theorem sgW_in (n : Int) : 0 ≤ sgW n ∧ sgW n < 18446744073709551616 := by unfold sgW; split <;> omega
theorem wd_wrap {n : Int} (h : W64 n) : IntKind.u64.wrap n = wd n := by
  unfold W64 at h; unfold wd
  simp [IntKind.wrap, IntKind.bits, IntKind.signed]
  split <;> omega
theorem plus_low {x n : Int} (_h : W64 n) : (loW x + wd n + 0) % 18446744073709551616 = loW (x + n) := by
  unfold loW wd; split <;> omega
theorem plus_high {x n : Int} (_h : W64 n) : (hiW x + sgW n + (loW x + wd n + 0) / 18446744073709551616) % 18446744073709551616 = hiW (x + n) := by
  unfold hiW loW wd sgW; split <;> omega
theorem plus_carry {x n : Int} (h : W64 n) : 0 ≤ (loW x + wd n + 0) / 18446744073709551616 ∧ (loW x + wd n + 0) / 18446744073709551616 ≤ 1 := by
  have := loW_in x
  have := wd_in h
  omega
/-- what is borrowed -/
def bo (a b : Int) : Int := if a < b then 1 else 0
theorem bo_in (a b : Int) : 0 ≤ bo a b ∧ bo a b ≤ 1 := by unfold bo; split <;> omega
theorem minus_low {x n : Int} (_h : W64 n) : (loW x + 18446744073709551616 - wd n - 0) % 18446744073709551616 = loW (x - n) := by
  unfold loW wd; split <;> omega
theorem minus_high {x n : Int} (h : W64 n) : (hiW x + 18446744073709551616 - sgW n - bo (loW x) (wd n + 0)) % 18446744073709551616 = hiW (x - n) := by
  unfold W64 at h; unfold hiW loW wd sgW bo
  by_cases c : n < 0
  · rw [if_pos c, if_pos c]; split <;> omega
  · rw [if_neg c, if_neg c]; split <;> omega
/-- the lower word as a number -/
def sh (x : Int) : Int := if loW x < 9223372036854775808 then loW x else loW x - 18446744073709551616
theorem sh_in (x : Int) : W64 (sh x) := by
  have := loW_in x
  unfold W64 sh; split <;> omega
theorem sh_wrap (x : Int) : IntKind.i64.wrap (loW x) = sh x := by
  have := loW_in x
  unfold sh
  generalize loW x = y at *
  simp [IntKind.wrap, IntKind.bits, IntKind.signed]
  split <;> omega
theorem sh_of {x : Int} (h : W64 x) : sh x = x ∧ hiW x = sgW (sh x) := by
  unfold W64 at h
  have e : sh x = x := by unfold sh loW; split <;> omega
  refine ⟨e, ?_⟩
  rw [e]
  unfold hiW sgW; split <;> omega
theorem sh_no {x : Int} (h : ¬ W64 x) (a : -170141183460469231731687303715884105728 ≤ x) (b : x < 170141183460469231731687303715884105728) : hiW x ≠ sgW (sh x) := by
  unfold W64 at h
  unfold hiW sgW sh loW
  intro e
  by_cases c : x % 18446744073709551616 < 9223372036854775808
  · rw [if_pos c, if_neg (by omega)] at e; omega
  · rw [if_neg c, if_pos (by omega)] at e; omega
theorem three_a (s : String) (x y c : Nat) (hc1 : c ≤ 1) (w : World) : (Extern.MathBitsCarry.three s #[.int .u64 x, .int .u64 y, .int .u64 c]).run Tryd.prog w = .ok (x, y, c) w := by
  have h : c = 0 ∨ c = 1 := by omega
  rcases h with rfl | rfl <;> rfl
theorem run_add (x y c s o : Int) (hx : 0 ≤ x) (hy : 0 ≤ y) (hc : 0 ≤ c) (hc1 : c ≤ 1) (hs : (x + y + c) % 18446744073709551616 = s) (ho : (x + y + c) / 18446744073709551616 = o) (w : World) :
    (callFunc 37 #[.int .u64 x, .int .u64 y, .int .u64 c]).run Tryd.prog w = .ok (.value (.tuple #[.int .u64 s, .int .u64 o])) w := by
  rw [run_callFunc_extern (e := fun args => do
    let (x, y, c) ← Extern.MathBitsCarry.three "Add64" args
    pure (Extern.MathBitsCarry.pair ((x + y + c) % Extern.MathBitsCarry.m64) ((x + y + c) / Extern.MathBitsCarry.m64))) Tryd.func37 (by kernel_rfl) (by kernel_rfl) (by kernel_rfl) (by kernel_rfl)]
  obtain ⟨x, rfl⟩ : ∃ n : Nat, x = n := ⟨x.toNat, by omega⟩
  obtain ⟨y, rfl⟩ : ∃ n : Nat, y = n := ⟨y.toNat, by omega⟩
  obtain ⟨c, rfl⟩ : ∃ n : Nat, c = n := ⟨c.toNat, by omega⟩
  have e : Extern.MathBitsCarry.m64 = 18446744073709551616 := by decide
  have hp : Extern.MathBitsCarry.pair ((x + y + c) % Extern.MathBitsCarry.m64) ((x + y + c) / Extern.MathBitsCarry.m64) = .tuple #[.int .u64 s, .int .u64 o] := by
    unfold Extern.MathBitsCarry.pair
    rw [e, Int.ofNat_eq_natCast, Int.ofNat_eq_natCast]
    have h1 : (((x + y + c) % 18446744073709551616 : Nat) : Int) = s := by omega
    have h2 : (((x + y + c) / 18446744073709551616 : Nat) : Int) = o := by omega
    rw [h1, h2]
  have h4 := three_a "Add64" x y c (by omega) w
  rw [Sem.run_bind, h4, Result.andThen_ok]
  show Result.andThen (Sem.run Tryd.prog (pure (Extern.MathBitsCarry.pair ((x + y + c) % Extern.MathBitsCarry.m64) ((x + y + c) / Extern.MathBitsCarry.m64))) w) _ = _
  rw [hp]; rfl
theorem run_sub (x y c s o : Int) (hx : 0 ≤ x) (hy : 0 ≤ y) (hy1 : y < 18446744073709551616) (hc : 0 ≤ c) (hc1 : c ≤ 1) (hs : (x + 18446744073709551616 - y - c) % 18446744073709551616 = s) (ho : bo x (y + c) = o) (w : World) :
    (callFunc 45 #[.int .u64 x, .int .u64 y, .int .u64 c]).run Tryd.prog w = .ok (.value (.tuple #[.int .u64 s, .int .u64 o])) w := by
  rw [run_callFunc_extern (e := fun args => do
    let (x, y, b) ← Extern.MathBitsCarry.three "Sub64" args
    pure (Extern.MathBitsCarry.pair ((x + Extern.MathBitsCarry.m64 - y - b) % Extern.MathBitsCarry.m64) (if x < y + b then 1 else 0))) Tryd.func45 (by kernel_rfl) (by kernel_rfl) (by kernel_rfl) (by kernel_rfl)]
  obtain ⟨x, rfl⟩ : ∃ n : Nat, x = n := ⟨x.toNat, by omega⟩
  obtain ⟨y, rfl⟩ : ∃ n : Nat, y = n := ⟨y.toNat, by omega⟩
  obtain ⟨c, rfl⟩ : ∃ n : Nat, c = n := ⟨c.toNat, by omega⟩
  have e : Extern.MathBitsCarry.m64 = 18446744073709551616 := by decide
  have hp : Extern.MathBitsCarry.pair ((x + Extern.MathBitsCarry.m64 - y - c) % Extern.MathBitsCarry.m64) (if x < y + c then 1 else 0) = .tuple #[.int .u64 s, .int .u64 o] := by
    unfold Extern.MathBitsCarry.pair
    rw [e, Int.ofNat_eq_natCast, Int.ofNat_eq_natCast]
    have h1 : (((x + 18446744073709551616 - y - c) % 18446744073709551616 : Nat) : Int) = s := by omega
    have h2 : (((if x < y + c then 1 else 0) : Nat) : Int) = o := by
      unfold bo at ho
      by_cases d : x < y + c
      · rw [if_pos d]; rw [if_pos (by omega)] at ho; exact ho
      · rw [if_neg d]; rw [if_neg (by omega)] at ho; exact ho
    rw [h1, h2]
  have h4 := three_a "Sub64" x y c (by omega) w
  rw [Sem.run_bind, h4, Result.andThen_ok]
  show Result.andThen (Sem.run Tryd.prog (pure (Extern.MathBitsCarry.pair ((x + Extern.MathBitsCarry.m64 - y - c) % Extern.MathBitsCarry.m64) (if x < y + c then 1 else 0))) w) _ = _
  rw [hp]; rfl
/-- flows below a number -/
def upF (k : Nat) (F : Nat → Int) (i : Nat) : Int := if i < k then F i else 0
theorem mv_nil {n c : Nat} (W F : Nat → Int) (hn : 1 ≤ n) (hc : c < 6 * n * n) : mv n W (upF 0 F) c = W c := by
  have h := mv_back n W (fun _ => 0) c
  have g := mv_two n W (fun _ => 0) (fun i => -(fun _ => (0 : Int)) i) c
  rw [h] at g
  rw [g]
  exact mv_congr hn hc rfl (fun i _ => by simp [upF])
/-- one flow more -/
theorem mv_up {n k c : Nat} (W F : Nat → Int) (hn : 1 ≤ n) (hk : k < 12 * n * n) (hc : c < 6 * n * n) : mv n W (upF (k + 1) F) c = if c = edT n k / 4 then mv n W (upF k F) c - F k else if c = mt n (edT n k) / 4 then mv n W (upF k F) c + F k else mv n W (upF k F) c := by
  rw [← mv_one (q := F k) (mv n W (upF k F)) hn hk hc, mv_two]
  refine mv_congr hn hc rfl (fun i _ => ?_)
  unfold upF oneF
  by_cases a : i < k
  · rw [if_pos (by omega), if_pos a, if_neg (by omega)]; omega
  · by_cases b : i = k
    · subst b; rw [if_pos (by omega), if_neg (by omega), if_pos rfl]; omega
    · rw [if_neg (by omega), if_neg a, if_neg b]; omega
theorem mv_all {n c : Nat} (W F : Nat → Int) (hn : 1 ≤ n) (hc : c < 6 * n * n) : mv n W (upF (12 * n * n) F) c = mv n W F c :=
  mv_congr hn hc rfl (fun i hi => by unfold upF; rw [if_pos hi])
theorem sum_in {f : Nat → Int} : ∀ {l : Nat}, (∀ k, k < l → W64 (f k)) → -(9223372036854775808 * (l : Int)) ≤ sumN f l ∧ sumN f l ≤ 9223372036854775807 * (l : Int)
  | 0, _ => by unfold sumN; omega
  | l + 1, h => by
    have i := sum_in (l := l) (fun k hk => h k (by omega))
    have j := h l (by omega)
    unfold W64 at j
    show _ ≤ sumN f l + f l ∧ sumN f l + f l ≤ _
    omega
end Ms
end Go.Proofs.YtpfndibgfkkcgaaDoor
