/-
  Some of the texts of this proof, one behind the other.
-/
import Derived.Test.YtpfndibgfkkcgaaDoorZ06
namespace Go.Proofs.YtpfndibgfkkcgaaDoor
open Go.RowKit Go.Deep Cu
namespace Ms
open Sh
/-- within 64 bits -/
def W64 (x : Int) : Prop := -9223372036854775808 ≤ x ∧ x ≤ 9223372036854775807
/-- whether the lists fit -/
def fit2 (n lw lf : Nat) : Prop := lw = 6 * n * n ∧ lf = 12 * n * n
/-- whether what comes out can be -/
def can (n : Nat) (W F : Nat → Int) : Prop := ∀ c, c < 6 * n * n → 0 ≤ mv n W F c ∧ mv n W F c ≤ 9223372036854775807
/-- what Move is to answer -/
def MoveC : Prop := ∀ (n gb : Nat) (pw : Option Addr) (lw cw : Nat) (W : Nat → Int) (pf : Option Addr) (lf cf : Nat) (F : Nat → Int) (w : World), (1 ≤ n ∧ n ≤ 32) → GridOf n gb w → lw ≤ 9223372036854775807 → lf ≤ 9223372036854775807 → IsI w pw lw W → IsI w pf lf F →
    (fit2 n lw lf → can n W F → Calls Tryd.prog 13 #[.pointer (some ⟨gb, 0, none⟩), .slice pw lw cw, .slice pf lf cf] w fun e w' => ∃ v, e = .returned (.tuple #[v, .int .i64 0]) ∧ Below w.heap.size w w' ∧ Own w.heap.size v ((List.range (6 * n * n)).map (mv n W F)) w') ∧
    (fit2 n lw lf → ¬ can n W F → Calls Tryd.prog 13 #[.pointer (some ⟨gb, 0, none⟩), .slice pw lw cw, .slice pf lf cf] w fun e w' => e = .returned (.tuple #[.slice none 0 0, .int .i64 20]) ∧ Below w.heap.size w w') ∧
    (¬ fit2 n lw lf → Calls Tryd.prog 13 #[.pointer (some ⟨gb, 0, none⟩), .slice pw lw cw, .slice pf lf cf] w fun e w' => e = .returned (.tuple #[.slice none 0 0, .int .i64 1]) ∧ Below w.heap.size w w')
/-- what Total is to answer -/
def TotalC : Prop := ∀ (pw : Option Addr) (lw cw : Nat) (W : Nat → Int) (pm : Option Addr) (lm cm : Nat) (M : Nat → Int) (w : World), lw ≤ 17592186044416 → lm ≤ 17592186044416 → IsI w pw lw W → IsI w pm lm M →
    (W64 (sumN W lw + sumN M lm) → Calls Tryd.prog 10 #[.slice pw lw cw, .slice pm lm cm] w fun e w' => e = .returned (.tuple #[.int .i64 (sumN W lw + sumN M lm), .int .i64 0]) ∧ Below w.heap.size w w') ∧
    (¬ W64 (sumN W lw + sumN M lm) → Calls Tryd.prog 10 #[.slice pw lw cw, .slice pm lm cm] w fun e w' => e = .returned (.tuple #[.int .i64 0, .int .i64 20]) ∧ Below w.heap.size w w')
end Ms
end Go.Proofs.YtpfndibgfkkcgaaDoor

namespace Go.Proofs.YtpfndibgfkkcgaaDoor
open Go.RowKit Go.Deep
namespace Ms
open Sh
set_option maxRecDepth 100000 in
set_option maxHeartbeats 4000000 in
theorem same_at (pa pb : Option Addr) (len ca cb : Nat) (xs : Nat → Int) (w : World) (hl : len ≤ 281474976710656) (hA : IsI w pa len xs) (hB : IsI w pb len xs) :
    Calls Tryd.prog 18 #[.slice pa len ca, .slice pb len cb] w fun e w' => e = .returned (.bool true) ∧ Below w.heap.size w w' := by
  have HA := hid hA
  have HB := hid hB
  have HL := hid hl
  clear hA hB hl
  go_enter Tryd.func18, Tryd.ntmps18
  go_wp2
  go_loopw [5] (fun iv wr => ∃ c : Nat, c ≤ len ∧ iv = .int .i64 (c : Nat) ∧ Ab w wr) (fun iv _ => len - (intOf iv).toNat)
  case atStart => exact ⟨0, by omega, rfl, Ab.refl w⟩
  case round =>
    obtain ⟨c, hc, rfl, ar⟩ := hrel
    have AR := hid ar
    clear ar
    by_cases h : c < len
    · have HC := hid h
      obtain ⟨x, hx⟩ : ∃ x, xs c = x := ⟨_, rfl⟩
      obtain ⟨-, b1, o1, e1, l1, c1⟩ := HA.out c h
      obtain ⟨-, b2, o2, e2, l2, c2⟩ := HB.out c h
      rw [hx] at c1 c2
      have C1 := hid c1
      have C2 := hid c2
      have L1 := hid l1
      have L2 := hid l2
      have hcI : (c : Int) < len := by omega
      have hcB : (c : Int) ≤ 281474976710656 := by have := HL.out; omega
      clear c1 c2 l1 l2 hx h
      subst e1 e2
      go_upto_region 6 with fail
      obtain ⟨UU, E, hF1, hF2⟩ := cls wr
      have HU := hid hF2
      have HU1 := hid hF1
      have x1 : ∀ u, (E u).cell? ⟨b1, o1 + c, none⟩ = some (.int .i64 x) := fun u => (Below.cell (AR.out.trans (hF1 u)) L1.out).trans C1.out
      have x2 : ∀ u, (E u).cell? ⟨b2, o2 + c, none⟩ = some (.int .i64 x) := fun u => (Below.cell (AR.out.trans (hF1 u)) L2.out).trans C2.out
      have DD0 := HU.out _ (Ab.refl wr).drew
      clear hF1 hF2
      refine region_cls E (by kernel_rfl) (by kernel_rfl) DD0 ?_
      repeat (go_big_quiet_step (with_reducible rfl))
      refine wpQuiet_nil ?_
      intro z hwz
      obtain ⟨u0, hu⟩ := hwz
      have AZ : Hid (Ab w z) := by rw [hu]; exact AR.out.trans (HU1.out u0)
      clear hu u0
      clear HU HU1 DD0 x1 x2
      clear E UU
      go_wp2
      go_roundw
      case rel => exact ⟨c + 1, by have := HC.out; omega, by simp, AZ.out⟩
      case measure => simp [intOf]; have := HC.out; omega
    · have e : len = c := by omega
      subst e
      go_wp2
      go_ret
      exact ⟨rfl, AR.out⟩
end Ms
end Go.Proofs.YtpfndibgfkkcgaaDoor

namespace Go.Proofs.YtpfndibgfkkcgaaDoor
open Go.RowKit Go.Deep Cu
namespace Ms
open Sh
set_option maxRecDepth 100000 in
set_option maxHeartbeats 4000000 in
theorem one_at (N k : Nat) (q : Int) (w : World) (hN : N ≤ 65536) (hk : k < N) :
    Calls Tryd.prog 20 #[.int .i64 (N : Nat), .int .i64 (k : Nat), .int .i64 q] w fun e w' => ∃ b, e = .returned (.slice (some ⟨b, 0, none⟩) N N) ∧ Below w.heap.size w w' ∧ w'.rowIs b 2 N (fun i => .int .i64 (oneF k q i)) ∧ w.heap.size ≤ b := by
  have MK := run_make_row' (P := Tryd.prog) 22 2 (.int .i64 0) 8 Tryd.underlying22 info64 rfl .i64 .i64 N (by omega) (by omega) w
  obtain ⟨ob, hob⟩ : ∃ b, w.heap.size = b := ⟨_, rfl⟩
  have R0 : (w.alloc (.cells (madeCells #[.int .i64 0] N) 2)).rowIs ob 2 N (fun _ => .int .i64 0) := by rw [← hob]; exact World.rowIs_made _ _ _ _
  have A0 : Hid (Ab w (w.alloc (.cells (madeCells #[.int .i64 0] N) 2))) := bl1 w _
  have HO : Hid (w.heap.size ≤ ob) := Nat.le_of_eq hob
  have kI : (k : Int) < N := by omega
  have z1 := R0.cell hk
  have z2 := R0.frozen k
  have RW := hid R0
  clear R0
  generalize w.alloc (.cells (madeCells #[.int .i64 0] N) 2) = wm at *
  go_enter Tryd.func20, Tryd.ntmps20
  go_wp2
  go_ret
  refine ⟨ob, rfl, Ab.set A0.out HO.out _, (RW.out.set k _).congr (fun i _ => ?_), HO.out⟩
  unfold oneF
  by_cases e : i = k <;> simp [e]
end Ms
end Go.Proofs.YtpfndibgfkkcgaaDoor

namespace Go.Proofs.YtpfndibgfkkcgaaDoor
open Go.RowKit Go.Deep Cu
namespace Ms
open Sh
theorem lit_in (w : World) (l : List Int) (hl : ∀ x ∈ l, W64 x) : IsI (w.alloc (.cells (l.map (Value.int .i64)).toArray 2)) (some ⟨w.heap.size, 0, none⟩) l.length (fun i => l.getD i 0) := fun k hk => by
  have h := heap_alloc_new w (.cells (l.map (Value.int .i64)).toArray 2)
  refine ⟨?_, w.heap.size, 0, rfl, lt_of_block h, ?_⟩
  · have e : l.getD k 0 = l[k] := by simp [List.getD, hk]
    dsimp only
    rw [e]
    exact hl _ (List.getElem_mem _)
  · rw [Nat.zero_add]
    refine (cell_of_row _ _ k _ _ _ h).trans ?_
    simp [hk, List.getD]
def w5 (i : Nat) : Int := [5, 0, 0, 0, 0, 0].getD i 0
theorem aw_mv : (List.range (6 * 1 * 1)).map (mv 1 w5 (oneF 0 3)) = [2, 3, 0, 0, 0, 0] := by decide +kernel
theorem aw_can : can 1 w5 (oneF 0 3) := by
  intro c hc
  have h : ∀ c, c < 6 → 0 ≤ mv 1 w5 (oneF 0 3) c ∧ mv 1 w5 (oneF 0 3) c ≤ 9223372036854775807 := by decide +kernel
  exact h c (by omega)
theorem aw_not : ¬ can 1 w5 (oneF 0 6) := fun h => by
  have h0 := (h 0 (by omega)).1
  have e : mv 1 w5 (oneF 0 6) 0 = -1 := by decide +kernel
  omega
set_option maxRecDepth 100000 in
set_option maxHeartbeats 16000000 in
theorem awake_at (MC : MoveC) (TC : TotalC) (w : World) (hF : Fr w) :
    Calls Tryd.prog 9 #[] w fun e w' => e = .returned (.bool true) ∧ Below w.heap.size w w' := by
  have NW : Hid (Calls Tryd.prog 12 #[.int .i64 1] w fun e w' => ∃ gb, e = .returned (.tuple #[.pointer (some ⟨gb, 0, none⟩), .int .i64 0]) ∧ Ab w w' ∧ w.heap.size ≤ gb ∧ GridOf 1 gb w') := new_at 1 w ⟨by omega, by omega⟩ hF
  have O3 : Hid (∀ v, Calls Tryd.prog 20 #[.int .i64 12, .int .i64 0, .int .i64 3] v fun e w' => ∃ b, e = .returned (.slice (some ⟨b, 0, none⟩) 12 12) ∧ Below v.heap.size v w' ∧ w'.rowIs b 2 12 (fun i => .int .i64 (oneF 0 3 i)) ∧ v.heap.size ≤ b) := fun v => one_at 12 0 3 v (by omega) (by omega)
  have O6 : Hid (∀ v, Calls Tryd.prog 20 #[.int .i64 12, .int .i64 0, .int .i64 6] v fun e w' => ∃ b, e = .returned (.slice (some ⟨b, 0, none⟩) 12 12) ∧ Below v.heap.size v w' ∧ w'.rowIs b 2 12 (fun i => .int .i64 (oneF 0 6 i)) ∧ v.heap.size ≤ b) := fun v => one_at 12 0 6 v (by omega) (by omega)
  have L5 : Hid (∀ v : World, IsI (v.alloc (.cells #[.int .i64 5, .int .i64 0, .int .i64 0, .int .i64 0, .int .i64 0, .int .i64 0] 2)) (some ⟨v.heap.size, 0, none⟩) 6 w5) := fun v => lit_in v [5, 0, 0, 0, 0, 0] (fun x hx => by simp at hx; unfold W64; omega)
  have L2 : Hid (∀ v : World, IsI (v.alloc (.cells #[.int .i64 2, .int .i64 3, .int .i64 0, .int .i64 0, .int .i64 0, .int .i64 0] 2)) (some ⟨v.heap.size, 0, none⟩) 6 (fun i => [2, 3, 0, 0, 0, 0].getD i 0)) := fun v => lit_in v [2, 3, 0, 0, 0, 0] (fun x hx => by simp at hx; unfold W64; omega)
  have T1 : Hid (∀ v : World, Calls Tryd.prog 10 #[.slice (some ⟨v.heap.size, 0, none⟩) 2 2, .slice (some ⟨v.heap.size + 1, 0, none⟩) 1 1] ((v.alloc (.cells #[.int .i64 9223372036854775807, .int .i64 1] 2)).alloc (.cells #[.int .i64 (-1)] 2)) fun e w' => e = .returned (.tuple #[.int .i64 9223372036854775807, .int .i64 0]) ∧ Ab v w') := fun v => by
    have i1 := (lit_in v [9223372036854775807, 1] (fun x hx => by simp at hx; unfold W64; omega)).below (bl1 _ (.cells #[.int .i64 (-1)] 2))
    have i2 := lit_in (v.alloc (.cells #[.int .i64 9223372036854775807, .int .i64 1] 2)) [-1] (fun x hx => by simp at hx; unfold W64; omega)
    rw [show (v.alloc (.cells #[.int .i64 9223372036854775807, .int .i64 1] 2)).heap.size = v.heap.size + 1 by simp] at i2
    refine ((TC (some ⟨v.heap.size, 0, none⟩) 2 2 _ (some ⟨v.heap.size + 1, 0, none⟩) 1 1 _ _ (by omega) (by omega) i1 i2).1 (show W64 9223372036854775807 by unfold W64; omega)).mono ?_
    rintro e w' ⟨rfl, b⟩
    exact ⟨rfl, Ab.trans (bl2 _ _ _) b⟩
  have T2 : Hid (∀ v : World, Calls Tryd.prog 10 #[.slice (some ⟨v.heap.size, 0, none⟩) 2 2, .slice none 0 0] (v.alloc (.cells #[.int .i64 9223372036854775807, .int .i64 1] 2)) fun e w' => e = .returned (.tuple #[.int .i64 0, .int .i64 20]) ∧ Ab v w') := fun v => by
    have i1 := lit_in v [9223372036854775807, 1] (fun x hx => by simp at hx; unfold W64; omega)
    refine ((TC (some ⟨v.heap.size, 0, none⟩) 2 2 _ none 0 0 (fun _ => 0) _ (by omega) (by omega) i1 (IsI.nil _ _ _)).2 (show ¬ W64 9223372036854775808 by unfold W64; omega)).mono ?_
    rintro e w' ⟨rfl, b⟩
    exact ⟨rfl, Ab.trans (bl1 _ _) b⟩
  have HM := hid MC
  clear MC TC hF
  go_enter Tryd.func9, Tryd.ntmps9
  go_wp2_with fail
  refine NW.out.mono ?_
  rintro e9 v1 ⟨gb, rfl, a1, -, g1⟩
  have A1 := hid a1
  have G1 := hid g1
  have ED : Hid (Calls Tryd.prog 15 #[.pointer (some ⟨gb, 0, none⟩)] v1 fun e w' => e = .returned (.int .i64 12) ∧ w' = v1) := gEdges_at g1
  clear a1 g1 NW
  go_wp2_with fail
  refine ED.out.mono ?_
  rintro e9 v9 ⟨rfl, hv9⟩
  have hv8 := hv9.symm
  subst hv8
  clear ED
  go_wp2_with fail
  refine (O3.out _).mono ?_
  rintro e9 v2 ⟨b, rfl, b2, r2, l2⟩
  have A2 : Hid (Ab v1 v2) := Ab.trans (bl1 v1 _) b2
  have I2 := hid ((L5.out v1).below b2)
  have R2 := hid r2
  have M1 := hid ((HM.out 1 gb (some ⟨v1.heap.size, 0, none⟩) 6 6 w5 (some ⟨b, 0, none⟩) 12 12 (oneF 0 3) v2 ⟨by omega, by omega⟩ (G1.out.to A2.out) (by omega) (by omega) I2.out (row_in R2.out (fun i _ => by unfold oneF; split <;> omega))).1 ⟨rfl, rfl⟩ aw_can)
  rw [aw_mv] at M1
  clear b2 r2 l2 I2 R2
  go_wp2_with fail
  refine M1.out.mono ?_
  rintro e9 v3 ⟨lv, rfl, b3, o3⟩
  obtain ⟨a0, cap, hlv, i3⟩ := o3.in (fun x hx => by simp at hx; omega)
  subst hlv
  have A3 : Hid (Ab v1 v3) := A2.out.trans b3
  have I3 := hid i3
  clear b3 o3 i3 M1 A2
  go_wp2_with fail
  refine (O6.out _).mono ?_
  rintro e9 v4 ⟨b', rfl, b4, r4, l4⟩
  have A4 : Hid (Ab v3 v4) := Ab.trans (bl1 v3 _) b4
  have I4 := hid ((L5.out v3).below b4)
  have R4 := hid r4
  have M2 := hid ((HM.out 1 gb (some ⟨v3.heap.size, 0, none⟩) 6 6 w5 (some ⟨b', 0, none⟩) 12 12 (oneF 0 6) v4 ⟨by omega, by omega⟩ (G1.out.to (A3.out.trans A4.out)) (by omega) (by omega) I4.out (row_in R4.out (fun i _ => by unfold oneF; split <;> omega))).2.1 ⟨rfl, rfl⟩ aw_not)
  clear b4 r4 l4 I4 R4
  go_wp2_with fail
  refine M2.out.mono ?_
  rintro e9 v5 ⟨rfl, b5⟩
  have A5 : Hid (Ab v3 v5) := A4.out.trans b5
  clear b5 M2 A4
  go_wp2_with fail
  refine (T1.out v5).mono ?_
  rintro e9 v6 ⟨rfl, a6⟩
  have A6 : Hid (Ab v3 v6) := A5.out.trans a6
  clear a6 A5
  go_wp2_with fail
  refine (T2.out v6).mono ?_
  rintro e9 v7 ⟨rfl, a7⟩
  have A7 : Hid (Ab v3 v7) := A6.out.trans a7
  clear a7 A6
  have S3 := hid (same_at a0 (some ⟨v7.heap.size, 0, none⟩) 6 cap 6 _ (v7.alloc (.cells #[.int .i64 2, .int .i64 3, .int .i64 0, .int .i64 0, .int .i64 0, .int .i64 0] 2)) (by omega) (I3.out.below (A7.out.alloc _)) (L2.out v7))
  go_wp2_with fail
  refine S3.out.mono ?_
  rintro e9 v8 ⟨rfl, b8⟩
  have A8 : Hid (Ab w v8) := A1.out.trans (A3.out.trans ((A7.out.alloc _).trans b8))
  clear b8
  go_wp2
  go_ret
  exact ⟨rfl, A8.out⟩
end Ms
end Go.Proofs.YtpfndibgfkkcgaaDoor

namespace Go.Proofs.YtpfndibgfkkcgaaDoor
open Go.RowKit Go.Deep Cu
namespace Ms
open Sh
/-- four words of a sum of the reference -/
def Four (w : World) (b : Nat) (i0 i1 i2 i3 : Int) : Prop := w.heap[b]? = some (.cells #[.int .u64 i0, .int .u64 i1, .int .u64 i2, .int .u64 i3] 56)
theorem Four.frz {w : World} {b : Nat} {i0 i1 i2 i3 : Int} (h : Four w b i0 i1 i2 i3) (k : Nat) : w.frozen? ⟨b, k, none⟩ = false := by
  have r : w.rowIs b 56 4 (fun k => (#[.int .u64 i0, .int .u64 i1, .int .u64 i2, .int .u64 i3] : Array Value).getD k (.bool false)) := ⟨_, h, rfl, fun i hi => by
    match i, hi with
    | 0, _ => rfl
    | 1, _ => rfl
    | 2, _ => rfl
    | 3, _ => rfl⟩
  exact r.frozen k
theorem abo_set (w : World) (g k : Nat) (v : Value) : Abo w g (w.setCell ⟨g, k, none⟩ v) := ⟨rfl, rfl, rfl, by simp [World.setCell], fun i _ hne => Below.heap_setCell _ _ _ _ hne⟩
theorem Abo.trans {u v w : World} {g : Nat} (h : Abo u g v) (k : Abo v g w) : Abo u g w := by
  obtain ⟨h1, h2, h3, h4, h5⟩ := h
  obtain ⟨k1, k2, k3, k4, k5⟩ := k
  exact ⟨k1.trans h1, k2.trans h2, k3.trans h3, Nat.le_trans h4 k4, fun i hi hne => (k5 i (by omega) hne).trans (h5 i hi hne)⟩
set_option maxRecDepth 100000 in
set_option maxHeartbeats 8000000 in
theorem badd_pos (b : Nat) (i0 i1 i2 i3 x mh ml : Int) (w : World) (R : Hid (Four w b i0 i1 i2 i3))
    (hx : 0 ≤ x) (hx2 : x ≤ 9223372036854775807) (b00 : 0 ≤ i0) (b01 : i0 ≤ 4611686018427387904) (b10 : 0 ≤ i1) (b11 : i1 ≤ 9223372036854775808) (e1 : x / 4294967296 = mh) (e2 : x % 4294967296 = ml) :
    Calls Tryd.prog 23 #[.pointer (some ⟨b, 0, none⟩), .int .i64 x] w fun e w' => e = .returned (.tuple #[]) ∧ Abo w b w' ∧ Four w' b (i0 + mh) (i1 + ml) i2 i3 := by
  have d : decide (x < 0) = false := decide_eq_false (by omega)
  have p0 : 0 ≤ mh ∧ mh ≤ 2147483648 := by omega
  have p1 : 0 ≤ ml ∧ ml < 4294967296 := by omega
  have p00 := p0.1
  have p01 := p0.2
  have p10 := p1.1
  have p11 := p1.2
  clear p0 p1
  have c0 := cell_of_row _ _ 0 _ _ _ R.out
  have c1 := cell_of_row _ _ 1 _ _ _ R.out
  have z0 := R.out.frz 0
  have z1 := R.out.frz 1
  go_enter Tryd.func23, Tryd.ntmps23
  go_wp2
  go_end0
  exact ⟨rfl, Abo.trans (abo_set _ _ _ _) (abo_set _ _ _ _), one_set (one_set R.out)⟩
set_option maxRecDepth 100000 in
set_option maxHeartbeats 8000000 in
theorem badd_neg (b : Nat) (i0 i1 i2 i3 x mh ml : Int) (w : World) (R : Hid (Four w b i0 i1 i2 i3))
    (hx : x < 0) (hx2 : -9223372036854775808 ≤ x) (b00 : 0 ≤ i2) (b01 : i2 ≤ 4611686018427387904) (b10 : 0 ≤ i3) (b11 : i3 ≤ 9223372036854775808) (e1 : -x / 4294967296 = mh) (e2 : -x % 4294967296 = ml) :
    Calls Tryd.prog 23 #[.pointer (some ⟨b, 0, none⟩), .int .i64 x] w fun e w' => e = .returned (.tuple #[]) ∧ Abo w b w' ∧ Four w' b i0 i1 (i2 + mh) (i3 + ml) := by
  have d : decide (x < 0) = true := decide_eq_true hx
  have p0 : 0 ≤ mh ∧ mh ≤ 2147483648 := by omega
  have p1 : 0 ≤ ml ∧ ml < 4294967296 := by omega
  have p00 := p0.1
  have p01 := p0.2
  have p10 := p1.1
  have p11 := p1.2
  clear p0 p1
  obtain ⟨m, hm⟩ : ∃ m, -x = m := ⟨_, rfl⟩
  have q1 : -(x + 1) + 1 = m := by omega
  have m0 : 0 < m := by omega
  have m1 : m ≤ 9223372036854775808 := by omega
  obtain rfl : x = -m := by omega
  rw [hm] at e1 e2
  clear hm
  have c0 := cell_of_row _ _ 2 _ _ _ R.out
  have c1 := cell_of_row _ _ 3 _ _ _ R.out
  have z0 := R.out.frz 2
  have z1 := R.out.frz 3
  go_enter Tryd.func23, Tryd.ntmps23
  go_wp2
  refine bodyPost_ret (results_none rfl _ _ _) rfl ?_
  exact ⟨rfl, Abo.trans (abo_set _ _ _ _) (abo_set _ _ _ _), one_set (one_set R.out)⟩
/-- a sum of the reference, of so many numbers -/
def IsBig (w : World) (b k : Nat) (S : Int) : Prop := ∃ i0 i1 i2 i3 : Int, Four w b i0 i1 i2 i3 ∧ (0 ≤ i0 ∧ i0 ≤ 2147483648 * (k : Int)) ∧ (0 ≤ i1 ∧ i1 ≤ 4294967296 * (k : Int)) ∧ (0 ≤ i2 ∧ i2 ≤ 2147483648 * (k : Int)) ∧ (0 ≤ i3 ∧ i3 ≤ 4294967296 * (k : Int)) ∧ i0 * 4294967296 + i1 - (i2 * 4294967296 + i3) = S
/-- a number more -/
theorem badd_at (b k : Nat) (S x : Int) (w : World) (h : IsBig w b k S) (hk : k < 2147483648) (hx : W64 x) :
    Calls Tryd.prog 23 #[.pointer (some ⟨b, 0, none⟩), .int .i64 x] w fun e w' => e = .returned (.tuple #[]) ∧ Abo w b w' ∧ IsBig w' b (k + 1) (S + x) := by
  obtain ⟨i0, i1, i2, i3, R, b0, b1, b2, b3, e⟩ := h
  unfold W64 at hx
  by_cases c : x < 0
  · refine (badd_neg b i0 i1 i2 i3 x _ _ w R c hx.1 (by omega) (by omega) (by omega) (by omega) rfl rfl).mono ?_
    rintro e' w' ⟨rfl, a, r⟩
    exact ⟨rfl, a, _, _, _, _, r, by omega, by omega, by omega, by omega, by omega⟩
  · refine (badd_pos b i0 i1 i2 i3 x _ _ w R (by omega) hx.2 (by omega) (by omega) (by omega) (by omega) rfl rfl).mono ?_
    rintro e' w' ⟨rfl, a, r⟩
    exact ⟨rfl, a, _, _, _, _, r, by omega, by omega, by omega, by omega, by omega⟩
set_option maxRecDepth 100000 in
set_option maxHeartbeats 16000000 in
theorem value_go (b : Nat) (i0 i1 i2 i3 ah al bh bl S X : Int) (ok : Bool) (w : World) (R : Hid (Four w b i0 i1 i2 i3)) (b00 : 0 ≤ i0) (b01 : i0 ≤ 4611686018427387904) (b10 : 0 ≤ i1) (b11 : i1 ≤ 9223372036854775808) (b20 : 0 ≤ i2) (b21 : i2 ≤ 4611686018427387904) (b30 : 0 ≤ i3) (b31 : i3 ≤ 9223372036854775808)
    (e0 : i0 + i1 / 4294967296 = ah) (e1 : i1 % 4294967296 = al) (e2 : i2 + i3 / 4294967296 = bh) (e3 : i3 % 4294967296 = bl) (HS : Hid (ah * 4294967296 + al - (bh * 4294967296 + bl) = S))
    (HY : Hid (W64 S → X = S ∧ ok = true)) (HN : Hid (¬ W64 S → X = 0 ∧ ok = false)) :
    Calls Tryd.prog 24 #[.pointer (some ⟨b, 0, none⟩)] w fun e w' => e = .returned (.tuple #[.int .i64 X, .bool ok]) ∧ Below w.heap.size w w' := by
  have c0 := cell_of_row _ _ 0 _ _ _ R.out
  have c1 := cell_of_row _ _ 1 _ _ _ R.out
  have c2 := cell_of_row _ _ 2 _ _ _ R.out
  have c3 := cell_of_row _ _ 3 _ _ _ R.out
  have hS := HS.out
  have a0 : 0 ≤ ah := by omega
  have a1 : ah ≤ 9223372036854775808 := by omega
  have a2 : 0 ≤ al := by omega
  have a3 : al < 4294967296 := by omega
  have f0 : 0 ≤ bh := by omega
  have f1 : bh ≤ 9223372036854775808 := by omega
  have f2 : 0 ≤ bl := by omega
  have f3 : bl < 4294967296 := by omega
  clear HS
  go_enter Tryd.func24, Tryd.ntmps24
  by_cases q1 : ah < bh
  · have g1 : decide (ah < bh) = true := decide_eq_true q1
    by_cases q2 : bl < al
    · have g2 : decide (bl < al) = true := decide_eq_true q2
      obtain ⟨h, hh⟩ : ∃ h, bh - 1 - ah = h := ⟨_, rfl⟩
      obtain ⟨l, hl⟩ : ∃ l, bl + 4294967296 - al = l := ⟨_, rfl⟩
      have h0 : 0 ≤ h := by omega
      have h1 : h ≤ 9223372036854775808 := by omega
      have l0 : 0 ≤ l := by omega
      have l1 : l < 4294967296 := by omega
      have SE : Hid (S = -(h * 4294967296 + l)) := by show _ = _; omega
      by_cases d3 : 2147483648 ≤ h
      · have g3 : decide (2147483648 ≤ h) = true := decide_eq_true d3
        by_cases d4 : h = 2147483648
        · have g4 : (h == 2147483648) = true := by simp [d4]
          by_cases d5 : l = 0
          · have g5 : (l == 0) = true := by simp [d5]
            have W : Hid (X = -9223372036854775808 ∧ ok = true) := by
              have r := HY.out (by have := SE.out; unfold W64; omega)
              exact ⟨by rw [r.1, SE.out, d4, d5]; rfl, r.2⟩
            clear d4 d5 d3
            clear SE HY HN
            go_wp2
            go_region
            go_wp2
            go_region
            go_wp2
            go_ret2
            exact ⟨by rw [W.out.1, W.out.2]; rfl, (Ab.refl w).drew.drew⟩
          · have g5 : (l == 0) = false := by simp [d5]
            have W : Hid (X = 0 ∧ ok = false) := HN.out (by have := SE.out; unfold W64; omega)
            clear d3 d4
            clear SE HY HN
            go_wp2
            go_region
            go_wp2
            go_region
            go_wp2
            go_ret2
            exact ⟨by rw [W.out.1, W.out.2]; rfl, (Ab.refl w).drew.drew⟩
        · have g4 : (h == 2147483648) = false := by simp [d4]
          have W : Hid (X = 0 ∧ ok = false) := HN.out (by have := SE.out; unfold W64; omega)
          clear d3
          clear SE HY HN
          go_wp2
          go_region
          go_wp2
          go_region
          go_wp2
          go_ret2
          exact ⟨by rw [W.out.1, W.out.2]; rfl, (Ab.refl w).drew.drew⟩
      · have g3 : decide (2147483648 ≤ h) = false := decide_eq_false d3
        have W : Hid (X = -(h * 4294967296 + l) ∧ ok = true) := by
          have r := HY.out (by have := SE.out; unfold W64; omega)
          exact ⟨by rw [r.1, SE.out], r.2⟩
        clear SE HY HN
        go_wp2
        go_region
        go_wp2
        go_region
        go_wp2
        go_ret2
        exact ⟨by rw [W.out.1, W.out.2]; rfl, (Ab.refl w).drew.drew⟩
    · have g2 : decide (bl < al) = false := decide_eq_false q2
      obtain ⟨h, hh⟩ : ∃ h, bh - ah = h := ⟨_, rfl⟩
      obtain ⟨l, hl⟩ : ∃ l, bl - al = l := ⟨_, rfl⟩
      have h0 : 0 ≤ h := by omega
      have h1 : h ≤ 9223372036854775808 := by omega
      have l0 : 0 ≤ l := by omega
      have l1 : l < 4294967296 := by omega
      have SE : Hid (S = -(h * 4294967296 + l)) := by show _ = _; omega
      by_cases d3 : 2147483648 ≤ h
      · have g3 : decide (2147483648 ≤ h) = true := decide_eq_true d3
        by_cases d4 : h = 2147483648
        · have g4 : (h == 2147483648) = true := by simp [d4]
          by_cases d5 : l = 0
          · have g5 : (l == 0) = true := by simp [d5]
            have W : Hid (X = -9223372036854775808 ∧ ok = true) := by
              have r := HY.out (by have := SE.out; unfold W64; omega)
              exact ⟨by rw [r.1, SE.out, d4, d5]; rfl, r.2⟩
            clear d4 d5 d3
            clear SE HY HN
            go_wp2
            go_region
            go_wp2
            go_region
            go_wp2
            go_ret2
            exact ⟨by rw [W.out.1, W.out.2]; rfl, (Ab.refl w).drew.drew⟩
          · have g5 : (l == 0) = false := by simp [d5]
            have W : Hid (X = 0 ∧ ok = false) := HN.out (by have := SE.out; unfold W64; omega)
            clear d3 d4
            clear SE HY HN
            go_wp2
            go_region
            go_wp2
            go_region
            go_wp2
            go_ret2
            exact ⟨by rw [W.out.1, W.out.2]; rfl, (Ab.refl w).drew.drew⟩
        · have g4 : (h == 2147483648) = false := by simp [d4]
          have W : Hid (X = 0 ∧ ok = false) := HN.out (by have := SE.out; unfold W64; omega)
          clear d3
          clear SE HY HN
          go_wp2
          go_region
          go_wp2
          go_region
          go_wp2
          go_ret2
          exact ⟨by rw [W.out.1, W.out.2]; rfl, (Ab.refl w).drew.drew⟩
      · have g3 : decide (2147483648 ≤ h) = false := decide_eq_false d3
        have W : Hid (X = -(h * 4294967296 + l) ∧ ok = true) := by
          have r := HY.out (by have := SE.out; unfold W64; omega)
          exact ⟨by rw [r.1, SE.out], r.2⟩
        clear SE HY HN
        go_wp2
        go_region
        go_wp2
        go_region
        go_wp2
        go_ret2
        exact ⟨by rw [W.out.1, W.out.2]; rfl, (Ab.refl w).drew.drew⟩
  · have g1 : decide (ah < bh) = false := decide_eq_false q1
    by_cases q3 : ah = bh
    · have g3' : (ah == bh) = true := by simp [q3]
      by_cases q2 : al < bl
      · have g2 : decide (al < bl) = true := decide_eq_true q2
        have g2' : decide (bl < al) = false := decide_eq_false (by omega)
        have W : Hid (X = -(bl - al) ∧ ok = true) := by
          have r := HY.out (by unfold W64; omega)
          exact ⟨by rw [r.1]; omega, r.2⟩
        have g4 : decide ((2147483648 : Int) ≤ bh - ah) = false := decide_eq_false (by omega)
        have z : bh - ah = 0 := by omega
        clear q3
        clear HY HN
        go_wp2
        go_region
        go_wp2
        go_region
        go_wp2
        go_ret2
        exact ⟨by rw [W.out.1, W.out.2]; rfl, (Ab.refl w).drew.drew⟩
      · have g2 : decide (al < bl) = false := decide_eq_false q2
        have W : Hid (X = al - bl ∧ ok = true) := by
          have r := HY.out (by unfold W64; omega)
          exact ⟨by rw [r.1]; omega, r.2⟩
        have g4 : decide ((2147483648 : Int) ≤ ah - bh) = false := decide_eq_false (by omega)
        have z : ah - bh = 0 := by omega
        clear q3
        clear HY HN
        go_wp2
        go_region
        go_wp2
        go_region
        go_wp2
        go_ret2
        exact ⟨by rw [W.out.1, W.out.2]; rfl, (Ab.refl w).drew.drew⟩
    · have g3' : (ah == bh) = false := by simp [q3]
      by_cases q2 : al < bl
      · have g2 : decide (al < bl) = true := decide_eq_true q2
        obtain ⟨h, hh⟩ : ∃ h, ah - 1 - bh = h := ⟨_, rfl⟩
        obtain ⟨l, hl⟩ : ∃ l, al + 4294967296 - bl = l := ⟨_, rfl⟩
        have h0 : 0 ≤ h := by omega
        have h1 : h ≤ 9223372036854775808 := by omega
        have l0 : 0 ≤ l := by omega
        have l1 : l < 4294967296 := by omega
        have SE : Hid (S = (h * 4294967296 + l)) := by show _ = _; omega
        by_cases d3 : 2147483648 ≤ h
        · have g3 : decide (2147483648 ≤ h) = true := decide_eq_true d3
          have W : Hid (X = 0 ∧ ok = false) := HN.out (by have := SE.out; unfold W64; omega)
          clear d3
          clear SE HY HN
          go_wp2
          go_region
          go_wp2
          go_region
          go_wp2
          go_ret2
          exact ⟨by rw [W.out.1, W.out.2]; rfl, (Ab.refl w).drew.drew⟩
        · have g3 : decide (2147483648 ≤ h) = false := decide_eq_false d3
          have W : Hid (X = (h * 4294967296 + l) ∧ ok = true) := by
            have r := HY.out (by have := SE.out; unfold W64; omega)
            exact ⟨by rw [r.1, SE.out], r.2⟩
          clear SE HY HN
          go_wp2
          go_region
          go_wp2
          go_region
          go_wp2
          go_ret2
          exact ⟨by rw [W.out.1, W.out.2]; rfl, (Ab.refl w).drew.drew⟩
      · have g2 : decide (al < bl) = false := decide_eq_false q2
        obtain ⟨h, hh⟩ : ∃ h, ah - bh = h := ⟨_, rfl⟩
        obtain ⟨l, hl⟩ : ∃ l, al - bl = l := ⟨_, rfl⟩
        have h0 : 0 ≤ h := by omega
        have h1 : h ≤ 9223372036854775808 := by omega
        have l0 : 0 ≤ l := by omega
        have l1 : l < 4294967296 := by omega
        have SE : Hid (S = (h * 4294967296 + l)) := by show _ = _; omega
        by_cases d3 : 2147483648 ≤ h
        · have g3 : decide (2147483648 ≤ h) = true := decide_eq_true d3
          have W : Hid (X = 0 ∧ ok = false) := HN.out (by have := SE.out; unfold W64; omega)
          clear d3
          clear SE HY HN
          go_wp2
          go_region
          go_wp2
          go_region
          go_wp2
          go_ret2
          exact ⟨by rw [W.out.1, W.out.2]; rfl, (Ab.refl w).drew.drew⟩
        · have g3 : decide (2147483648 ≤ h) = false := decide_eq_false d3
          have W : Hid (X = (h * 4294967296 + l) ∧ ok = true) := by
            have r := HY.out (by have := SE.out; unfold W64; omega)
            exact ⟨by rw [r.1, SE.out], r.2⟩
          clear SE HY HN
          go_wp2
          go_region
          go_wp2
          go_region
          go_wp2
          go_ret2
          exact ⟨by rw [W.out.1, W.out.2]; rfl, (Ab.refl w).drew.drew⟩
/-- what a sum is -/
theorem value_at (b k : Nat) (S : Int) (w : World) (h : IsBig w b k S) (hk : k ≤ 2147483648) :
    (W64 S → Calls Tryd.prog 24 #[.pointer (some ⟨b, 0, none⟩)] w fun e w' => e = .returned (.tuple #[.int .i64 S, .bool true]) ∧ Below w.heap.size w w') ∧
    (¬ W64 S → Calls Tryd.prog 24 #[.pointer (some ⟨b, 0, none⟩)] w fun e w' => e = .returned (.tuple #[.int .i64 0, .bool false]) ∧ Below w.heap.size w w') := by
  obtain ⟨i0, i1, i2, i3, R, b0, b1, b2, b3, e⟩ := h
  constructor
  · intro y
    exact value_go b i0 i1 i2 i3 _ _ _ _ S S true w R (by omega) (by omega) (by omega) (by omega) (by omega) (by omega) (by omega) (by omega) rfl rfl rfl rfl (show _ = _ by omega) (fun _ => ⟨rfl, rfl⟩) (fun n => absurd y n)
  · intro y
    exact value_go b i0 i1 i2 i3 _ _ _ _ S 0 false w R (by omega) (by omega) (by omega) (by omega) (by omega) (by omega) (by omega) (by omega) rfl rfl rfl rfl (show _ = _ by omega) (fun n => absurd n y) (fun _ => ⟨rfl, rfl⟩)
end Ms
end Go.Proofs.YtpfndibgfkkcgaaDoor

namespace Go.Proofs.YtpfndibgfkkcgaaDoor
open Go.RowKit Go.Deep Cu
namespace Ms
open Sh
theorem IsBig.new (w : World) : IsBig (w.alloc (.cells #[.int .u64 0, .int .u64 0, .int .u64 0, .int .u64 0] 56)) w.heap.size 0 0 := ⟨0, 0, 0, 0, heap_alloc_new _ _, by omega, by omega, by omega, by omega, by omega⟩
set_option maxRecDepth 100000 in
set_option maxHeartbeats 8000000 in
theorem rtotal_go (pw : Option Addr) (lw cw : Nat) (W : Nat → Int) (pm : Option Addr) (lm cm : Nat) (M : Nat → Int) (S X E : Int) (ok : Bool) (w : World) (hl : lw + lm ≤ 2147483648) (hw : IsI w pw lw W) (hm : IsI w pm lm M) (HS : Hid (S = sumN W lw + sumN M lm))
    (VL : Hid (∀ b v, IsBig v b (lw + lm) S → Calls Tryd.prog 24 #[.pointer (some ⟨b, 0, none⟩)] v fun e w' => e = .returned (.tuple #[.int .i64 X, .bool ok]) ∧ Below v.heap.size v w'))
    (RE : Hid ((ok = true → E = 0) ∧ (ok = false → X = 0 ∧ E = 20))) :
    Calls Tryd.prog 11 #[.slice pw lw cw, .slice pm lm cm] w fun e w' => e = .returned (.tuple #[.int .i64 X, .int .i64 E]) ∧ Below w.heap.size w w' := by
  have HW := hid hw
  have HM := hid hm
  have HL := hid hl
  clear hw hm hl
  have B0 := hid (IsBig.new w)
  have A0 : Hid (Ab w (w.alloc (.cells #[.int .u64 0, .int .u64 0, .int .u64 0, .int .u64 0] 56))) := bl1 _ _
  obtain ⟨b, hb⟩ : ∃ b, w.heap.size = b := ⟨_, rfl⟩
  have LB : Hid (w.heap.size ≤ b) := Nat.le_of_eq hb
  rw [hb] at B0
  go_enter Tryd.func11, Tryd.ntmps11
  go_upto_region 2 with fail
  try rw [hb]
  generalize hV : World.alloc w _ = V at *
  clear hV hb
  go_wp2
  go_loopw [7] (fun iv wr => ∃ c : Nat, c ≤ lw ∧ iv = .int .i64 (c : Nat) ∧ Ab w wr ∧ IsBig wr b c (sumN W c)) (fun iv _ => lw - (intOf iv).toNat)
  case atStart => exact ⟨0, by omega, rfl, A0.out, B0.out⟩
  case round =>
    obtain ⟨c, hc, rfl, a1, b1⟩ := hrel
    have AR := hid a1
    have BR := hid b1
    clear a1 b1 A0 B0
    by_cases hcn : c < lw
    · have HC := hid hcn
      have hcI : (c : Int) < lw := by omega
      have hcB : (c : Int) ≤ 2147483648 := by have := HL.out; omega
      obtain ⟨b0, o0, rfl⟩ := HW.out.some0 (show 0 < lw by omega)
      obtain ⟨x, hx⟩ : ∃ x, W c = x := ⟨_, rfl⟩
      have at0 := (HW.out.below AR.out).at0 hcn
      rw [hx] at at0
      have xc := at0.2.2
      have CA := hid (badd_at b c _ x wr BR.out (by have := HL.out; omega) at0.1)
      have XE := hid hx
      clear at0 hx hcn hc
      go_wp2_with fail
      refine CA.out.mono ?_
      rintro e9 v1 ⟨rfl, a1, b1⟩
      have A1 := hid (Abo.ab a1 AR.out LB.out)
      have B1 := hid b1
      clear a1 b1 CA xc
      go_wp2
      exact ⟨⟨c + 1, by have := HC.out; omega, by simp, A1.out, by have h := B1.out; rw [← XE.out] at h; exact h⟩, by have := HC.out; simp [intOf]; omega⟩
    · have e6 : lw = c := by omega
      subst e6
      go_wp2
      go_loopw [8] (fun iv wr => ∃ c : Nat, c ≤ lm ∧ iv = .int .i64 (c : Nat) ∧ Ab w wr ∧ IsBig wr b (lw + c) (sumN W lw + sumN M c)) (fun iv _ => lm - (intOf iv).toNat)
      case atStart => exact ⟨0, by omega, rfl, AR.out, by have h := BR.out; rw [show sumN W lw + sumN M 0 = sumN W lw from Int.add_zero _]; exact h⟩
      case round =>
        obtain ⟨c, hc2, rfl, a1, b1⟩ := hrel
        have AQ := hid a1
        have BQ := hid b1
        clear a1 b1 AR BR
        by_cases hcn : c < lm
        · have HC := hid hcn
          have hcI : (c : Int) < lm := by omega
          have hcB : (c : Int) ≤ 2147483648 := by have := HL.out; omega
          obtain ⟨b0, o0, rfl⟩ := HM.out.some0 (show 0 < lm by omega)
          obtain ⟨x, hx⟩ : ∃ x, M c = x := ⟨_, rfl⟩
          have at0 := (HM.out.below AQ.out).at0 hcn
          rw [hx] at at0
          have xc := at0.2.2
          have CA := hid (badd_at b (lw + c) _ x wr BQ.out (by have := HL.out; omega) at0.1)
          have XE := hid hx
          clear at0 hx hcn hc2
          go_wp2_with fail
          refine CA.out.mono ?_
          rintro e9 v1 ⟨rfl, a1, b1⟩
          have A1 := hid (Abo.ab a1 AQ.out LB.out)
          have B1 := hid b1
          clear a1 b1 CA xc
          go_wp2
          refine ⟨⟨c + 1, by have := HC.out; omega, by simp, A1.out, ?_⟩, by have := HC.out; simp [intOf]; omega⟩
          have h := B1.out
          rw [← XE.out, Int.add_assoc] at h
          exact h
        · have e6 : lm = c := by omega
          subst e6
          have CV := hid (VL.out b wr (by rw [HS.out]; exact BQ.out))
          cases ok with
          | true =>
            have EE : Hid (E = 0) := RE.out.1 rfl
            go_wp2_with fail
            refine CV.out.mono ?_
            rintro e9 v2 ⟨rfl, b2⟩
            have A2 : Hid (Ab w v2) := AQ.out.trans b2
            clear b2 CV
            go_wp2
            go_ret2
            exact ⟨by rw [EE.out]; rfl, A2.out⟩
          | false =>
            have EE : Hid (X = 0 ∧ E = 20) := RE.out.2 rfl
            go_wp2_with fail
            refine CV.out.mono ?_
            rintro e9 v2 ⟨rfl, b2⟩
            have A2 : Hid (Ab w v2) := AQ.out.trans b2
            clear b2 CV
            go_wp2
            go_ret2
            exact ⟨by rw [EE.out.1, EE.out.2]; rfl, A2.out⟩
/-- what a total is, and its error -/
def tv (S : Int) : Int := if -9223372036854775808 ≤ S ∧ S ≤ 9223372036854775807 then S else 0
def te (S : Int) : Int := if -9223372036854775808 ≤ S ∧ S ≤ 9223372036854775807 then 0 else 20
theorem tv_y {S : Int} (c : W64 S) : tv S = S := if_pos c
theorem tv_n {S : Int} (c : ¬ W64 S) : tv S = 0 := if_neg c
theorem te_y {S : Int} (c : W64 S) : te S = 0 := if_pos c
theorem te_n {S : Int} (c : ¬ W64 S) : te S = 20 := if_neg c
theorem total_of (TC : TotalC) (pw : Option Addr) (lw cw : Nat) (W : Nat → Int) (pm : Option Addr) (lm cm : Nat) (M : Nat → Int) (S : Int) (w : World) (h1 : lw ≤ 17592186044416) (h2 : lm ≤ 17592186044416) (hw : IsI w pw lw W) (hm : IsI w pm lm M) (hS : sumN W lw + sumN M lm = S) :
    Calls Tryd.prog 10 #[.slice pw lw cw, .slice pm lm cm] w fun e w' => e = .returned (.tuple #[.int .i64 (tv S), .int .i64 (te S)]) ∧ Below w.heap.size w w' := by
  have h := TC pw lw cw W pm lm cm M w h1 h2 hw hm
  rw [hS] at h
  by_cases c : W64 S
  · rw [tv_y c, te_y c]
    exact h.1 c
  · rw [tv_n c, te_n c]
    exact h.2 c
theorem rtotal_at (pw : Option Addr) (lw cw : Nat) (W : Nat → Int) (pm : Option Addr) (lm cm : Nat) (M : Nat → Int) (w : World) (hl : lw + lm ≤ 2147483648) (hw : IsI w pw lw W) (hm : IsI w pm lm M) :
    Calls Tryd.prog 11 #[.slice pw lw cw, .slice pm lm cm] w fun e w' => e = .returned (.tuple #[.int .i64 (tv (sumN W lw + sumN M lm)), .int .i64 (te (sumN W lw + sumN M lm))]) ∧ Below w.heap.size w w' := by
  by_cases c : W64 (sumN W lw + sumN M lm)
  · refine rtotal_go pw lw cw W pm lm cm M _ _ _ true w hl hw hm rfl (fun b v i => ?_) ⟨fun _ => te_y c, fun h => absurd h (by simp)⟩
    rw [tv_y c]
    exact (value_at b _ _ v i hl).1 c
  · refine rtotal_go pw lw cw W pm lm cm M _ _ _ false w hl hw hm rfl (fun b v i => ?_) ⟨fun h => absurd h (by simp), fun _ => ⟨tv_n c, te_n c⟩⟩
    rw [tv_n c]
    exact (value_at b _ _ v i hl).2 c
set_option maxRecDepth 100000 in
set_option maxHeartbeats 8000000 in
theorem totals_at (MC : MoveC) (TC : TotalC) {pw : Option Addr} {lw cw : Nat} {W : Nat → Int} {pm : Option Addr} {lm cm : Nat} {M : Nat → Int} (w : World) (hFr : Fr w) (hw : IsI w pw lw W) (hm : IsI w pm lm M) (hl : lw + lm ≤ 2147483648) :
    Calls Tryd.prog 3 #[.slice pw lw cw, .slice pm lm cm] w fun e w' => e = .returned (.bool true) ∧ Below w.heap.size w w' := by
  have AW := hid (awake_at MC TC w hFr)
  obtain ⟨x, hx⟩ : ∃ x, tv (sumN W lw + sumN M lm) = x := ⟨_, rfl⟩
  obtain ⟨y, hy⟩ : ∃ x, te (sumN W lw + sumN M lm) = x := ⟨_, rfl⟩
  have T1 : Hid (∀ v, Ab w v → Calls Tryd.prog 10 #[.slice pw lw cw, .slice pm lm cm] v fun e w' => e = .returned (.tuple #[.int .i64 x, .int .i64 y]) ∧ Below v.heap.size v w') := fun v a => by
    have h := total_of TC pw lw cw W pm lm cm M _ v (by omega) (by omega) (hw.below a) (hm.below a) rfl
    rwa [hx, hy] at h
  have T2 : Hid (∀ v, Ab w v → Calls Tryd.prog 10 #[.slice pm lm cm, .slice pw lw cw] v fun e w' => e = .returned (.tuple #[.int .i64 x, .int .i64 y]) ∧ Below v.heap.size v w') := fun v a => by
    have h := total_of TC pm lm cm M pw lw cw W _ v (by omega) (by omega) (hm.below a) (hw.below a) (Int.add_comm _ _)
    rwa [hx, hy] at h
  have T3 : Hid (∀ v, Ab w v → Calls Tryd.prog 11 #[.slice pw lw cw, .slice pm lm cm] v fun e w' => e = .returned (.tuple #[.int .i64 x, .int .i64 y]) ∧ Below v.heap.size v w') := fun v a => by
    have h := rtotal_at pw lw cw W pm lm cm M v hl (hw.below a) (hm.below a)
    rwa [hx, hy] at h
  clear MC TC hw hm hFr hx hy
  have d1 : (x == x) = true := by simp
  have d2 : (y == y) = true := by simp
  go_enter Tryd.func3, Tryd.ntmps3
  go_wp2_with fail
  refine AW.out.mono ?_
  rintro e9 v0 ⟨rfl, b0⟩
  have A0 : Hid (Ab w v0) := b0
  clear b0
  go_wp2_with fail
  refine (T1.out _ A0.out).mono ?_
  rintro e9 v1 ⟨rfl, b1⟩
  have A1 : Hid (Ab w v1) := A0.out.trans b1
  clear b1
  go_wp2_with fail
  refine (T3.out _ A1.out).mono ?_
  rintro e9 v2 ⟨rfl, b2⟩
  have A2 : Hid (Ab w v2) := A1.out.trans b2
  clear b2
  go_wp2_with fail
  refine (T2.out _ A2.out).mono ?_
  rintro e9 v3 ⟨rfl, b3⟩
  have A3 : Hid (Ab w v3) := A2.out.trans b3
  clear b3
  go_wp2
  go_ret
  exact ⟨rfl, A3.out⟩
end Ms
end Go.Proofs.YtpfndibgfkkcgaaDoor

namespace Go.Proofs.YtpfndibgfkkcgaaDoor
open Go.RowKit Go.Deep Cu
namespace Ms
open Sh
/-- the lower word -/
def loW (x : Int) : Int := x % 18446744073709551616
/-- the upper word -/
def hiW (x : Int) : Int := x / 18446744073709551616 % 18446744073709551616
/-- a number as a word -/
def wd (n : Int) : Int := if n < 0 then n + 18446744073709551616 else n
/-- its sign as a word -/
def sgW (n : Int) : Int := if n < 0 then 18446744073709551615 else 0
theorem loW_in (x : Int) : 0 ≤ loW x ∧ loW x < 18446744073709551616 := by unfold loW; omega
theorem hiW_in (x : Int) : 0 ≤ hiW x ∧ hiW x < 18446744073709551616 := by unfold hiW; omega
theorem wd_in {n : Int} (h : W64 n) : 0 ≤ wd n ∧ wd n < 18446744073709551616 := by
  unfold W64 at h; unfold wd; split <;> omega
theorem sgW_in (n : Int) : 0 ≤ sgW n ∧ sgW n < 18446744073709551616 := by unfold sgW; split <;> omega
theorem wd_wrap {n : Int} (h : W64 n) : IntKind.u64.wrap n = wd n := by
  unfold W64 at h; unfold wd
  simp [IntKind.wrap, IntKind.bits, IntKind.signed]
  split <;> omega
theorem plus_low {x n : Int} (_h : W64 n) : (loW x + wd n + 0) % 18446744073709551616 = loW (x + n) := by
  unfold loW wd; split <;> omega
theorem plus_high {x n : Int} (_h : W64 n) : (hiW x + sgW n + (loW x + wd n + 0) / 18446744073709551616) % 18446744073709551616 = hiW (x + n) := by
  unfold hiW loW wd sgW; split <;> omega
theorem plus_carry {x n : Int} (h : W64 n) : 0 ≤ (loW x + wd n + 0) / 18446744073709551616 ∧ (loW x + wd n + 0) / 18446744073709551616 ≤ 1 := by
  have := loW_in x
  have := wd_in h
  omega
/-- what is borrowed -/
def bo (a b : Int) : Int := if a < b then 1 else 0
theorem bo_in (a b : Int) : 0 ≤ bo a b ∧ bo a b ≤ 1 := by unfold bo; split <;> omega
theorem minus_low {x n : Int} (_h : W64 n) : (loW x + 18446744073709551616 - wd n - 0) % 18446744073709551616 = loW (x - n) := by
  unfold loW wd; split <;> omega
theorem minus_high {x n : Int} (h : W64 n) : (hiW x + 18446744073709551616 - sgW n - bo (loW x) (wd n + 0)) % 18446744073709551616 = hiW (x - n) := by
  unfold W64 at h; unfold hiW loW wd sgW bo
  by_cases c : n < 0
  · rw [if_pos c, if_pos c]; split <;> omega
  · rw [if_neg c, if_neg c]; split <;> omega
/-- the lower word as a number -/
def sh (x : Int) : Int := if loW x < 9223372036854775808 then loW x else loW x - 18446744073709551616
theorem sh_in (x : Int) : W64 (sh x) := by
  have := loW_in x
  unfold W64 sh; split <;> omega
theorem sh_wrap (x : Int) : IntKind.i64.wrap (loW x) = sh x := by
  have := loW_in x
  unfold sh
  generalize loW x = y at *
  simp [IntKind.wrap, IntKind.bits, IntKind.signed]
  split <;> omega
theorem sh_of {x : Int} (h : W64 x) : sh x = x ∧ hiW x = sgW (sh x) := by
  unfold W64 at h
  have e : sh x = x := by unfold sh loW; split <;> omega
  refine ⟨e, ?_⟩
  rw [e]
  unfold hiW sgW; split <;> omega
theorem sh_no {x : Int} (h : ¬ W64 x) (a : -170141183460469231731687303715884105728 ≤ x) (b : x < 170141183460469231731687303715884105728) : hiW x ≠ sgW (sh x) := by
  unfold W64 at h
  unfold hiW sgW sh loW
  intro e
  by_cases c : x % 18446744073709551616 < 9223372036854775808
  · rw [if_pos c, if_neg (by omega)] at e; omega
  · rw [if_neg c, if_pos (by omega)] at e; omega
theorem three_a (s : String) (x y c : Nat) (hc1 : c ≤ 1) (w : World) : (Extern.MathBitsCarry.three s #[.int .u64 x, .int .u64 y, .int .u64 c]).run Tryd.prog w = .ok (x, y, c) w := by
  have h : c = 0 ∨ c = 1 := by omega
  rcases h with rfl | rfl <;> rfl
theorem run_add (x y c s o : Int) (hx : 0 ≤ x) (hy : 0 ≤ y) (hc : 0 ≤ c) (hc1 : c ≤ 1) (hs : (x + y + c) % 18446744073709551616 = s) (ho : (x + y + c) / 18446744073709551616 = o) (w : World) :
    (callFunc 37 #[.int .u64 x, .int .u64 y, .int .u64 c]).run Tryd.prog w = .ok (.value (.tuple #[.int .u64 s, .int .u64 o])) w := by
  rw [run_callFunc_extern (e := fun args => do
    let (x, y, c) ← Extern.MathBitsCarry.three "Add64" args
    pure (Extern.MathBitsCarry.pair ((x + y + c) % Extern.MathBitsCarry.m64) ((x + y + c) / Extern.MathBitsCarry.m64))) Tryd.func37 (by kernel_rfl) (by kernel_rfl) (by kernel_rfl) (by kernel_rfl)]
  obtain ⟨x, rfl⟩ : ∃ n : Nat, x = n := ⟨x.toNat, by omega⟩
  obtain ⟨y, rfl⟩ : ∃ n : Nat, y = n := ⟨y.toNat, by omega⟩
  obtain ⟨c, rfl⟩ : ∃ n : Nat, c = n := ⟨c.toNat, by omega⟩
  have e : Extern.MathBitsCarry.m64 = 18446744073709551616 := by decide
  have hp : Extern.MathBitsCarry.pair ((x + y + c) % Extern.MathBitsCarry.m64) ((x + y + c) / Extern.MathBitsCarry.m64) = .tuple #[.int .u64 s, .int .u64 o] := by
    unfold Extern.MathBitsCarry.pair
    rw [e, Int.ofNat_eq_natCast, Int.ofNat_eq_natCast]
    have h1 : (((x + y + c) % 18446744073709551616 : Nat) : Int) = s := by omega
    have h2 : (((x + y + c) / 18446744073709551616 : Nat) : Int) = o := by omega
    rw [h1, h2]
  have h4 := three_a "Add64" x y c (by omega) w
  rw [Sem.run_bind, h4, Result.andThen_ok]
  show Result.andThen (Sem.run Tryd.prog (pure (Extern.MathBitsCarry.pair ((x + y + c) % Extern.MathBitsCarry.m64) ((x + y + c) / Extern.MathBitsCarry.m64))) w) _ = _
  rw [hp]; rfl
theorem run_sub (x y c s o : Int) (hx : 0 ≤ x) (hy : 0 ≤ y) (hy1 : y < 18446744073709551616) (hc : 0 ≤ c) (hc1 : c ≤ 1) (hs : (x + 18446744073709551616 - y - c) % 18446744073709551616 = s) (ho : bo x (y + c) = o) (w : World) :
    (callFunc 45 #[.int .u64 x, .int .u64 y, .int .u64 c]).run Tryd.prog w = .ok (.value (.tuple #[.int .u64 s, .int .u64 o])) w := by
  rw [run_callFunc_extern (e := fun args => do
    let (x, y, b) ← Extern.MathBitsCarry.three "Sub64" args
    pure (Extern.MathBitsCarry.pair ((x + Extern.MathBitsCarry.m64 - y - b) % Extern.MathBitsCarry.m64) (if x < y + b then 1 else 0))) Tryd.func45 (by kernel_rfl) (by kernel_rfl) (by kernel_rfl) (by kernel_rfl)]
  obtain ⟨x, rfl⟩ : ∃ n : Nat, x = n := ⟨x.toNat, by omega⟩
  obtain ⟨y, rfl⟩ : ∃ n : Nat, y = n := ⟨y.toNat, by omega⟩
  obtain ⟨c, rfl⟩ : ∃ n : Nat, c = n := ⟨c.toNat, by omega⟩
  have e : Extern.MathBitsCarry.m64 = 18446744073709551616 := by decide
  have hp : Extern.MathBitsCarry.pair ((x + Extern.MathBitsCarry.m64 - y - c) % Extern.MathBitsCarry.m64) (if x < y + c then 1 else 0) = .tuple #[.int .u64 s, .int .u64 o] := by
    unfold Extern.MathBitsCarry.pair
    rw [e, Int.ofNat_eq_natCast, Int.ofNat_eq_natCast]
    have h1 : (((x + 18446744073709551616 - y - c) % 18446744073709551616 : Nat) : Int) = s := by omega
    have h2 : (((if x < y + c then 1 else 0) : Nat) : Int) = o := by
      unfold bo at ho
      by_cases d : x < y + c
      · rw [if_pos d]; rw [if_pos (by omega)] at ho; exact ho
      · rw [if_neg d]; rw [if_neg (by omega)] at ho; exact ho
    rw [h1, h2]
  have h4 := three_a "Sub64" x y c (by omega) w
  rw [Sem.run_bind, h4, Result.andThen_ok]
  show Result.andThen (Sem.run Tryd.prog (pure (Extern.MathBitsCarry.pair ((x + Extern.MathBitsCarry.m64 - y - c) % Extern.MathBitsCarry.m64) (if x < y + c then 1 else 0))) w) _ = _
  rw [hp]; rfl
/-- flows below a number -/
def upF (k : Nat) (F : Nat → Int) (i : Nat) : Int := if i < k then F i else 0
theorem mv_nil {n c : Nat} (W F : Nat → Int) (hn : 1 ≤ n) (hc : c < 6 * n * n) : mv n W (upF 0 F) c = W c := by
  have h := mv_back n W (fun _ => 0) c
  have g := mv_two n W (fun _ => 0) (fun i => -(fun _ => (0 : Int)) i) c
  rw [h] at g
  rw [g]
  exact mv_congr hn hc rfl (fun i _ => by simp [upF])
/-- one flow more -/
theorem mv_up {n k c : Nat} (W F : Nat → Int) (hn : 1 ≤ n) (hk : k < 12 * n * n) (hc : c < 6 * n * n) : mv n W (upF (k + 1) F) c = if c = edT n k / 4 then mv n W (upF k F) c - F k else if c = mt n (edT n k) / 4 then mv n W (upF k F) c + F k else mv n W (upF k F) c := by
  rw [← mv_one (q := F k) (mv n W (upF k F)) hn hk hc, mv_two]
  refine mv_congr hn hc rfl (fun i _ => ?_)
  unfold upF oneF
  by_cases a : i < k
  · rw [if_pos (by omega), if_pos a, if_neg (by omega)]; omega
  · by_cases b : i = k
    · subst b; rw [if_pos (by omega), if_neg (by omega), if_pos rfl]; omega
    · rw [if_neg (by omega), if_neg a, if_neg b]; omega
theorem mv_all {n c : Nat} (W F : Nat → Int) (hn : 1 ≤ n) (hc : c < 6 * n * n) : mv n W (upF (12 * n * n) F) c = mv n W F c :=
  mv_congr hn hc rfl (fun i hi => by unfold upF; rw [if_pos hi])
theorem sum_in {f : Nat → Int} : ∀ {l : Nat}, (∀ k, k < l → W64 (f k)) → -(9223372036854775808 * (l : Int)) ≤ sumN f l ∧ sumN f l ≤ 9223372036854775807 * (l : Int)
  | 0, _ => by unfold sumN; omega
  | l + 1, h => by
    have i := sum_in (l := l) (fun k hk => h k (by omega))
    have j := h l (by omega)
    unfold W64 at j
    show _ ≤ sumN f l + f l ∧ sumN f l + f l ≤ _
    omega
end Ms
end Go.Proofs.YtpfndibgfkkcgaaDoor
