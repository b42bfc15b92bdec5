/-
  Rains: what is to be answered; that the program lives (layer 18).
-/
import Derived.Test.YthcgbjkbnbeobaaRnA
import Derived.Test.YthcgbjkbnbeobaaYf
namespace Go.Proofs.Ythcgbjkbnbeobaa
open Go.RowKit Go.Deep
namespace Rn
open Sh
set_option maxRecDepth 100000 in
set_option maxHeartbeats 4000000 in
theorem same18_at (pa pb : Option Addr) (len ca cb : Nat) (xs : Nat → Int) (w : World) (hl : len ≤ 281474976710656) (hA : IsI w pa len xs) (hB : IsI w pb len xs) :
    Calls Try.prog 14 #[.slice pa len ca, .slice pb len cb] w fun e w' => e = .returned (.bool true) ∧ Below w.heap.size w w' := by
  have HA := hid hA
  have HB := hid hB
  have HL := hid hl
  clear hA hB hl
  go_enter Try.func14, Try.ntmps14
  go_wp2
  go_loopw [5] (fun iv wr => ∃ c : Nat, c ≤ len ∧ iv = .int .i64 (c : Nat) ∧ Ab w wr) (fun iv _ => len - (intOf iv).toNat)
  case atStart => exact ⟨0, by omega, rfl, Ab.refl w⟩
  case round =>
    obtain ⟨c, hc, rfl, ar⟩ := hrel
    have AR := hid ar
    clear ar
    by_cases h : c < len
    · have HC := hid h
      obtain ⟨x, hx⟩ : ∃ x, xs c = x := ⟨_, rfl⟩
      obtain ⟨-, b1, o1, e1, l1, c1⟩ := HA.out c h
      obtain ⟨-, b2, o2, e2, l2, c2⟩ := HB.out c h
      rw [hx] at c1 c2
      have C1 := hid c1
      have C2 := hid c2
      have L1 := hid l1
      have L2 := hid l2
      have hcI : (c : Int) < len := by omega
      have hcB : (c : Int) ≤ 281474976710656 := by have := HL.out; omega
      clear c1 c2 l1 l2 hx h
      subst e1 e2
      go_upto_region 6 with fail
      obtain ⟨UU, E, hF1, hF2⟩ := cls wr
      have HU := hid hF2
      have HU1 := hid hF1
      have x1 : ∀ u, (E u).cell? ⟨b1, o1 + c, none⟩ = some (.int .i64 x) := fun u => (Below.cell (AR.out.trans (hF1 u)) L1.out).trans C1.out
      have x2 : ∀ u, (E u).cell? ⟨b2, o2 + c, none⟩ = some (.int .i64 x) := fun u => (Below.cell (AR.out.trans (hF1 u)) L2.out).trans C2.out
      have DD0 := HU.out _ (Ab.refl wr).drew
      clear hF1 hF2
      refine region_cls E (by kernel_rfl) (by kernel_rfl) DD0 ?_
      repeat (go_big_quiet_step (with_reducible rfl))
      refine wpQuiet_nil ?_
      intro z hwz
      obtain ⟨u0, hu⟩ := hwz
      have AZ : Hid (Ab w z) := by rw [hu]; exact AR.out.trans (HU1.out u0)
      clear hu u0
      clear HU HU1 DD0 x1 x2
      clear E UU
      go_wp2
      go_roundw
      case rel => exact ⟨c + 1, by have := HC.out; omega, by simp, AZ.out⟩
      case measure => simp [intOf]; have := HC.out; omega
    · have e : len = c := by omega
      subst e
      go_wp2
      go_ret
      exact ⟨rfl, AR.out⟩
/-- a rain's four numbers are of 64 bits -/
def W4 (r : Int × Int × Int × Int) : Prop := Sh.W64 r.1 ∧ Sh.W64 r.2.1 ∧ Sh.W64 r.2.2.1 ∧ Sh.W64 r.2.2.2
/-- a list of rains, as it lies -/
def IsRn (w : World) (p : Option Addr) (n : Nat) (R : Nat → Int × Int × Int × Int) : Prop :=
  ∀ k, k < n → W4 (R k) ∧ ∃ b o, p = some ⟨b, o, none⟩ ∧ b < w.heap.size ∧ w.cell? ⟨b, o + k * 4, none⟩ = some (.int .i64 (R k).1) ∧ w.cell? ⟨b, o + k * 4 + 1, none⟩ = some (.int .i64 (R k).2.1) ∧ w.cell? ⟨b, o + k * 4 + 2, none⟩ = some (.int .i64 (R k).2.2.1) ∧ w.cell? ⟨b, o + k * 4 + 3, none⟩ = some (.int .i64 (R k).2.2.2)
theorem IsRn.below {w w' : World} {p : Option Addr} {n : Nat} {R : Nat → Int × Int × Int × Int} (h : IsRn w p n R) (hb : Below w.heap.size w w') : IsRn w' p n R := fun k hk => by
  obtain ⟨h1, b, o, e, l, c0, c1, c2, c3⟩ := h k hk
  exact ⟨h1, b, o, e, Nat.lt_of_lt_of_le l hb.size, (hb.cell (p := ⟨b, _, none⟩) l).trans c0, (hb.cell (p := ⟨b, _, none⟩) l).trans c1, (hb.cell (p := ⟨b, _, none⟩) l).trans c2, (hb.cell (p := ⟨b, _, none⟩) l).trans c3⟩
theorem IsRn.nil (w : World) (p : Option Addr) (R : Nat → Int × Int × Int × Int) : IsRn w p 0 R := fun k hk => absurd hk (Nat.not_lt_zero k)
theorem IsRn.some0 {w : World} {p : Option Addr} {n : Nat} {R : Nat → Int × Int × Int × Int} (h : IsRn w p n R) (h0 : 0 < n) : ∃ b o, p = some ⟨b, o, none⟩ := by
  obtain ⟨_, b, o, e, _⟩ := h 0 h0
  exact ⟨b, o, e⟩
theorem IsRn.at0 {w : World} {b o n : Nat} {R : Nat → Int × Int × Int × Int} (h : IsRn w (some ⟨b, o, none⟩) n R) {k : Nat} (hk : k < n) : W4 (R k) ∧ b < w.heap.size ∧ w.cell? ⟨b, o + k * 4, none⟩ = some (.int .i64 (R k).1) ∧ w.cell? ⟨b, o + k * 4 + 1, none⟩ = some (.int .i64 (R k).2.1) ∧ w.cell? ⟨b, o + k * 4 + 2, none⟩ = some (.int .i64 (R k).2.2.1) ∧ w.cell? ⟨b, o + k * 4 + 3, none⟩ = some (.int .i64 (R k).2.2.2) := by
  obtain ⟨h1, b', o', e, l, h2⟩ := h k hk
  cases e
  exact ⟨h1, l, h2⟩
/-- whether a rain can be, in so many cells -/
def vB (n : Int) (r : Int × Int × Int × Int) : Bool := decide (0 ≤ r.1) && decide (r.1 < n) && decide (-4503599627370496 ≤ r.2.1) && decide (r.2.1 ≤ 4503599627370496) && decide (0 ≤ r.2.2.1) && decide (r.2.2.1 ≤ r.2.2.2)
theorem vB_iff {n : Nat} {r : Int × Int × Int × Int} : vB (n : Int) r = true ↔ okR n r := by
  unfold vB okR
  simp only [Bool.and_eq_true, decide_eq_true_eq]
  constructor
  · rintro ⟨⟨⟨⟨⟨a, b⟩, c⟩, d⟩, e⟩, f⟩
    exact ⟨a, b, c, d, e, f⟩
  · rintro ⟨a, b, c, d, e, f⟩
    exact ⟨⟨⟨⟨⟨a, b⟩, c⟩, d⟩, e⟩, f⟩
/-- what Valid is to answer -/
def ValidC : Prop := ∀ (n : Int) (r : Int × Int × Int × Int) (w : World), Sh.W64 n → W4 r → Calls Try.prog 10 #[.int .i64 n, .agg #[.int .i64 r.1, .int .i64 r.2.1, .int .i64 r.2.2.1, .int .i64 r.2.2.2]] w fun e w' => e = .returned (.bool (vB n r)) ∧ Below w.heap.size w w'
/-- what Fall is to answer -/
def FallC : Prop := ∀ (pw : Option Addr) (lw cw : Nat) (W : Nat → Int) (s : Int) (pr : Option Addr) (lr cr : Nat) (R : Nat → Int × Int × Int × Int) (st : Int) (w : World), Sh.W64 s → Sh.W64 st → lw ≤ 17592186044416 → lr ≤ 17592186044416 → IsI w pw lw W → IsRn w pr lr R →
    (good18 lw W s lr R st → Calls Try.prog 12 #[.slice pw lw cw, .int .i64 s, .slice pr lr cr, .int .i64 st] w fun e w' => ∃ v, e = .returned (.tuple #[v, .int .i64 (rnN st R (W, s) lr).2, .int .i64 0]) ∧ Below w.heap.size w w' ∧ Own w.heap.size v ((List.range lw).map (rnN st R (W, s) lr).1) w') ∧
    (¬ good18 lw W s lr R st → Calls Try.prog 12 #[.slice pw lw cw, .int .i64 s, .slice pr lr cr, .int .i64 st] w fun e w' => e = .returned (.tuple #[.slice none 0 0, .int .i64 0, .int .i64 1]) ∧ Below w.heap.size w w')
theorem own_rn {lw lr B : Nat} {W : Nat → Int} {s st : Int} {R : Nat → Int × Int × Int × Int} {v : Value} {w : World} (g : good18 lw W s lr R st) (o : Own B v ((List.range lw).map (rnN st R (W, s) lr).1) w) : ∃ a0 cap, v = .slice a0 lw cap ∧ IsI w a0 lw (rnN st R (W, s) lr).1 := by
  have k := good18_ok g
  obtain ⟨a0, cap, e, i⟩ := own_in o (fun x hx => by
    obtain ⟨j, hj, rfl⟩ := List.mem_map.1 hx
    have := k.1 j (List.mem_range.1 hj)
    unfold Sh.W64
    omega)
  rw [List.length_map, List.length_range] at e i
  exact ⟨a0, cap, e, i.congr (fun q hq => by simp [List.getD, hq])⟩
def awW (i : Nat) : Int := if i = 0 then 1 else 2
def awR (i : Nat) : Int × Int × Int × Int := if i = 0 then (0, 4, 0, 5) else (1, 4, 0, 5)
def awQ (i : Nat) : Int × Int × Int × Int := if i = 0 then (1, -5, 0, 1) else (0, 1, 0, 1)
theorem awR_ok : (rnN 0 awR (awW, 3) 2).1 0 = 4 ∧ (rnN 0 awR (awW, 3) 2).1 1 = 2 ∧ (rnN 0 awR (awW, 3) 2).2 = 0 := by decide
theorem awQ_ok : (rnN 0 awQ (awW, 0) 2).1 0 = 2 ∧ (rnN 0 awQ (awW, 0) 2).1 1 = 0 ∧ (rnN 0 awQ (awW, 0) 2).2 = 1 := by decide
theorem two_k {k : Nat} (h : k < 2) : k = 0 ∨ k = 1 := by omega
theorem awR_good : good18 2 awW 3 2 awR 0 := by
  refine ⟨by decide, by decide, by decide, fun i hi => ?_, fun k hk => ?_⟩
  · rcases two_k hi with rfl | rfl <;> decide
  · rcases two_k hk with rfl | rfl <;> (unfold okR; decide)
theorem awQ_good : good18 2 awW 0 2 awQ 0 := by
  refine ⟨by decide, by decide, by decide, fun i hi => ?_, fun k hk => ?_⟩
  · rcases two_k hi with rfl | rfl <;> decide
  · rcases two_k hk with rfl | rfl <;> (unfold okR; decide)
theorem two_in18 (w : World) (a b : Int) (ha : Sh.W64 a) (hb : Sh.W64 b) {f : Nat → Int} (e0 : f 0 = a) (e1 : f 1 = b) : IsI (w.alloc (.cells #[.int .i64 a, .int .i64 b] 2)) (some ⟨w.heap.size, 0, none⟩) 2 f := by
  have h := heap_alloc_new w (.cells #[.int .i64 a, .int .i64 b] 2)
  intro k hk
  match k, hk with
  | 0, _ => exact ⟨by rw [e0]; exact ha, _, 0, rfl, lt_of_block h, by rw [e0]; exact cell_of_row _ _ 0 _ _ _ h⟩
  | 1, _ => exact ⟨by rw [e1]; exact hb, _, 0, rfl, lt_of_block h, by rw [e1]; exact cell_of_row _ _ 1 _ _ _ h⟩
theorem two_rn (w : World) (a b : Int × Int × Int × Int) (ha : W4 a) (hb : W4 b) {R : Nat → Int × Int × Int × Int} (e0 : R 0 = a) (e1 : R 1 = b) : IsRn (w.alloc (.cells #[.int .i64 a.1, .int .i64 a.2.1, .int .i64 a.2.2.1, .int .i64 a.2.2.2, .int .i64 b.1, .int .i64 b.2.1, .int .i64 b.2.2.1, .int .i64 b.2.2.2] 29)) (some ⟨w.heap.size, 0, none⟩) 2 R := by
  have h := heap_alloc_new w (.cells #[.int .i64 a.1, .int .i64 a.2.1, .int .i64 a.2.2.1, .int .i64 a.2.2.2, .int .i64 b.1, .int .i64 b.2.1, .int .i64 b.2.2.1, .int .i64 b.2.2.2] 29)
  intro k hk
  match k, hk with
  | 0, _ => rw [e0]; exact ⟨ha, _, 0, rfl, lt_of_block h, cell_of_row _ _ 0 _ _ _ h, cell_of_row _ _ 1 _ _ _ h, cell_of_row _ _ 2 _ _ _ h, cell_of_row _ _ 3 _ _ _ h⟩
  | 1, _ => rw [e1]; exact ⟨hb, _, 0, rfl, lt_of_block h, cell_of_row _ _ 4 _ _ _ h, cell_of_row _ _ 5 _ _ _ h, cell_of_row _ _ 6 _ _ _ h, cell_of_row _ _ 7 _ _ _ h⟩
end Rn
end Go.Proofs.Ythcgbjkbnbeobaa
