/-
  Part against the document's answer, of a list of rows: the walk, of whatever program keeps to what is to be answered (layer 14).
-/
import Derived.Test.YtpbidcjfnkmddaaUi
import Derived.Test.YtpbidcjfnkmddaaUh
namespace Go.Proofs.Ytpbidcjfnkmddaa
open Go.RowKit Go.Deep
namespace Sh
/-- three numbers from there on -/
def ThreeAt (w : World) (b o : Nat) : Prop := ∃ (p0 p1 p2 : Int), (w.cell? ⟨b, o, none⟩ = some (.int .i64 p0) ∧ w.cell? ⟨b, o + 1, none⟩ = some (.int .i64 p1) ∧ w.cell? ⟨b, o + 2, none⟩ = some (.int .i64 p2)) ∧ W64 p0 ∧ W64 p1 ∧ W64 p2
set_option maxRecDepth 100000 in
set_option maxHeartbeats 8000000 in
theorem parts_go (PC : PartC) (CC : CutC) (b off len cap : Nat) (w : World) (hl : len ≤ 65536) (hb : b < w.heap.size) (hc : ∀ k, k < len → ThreeAt w b (off + k * 3)) :
    Calls Try.prog 3 #[.slice (some ⟨b, off, none⟩) len cap] w fun e w' => e = .returned (.bool true) ∧ Below w.heap.size w w' := by
  have LV := hid (awake_at PC CC w)
  have HC := hid hc
  have HB := hid hb
  have HP := hid PC
  have lI : decide ((65536 : Int) < (len : Int)) = false := decide_eq_false (by omega)
  have HL := hid hl
  clear hc hb PC CC hl
  go_enter Try.func3, Try.ntmps3
  go_wp2_with fail
  refine LV.out.mono ?_
  rintro e w1 ⟨rfl, b1⟩
  have A1 : Hid (Ab w w1) := b1
  clear b1
  go_wp2
  go_loopw [3, 4] (fun ov iv wr => ∃ k : Nat, k ≤ len ∧ ov = .bool true ∧ iv = .int .i64 (k : Nat) ∧ Ab w wr) (fun _ iv _ => len - (intOf iv).toNat)
  case atStart => exact ⟨0, by omega, rfl, rfl, A1.out⟩
  case round =>
    obtain ⟨k, hk, rfl, rfl, A⟩ := hrel
    have AR := hid A
    clear A
    by_cases hkl : k < len
    · have hk' : (k : Int) < len := by omega
      have hkB : (k : Int) ≤ 65536 := by have := HL.out; omega
      obtain ⟨p0, p1, p2, ⟨c0, c1, c2⟩, h0, h1, h2⟩ := HC.out k hkl
      have HK := hid hkl
      have W0 := hid h0
      have W1 := hid h1
      have W2 := hid h2
      have y0 := (Below.cell AR.out HB.out).trans c0
      have y1 := (Below.cell AR.out HB.out).trans c1
      have y2 := (Below.cell AR.out HB.out).trans c2
      have AV : Hid (Ab wr (wr.alloc (.cells #[.int .i64 p0, .int .i64 p1, .int .i64 p2] 25))) := bl1 _ _
      have GT : Hid ((wr.alloc (.cells #[.int .i64 p0, .int .i64 p1, .int .i64 p2] 25)).heap[wr.heap.size]? = some (.cells #[.int .i64 p0, .int .i64 p1, .int .i64 p2] 25)) := heap_alloc_new _ _
      clear h0 h1 h2 c0 c1 c2 hkl
      go_upto_region 8 with fail
      clear y0 y1 y2
      generalize hV : World.alloc wr _ = V at *
      obtain ⟨gt, hgt⟩ : ∃ g, wr.heap.size = g := ⟨_, rfl⟩
      rw [hgt] at GT
      rw [hgt]
      clear hV hgt
      have ee : ((part p0 p1 p2 : Int) == part p0 p1 p2) = true := by simp
      obtain ⟨pv, hpv⟩ : ∃ x, part p0 p1 p2 = x := ⟨_, rfl⟩
      obtain ⟨UU, E, hF1, hF2⟩ := cls V
      have HU := hid hF2
      have HU1 := hid hF1
      have HX : Hid (∀ u, Ab wr (E u)) := fun u => Ab.trans AV.out (hF1 u)
      have q0 : ∀ u, (E u).cell? ⟨gt, 0, none⟩ = some (.int .i64 p0) := fun u => cell_of_row _ _ 0 _ _ _ ((hF1 u).heap GT.out)
      have q1 : ∀ u, (E u).cell? ⟨gt, 1, none⟩ = some (.int .i64 p1) := fun u => cell_of_row _ _ 1 _ _ _ ((hF1 u).heap GT.out)
      have q2 : ∀ u, (E u).cell? ⟨gt, 2, none⟩ = some (.int .i64 p2) := fun u => cell_of_row _ _ 2 _ _ _ ((hF1 u).heap GT.out)
      have DD0 := HU.out _ (Ab.refl V).drew
      clear hF1 hF2
      refine region_cls E (by kernel_rfl) (by kernel_rfl) DD0 ?_
      repeat (go_big_quiet_step (first
        | (with_reducible rfl)
        | (go_at_call 7; exact calls_cls HU HU1 (HP.out p0 p1 p2 _ W0.out W1.out W2.out))
        | (go_at_call 8; exact calls_cls HU HU1 ((rpart_at p0 p1 p2 _ W0.out W1.out W2.out).mono fun _ _ h => ⟨h.1, by obtain ⟨_, rfl⟩ := h; exact Below.refl _ _⟩))))
      refine wpQuiet_nil ?_
      intro z hwz
      obtain ⟨u0, hu⟩ := hwz
      have AZ : Hid (Ab wr z) := by rw [hu]; exact HX.out u0
      clear hu u0
      clear HU HU1 HX DD0 q0 q1 q2
      clear E UU
      go_wp2
      exact ⟨⟨k + 1, by have := HK.out; omega, by simp, by simp, AR.out.trans AZ.out⟩, by have := HK.out; simp [intOf]; omega⟩
    · have e6 : len = k := by omega
      subst e6
      go_wp2
      go_ret
      exact ⟨rfl, AR.out⟩
set_option maxRecDepth 100000 in
theorem parts_nil (PC : PartC) (CC : CutC) (p : Option Addr) (cap : Nat) (w : World) :
    Calls Try.prog 3 #[.slice p 0 cap] w fun e w' => e = .returned (.bool true) ∧ Below w.heap.size w w' := by
  have LV := hid (awake_at PC CC w)
  clear PC CC
  go_enter Try.func3, Try.ntmps3
  go_wp2_with fail
  refine LV.out.mono ?_
  rintro e w1 ⟨rfl, b1⟩
  have A1 : Hid (Ab w w1) := b1
  clear b1
  go_wp2
  go_loopw [3, 4] (fun ov iv wr => ov = .bool true ∧ iv = .int .i64 0 ∧ wr = w1) (fun _ _ _ => 0)
  case atStart => exact ⟨rfl, rfl, rfl⟩
  case round =>
    obtain ⟨rfl, rfl, hwr⟩ := hrel
    have hw2 := hwr.symm
    subst hw2
    go_wp2
    go_ret
    exact ⟨rfl, A1.out⟩
set_option maxRecDepth 100000 in
theorem parts_long (PC : PartC) (CC : CutC) (p : Option Addr) (len cap : Nat) (w : World) (hl : 65536 < len) :
    Calls Try.prog 3 #[.slice p len cap] w fun e w' => e = .returned (.bool true) ∧ Below w.heap.size w w' := by
  have LV := hid (awake_at PC CC w)
  have lI : decide ((65536 : Int) < (len : Int)) = true := decide_eq_true (by omega)
  clear PC CC
  go_enter Try.func3, Try.ntmps3
  go_wp2_with fail
  refine LV.out.mono ?_
  rintro e w1 ⟨rfl, b1⟩
  have A1 : Hid (Ab w w1) := b1
  clear b1
  go_wp2
  go_ret
  exact ⟨rfl, A1.out⟩
end Sh
end Go.Proofs.Ytpbidcjfnkmddaa
