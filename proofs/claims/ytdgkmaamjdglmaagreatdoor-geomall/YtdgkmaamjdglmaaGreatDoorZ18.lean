/-
  Some of the texts of this proof, one behind the other.
-/
import Derived.Test.YtdgkmaamjdglmaaGreatDoorJc
import Derived.Test.YtdgkmaamjdglmaaGreatDoorZ08
import Derived.Test.YtdgkmaamjdglmaaGreatDoorTie
import Derived.Test.YtdgkmaamjdglmaaGreatDoorCards
import Derived.ProofKit
import Derived.LaidMore
import Derived.OpenShut
import Derived.Stop.Joined
import Derived.Carry
import Derived.Lib.SmallJoins
import Derived.WalkLawsBesides
/-
  All calls of layer 8 against the reference: the walk.
-/
namespace Go.Proofs.YtdgkmaamjdglmaaGreatDoor
open Go.RowKit Tf Cu
attribute [local go_sem] run_bits run_from raw_feq raw_fne raw_flt raw_fgt run_neg run_store_float
/-- six whole numbers from there on -/
def OpAt (w : World) (b o : Nat) : Prop := ∃ a0 a1 a2 a3 a4 a5 : Int, (w.cell? ⟨b, o, none⟩ = some (.int .i64 a0) ∧ w.cell? ⟨b, o + 1, none⟩ = some (.int .i64 a1) ∧ w.cell? ⟨b, o + 2, none⟩ = some (.int .i64 a2)) ∧ (w.cell? ⟨b, o + 3, none⟩ = some (.int .i64 a3) ∧ w.cell? ⟨b, o + 4, none⟩ = some (.int .i64 a4) ∧ w.cell? ⟨b, o + 5, none⟩ = some (.int .i64 a5))
theorem corner_both (n f i j : Int) : ∃ (x y z : Nat) (b : Bool), (∀ w, Calls Tryz.prog 5 #[.int .i64 n, .int .i64 f, .int .i64 i, .int .i64 j] w fun e w' => e = .returned (.tuple #[.agg #[.float .f64 x, .float .f64 y, .float .f64 z], .bool b]) ∧ Below w.heap.size w w') ∧ ∀ w, Calls Tryz.prog 6 #[.int .i64 n, .int .i64 f, .int .i64 i, .int .i64 j] w fun e w' => e = .returned (.tuple #[.agg #[.float .f64 x, .float .f64 y, .float .f64 z], .bool b]) ∧ Below w.heap.size w w' := by
  by_cases h : (1 ≤ n ∧ n ≤ 32) ∧ (0 ≤ f ∧ f < 6) ∧ (0 ≤ i ∧ i ≤ n) ∧ (0 ≤ j ∧ j ≤ n)
  · obtain ⟨h1, h2, h3, h4⟩ := h
    obtain ⟨N, rfl⟩ := Int.eq_ofNat_of_zero_le (show 0 ≤ n by omega)
    obtain ⟨F, rfl⟩ := Int.eq_ofNat_of_zero_le h2.1
    obtain ⟨I, rfl⟩ := Int.eq_ofNat_of_zero_le h3.1
    obtain ⟨J, rfl⟩ := Int.eq_ofNat_of_zero_le h4.1
    exact ⟨_, _, _, _, fun w => corner_ok N F I J w (by omega) (by omega) (by omega) (by omega), fun w => rcorner_ok N F I J w (by omega) (by omega) (by omega) (by omega)⟩
  · exact ⟨_, _, _, _, fun w => corner_no n f i j w h, fun w => rcorner_no n f i j w h⟩
theorem middle_both (n c : Int) : ∃ (x y z : Nat) (b : Bool), (∀ w, Calls Tryz.prog 7 #[.int .i64 n, .int .i64 c] w fun e w' => e = .returned (.tuple #[.agg #[.float .f64 x, .float .f64 y, .float .f64 z], .bool b]) ∧ Below w.heap.size w w') ∧ ∀ w, Calls Tryz.prog 8 #[.int .i64 n, .int .i64 c] w fun e w' => e = .returned (.tuple #[.agg #[.float .f64 x, .float .f64 y, .float .f64 z], .bool b]) ∧ Below w.heap.size w w' := by
  cases h : inR c (clN n) with
  | false => exact ⟨_, _, _, _, fun w => middle_no n c w h, fun w => rmiddle8_no n c w h⟩
  | true =>
    obtain ⟨m, d, rfl, rfl, hm, hd⟩ := nat_cell h
    exact ⟨_, _, _, _, fun w => middle_ok m d w hm hd, fun w => rmiddle8_ok m d w hm hd⟩
theorem area_both (n c : Int) : ∃ (A : Int), (∀ w, Calls Tryz.prog 10 #[.int .i64 n, .int .i64 c] w fun e w' => e = .returned (.int .i64 A) ∧ Below w.heap.size w w') ∧ ∀ w, Calls Tryz.prog 11 #[.int .i64 n, .int .i64 c] w fun e w' => e = .returned (.int .i64 A) ∧ Below w.heap.size w w' := by
  cases h : inR c (clN n) with
  | false => exact ⟨_, fun w => area_no n c w h, fun w => rarea_no n c w h⟩
  | true =>
    obtain ⟨m, d, rfl, rfl, hm, hd⟩ := nat_cell h
    exact ⟨_, fun w => area_ok m d w hm hd, fun w => rarea_ok m d w hm hd⟩
theorem len_both (n c s : Int) : ∃ (L : Nat), (∀ w, Calls Tryz.prog 13 #[.int .i64 n, .int .i64 c, .int .i64 s] w fun e w' => e = .returned (.float .f64 L) ∧ Below w.heap.size w w') ∧ ∀ w, Calls Tryz.prog 14 #[.int .i64 n, .int .i64 c, .int .i64 s] w fun e w' => e = .returned (.float .f64 L) ∧ Below w.heap.size w w' := by
  by_cases h : inR c (clN n) = true ∧ inR s 4 = true
  · obtain ⟨m, d, rfl, rfl, hm, hd⟩ := nat_cell h.1
    have h2 := inR_iff.1 h.2
    obtain ⟨S, rfl⟩ := Int.eq_ofNat_of_zero_le h2.1
    exact ⟨_, fun w => len_ok m d S w hm hd (by omega), fun w => rlen_ok m d S w hm hd (by omega)⟩
  · exact ⟨_, fun w => len_no n c s w h, fun w => rlen_no n c s w h⟩
theorem gap_both (n c s : Int) : ∃ (L : Nat), (∀ w, Fr w → Calls Tryz.prog 15 #[.int .i64 n, .int .i64 c, .int .i64 s] w fun e w' => e = .returned (.float .f64 L) ∧ Below w.heap.size w w') ∧ ∀ w, Calls Tryz.prog 16 #[.int .i64 n, .int .i64 c, .int .i64 s] w fun e w' => e = .returned (.float .f64 L) ∧ Below w.heap.size w w' := by
  by_cases h : inR c (clN n) = true ∧ inR s 4 = true
  · obtain ⟨m, d, rfl, rfl, hm, hd⟩ := nat_cell h.1
    have h2 := inR_iff.1 h.2
    obtain ⟨S, rfl⟩ := Int.eq_ofNat_of_zero_le h2.1
    exact ⟨_, fun w hw => gap_ok m d S w hm hd (by omega) hw, fun w => rgap_ok m d S w hm hd (by omega)⟩
  · exact ⟨_, fun w _ => gap_no n c s w h, fun w => rgap_no n c s w h⟩
set_option maxRecDepth 100000 in
set_option maxHeartbeats 16000000 in
theorem geom_go (b off len cap : Nat) (w : World) (hcap : len ≤ cap) (_hl : (cap : Int) ≤ 9223372036854775807) (hlen : (len : Int) ≤ 4096) (hb : b < w.heap.size) (hc : ∀ k, k < len → OpAt w b (off + k * 6)) (h : Fr w) :
    Calls Tryz.prog 3 #[.slice (some ⟨b, off, none⟩) len cap] w fun e w' => e = .returned (.bool true) ∧ Below w.heap.size w w' := by
  have AWK := hid (awake8_at w h)
  have HC := hid hc
  have HF0 := hid h
  have HB := hid hb
  clear hc h hb
  go_enter Tryz.func3, Tryz.ntmps3
  go_wp2_with fail
  refine AWK.out.mono ?_
  rintro e w1 ⟨rfl, b1⟩
  have A1 : Hid (Ab w w1) := b1
  clear b1
  go_wp2
  go_loopw [3, 4] (fun ov iv wr => ov = .bool true ∧ ∃ k : Nat, k ≤ len ∧ iv = .int .i64 (k : Nat) ∧ Ab w wr) (fun _ iv _ => len - (intOf iv).toNat)
  case atStart => exact ⟨rfl, 0, by omega, rfl, A1.out⟩
  case round =>
    obtain ⟨rfl, k, hk, rfl, A⟩ := hrel
    by_cases hkl : k < len
    · have hk' : (k : Int) < len := by omega
      obtain ⟨a0, a1, a2, a3, a4, a5, ⟨c0, c1, c2⟩, ⟨c3, c4, c5⟩⟩ := HC.out k hkl
      have d0 : wr.cell? ⟨b, off + k * 6, none⟩ = some (.int .i64 a0) := (Below.cell A (by exact HB.out)).trans c0
      have d1 : wr.cell? ⟨b, off + k * 6 + 1, none⟩ = some (.int .i64 a1) := (Below.cell A (by exact HB.out)).trans c1
      have d2 : wr.cell? ⟨b, off + k * 6 + 2, none⟩ = some (.int .i64 a2) := (Below.cell A (by exact HB.out)).trans c2
      have d3 : wr.cell? ⟨b, off + k * 6 + 3, none⟩ = some (.int .i64 a3) := (Below.cell A (by exact HB.out)).trans c3
      have d4 : wr.cell? ⟨b, off + k * 6 + 4, none⟩ = some (.int .i64 a4) := (Below.cell A (by exact HB.out)).trans c4
      have d5 : wr.cell? ⟨b, off + k * 6 + 5, none⟩ = some (.int .i64 a5) := (Below.cell A (by exact HB.out)).trans c5
      obtain ⟨p1, p2, p3, p4, C1, C2⟩ := corner_both a0 a1 a2 a3
      obtain ⟨q1, q2, q3, q4, M1, M2⟩ := middle_both a0 a4
      obtain ⟨V, A1, A2⟩ := area_both a0 a4
      obtain ⟨L, L1, L2⟩ := len_both a0 a4 a5
      obtain ⟨G, G1, G2⟩ := gap_both a0 a4 a5
      replace C1 := hid C1
      replace C2 := hid C2
      replace M1 := hid M1
      replace M2 := hid M2
      replace A1 := hid A1
      replace A2 := hid A2
      replace L1 := hid L1
      replace L2 := hid L2
      replace G1 := hid G1
      replace G2 := hid G2
      have SS : Hid (∀ (x : Nat) (v : World), Calls Tryz.prog 12 #[.float .f64 x, .float .f64 x] v fun e w' => e = .returned (.bool true) ∧ Below v.heap.size v w') := fun x v => by
        have h := rawSame_any x x v
        rw [sameB_eq rfl] at h
        exact h.mono fun _ _ ⟨he, hw⟩ => ⟨he, by rw [hw]; exact Below.refl _ _⟩
      have SM : Hid (∀ (x y z : Nat) (v : World), Calls Tryz.prog 9 #[.agg #[.float .f64 x, .float .f64 y, .float .f64 z], .agg #[.float .f64 x, .float .f64 y, .float .f64 z]] v fun e w' => e = .returned (.bool true) ∧ Below v.heap.size v w') := fun x y z v => by
        have h := same8_at x y z x y z v
        rw [sameB_eq rfl, sameB_eq rfl, sameB_eq rfl] at h; exact h
      have AA := hid A
      have HK := hid hkl
      have kl : (k : Int) + 1 ≤ 9223372036854775807 := by omega
      clear c0 c1 c2 c3 c4 c5 A hkl
      go_upto_region 8 with fail
      generalize hW : World.alloc wr _ = W
      obtain ⟨ga, hga⟩ : ∃ g, wr.heap.size = g := ⟨_, rfl⟩
      have RO0 : Hid (W.heap[ga]? = some (.cells #[.int .i64 a0, .int .i64 a1, .int .i64 a2, .int .i64 a3, .int .i64 a4, .int .i64 a5] 25)) := by rw [← hW, ← hga]; exact heap_alloc_new _ _
      have AW0 : Hid (Ab w W) := by rw [← hW]; exact AA.out.alloc _
      rw [hga]
      clear hW hga d0 d1 d2 d3 d4 d5 AA
      have xO0 := cell_of_row _ _ 0 _ _ _ RO0.out
      have xO1 := cell_of_row _ _ 1 _ _ _ RO0.out
      have xO2 := cell_of_row _ _ 2 _ _ _ RO0.out
      have xO3 := cell_of_row _ _ 3 _ _ _ RO0.out
      have xO4 := cell_of_row _ _ 4 _ _ _ RO0.out
      have xO5 := cell_of_row _ _ 5 _ _ _ RO0.out
      go_wp2_with fail
      refine Calls.mono (C1.out _) ?_
      rintro e v1 ⟨rfl, b1⟩
      clear xO0 xO1 xO2 xO3 xO4 xO5
      have AV1 : Hid (Ab w v1) := Ab.call AW0.out b1
      have RO1 : Hid ((v1.alloc (.cells #[.float .f64 p1, .float .f64 p2, .float .f64 p3] 28)).heap[ga]? = some (.cells #[.int .i64 a0, .int .i64 a1, .int .i64 a2, .int .i64 a3, .int .i64 a4, .int .i64 a5] 25)) := Ab.heap (bl1 v1 (.cells #[.float .f64 p1, .float .f64 p2, .float .f64 p3] 28)) (Ab.heap b1 RO0.out)
      have RA1 : Hid ((v1.alloc (.cells #[.float .f64 p1, .float .f64 p2, .float .f64 p3] 28)).heap[v1.heap.size]? = some (.cells #[.float .f64 p1, .float .f64 p2, .float .f64 p3] 28)) := heap_alloc_new _ _
      have AW1 : Hid (Ab w (v1.alloc (.cells #[.float .f64 p1, .float .f64 p2, .float .f64 p3] 28))) := AV1.out.call (bl1 v1 (.cells #[.float .f64 p1, .float .f64 p2, .float .f64 p3] 28))
      clear b1 AV1 RO0 AW0
      have xO0 := cell_of_row _ _ 0 _ _ _ RO1.out
      have xO1 := cell_of_row _ _ 1 _ _ _ RO1.out
      have xO2 := cell_of_row _ _ 2 _ _ _ RO1.out
      have xO3 := cell_of_row _ _ 3 _ _ _ RO1.out
      have xO4 := cell_of_row _ _ 4 _ _ _ RO1.out
      have xO5 := cell_of_row _ _ 5 _ _ _ RO1.out
      go_wp2_with fail
      refine Calls.mono (C2.out _) ?_
      rintro e v2 ⟨rfl, b2⟩
      clear xO0 xO1 xO2 xO3 xO4 xO5
      have AV2 : Hid (Ab w v2) := Ab.call AW1.out b2
      have RO2 : Hid ((v2.alloc (.cells #[.float .f64 p1, .float .f64 p2, .float .f64 p3] 28)).heap[ga]? = some (.cells #[.int .i64 a0, .int .i64 a1, .int .i64 a2, .int .i64 a3, .int .i64 a4, .int .i64 a5] 25)) := Ab.heap (bl1 v2 (.cells #[.float .f64 p1, .float .f64 p2, .float .f64 p3] 28)) (Ab.heap b2 RO1.out)
      have RA2 : Hid ((v2.alloc (.cells #[.float .f64 p1, .float .f64 p2, .float .f64 p3] 28)).heap[v1.heap.size]? = some (.cells #[.float .f64 p1, .float .f64 p2, .float .f64 p3] 28)) := Ab.heap (bl1 v2 (.cells #[.float .f64 p1, .float .f64 p2, .float .f64 p3] 28)) (Ab.heap b2 RA1.out)
      have RB2 : Hid ((v2.alloc (.cells #[.float .f64 p1, .float .f64 p2, .float .f64 p3] 28)).heap[v2.heap.size]? = some (.cells #[.float .f64 p1, .float .f64 p2, .float .f64 p3] 28)) := heap_alloc_new _ _
      have AW2 : Hid (Ab w (v2.alloc (.cells #[.float .f64 p1, .float .f64 p2, .float .f64 p3] 28))) := AV2.out.call (bl1 v2 (.cells #[.float .f64 p1, .float .f64 p2, .float .f64 p3] 28))
      clear b2 AV2 RO1 RA1 AW1
      have xO0 := cell_of_row _ _ 0 _ _ _ RO2.out
      have xO1 := cell_of_row _ _ 1 _ _ _ RO2.out
      have xO2 := cell_of_row _ _ 2 _ _ _ RO2.out
      have xO3 := cell_of_row _ _ 3 _ _ _ RO2.out
      have xO4 := cell_of_row _ _ 4 _ _ _ RO2.out
      have xO5 := cell_of_row _ _ 5 _ _ _ RO2.out
      go_wp2_with fail
      refine Calls.mono (M1.out _) ?_
      rintro e v3 ⟨rfl, b3⟩
      clear xO0 xO1 xO2 xO3 xO4 xO5
      have AV3 : Hid (Ab w v3) := Ab.call AW2.out b3
      have RO3 : Hid ((v3.alloc (.cells #[.float .f64 q1, .float .f64 q2, .float .f64 q3] 28)).heap[ga]? = some (.cells #[.int .i64 a0, .int .i64 a1, .int .i64 a2, .int .i64 a3, .int .i64 a4, .int .i64 a5] 25)) := Ab.heap (bl1 v3 (.cells #[.float .f64 q1, .float .f64 q2, .float .f64 q3] 28)) (Ab.heap b3 RO2.out)
      have RA3 : Hid ((v3.alloc (.cells #[.float .f64 q1, .float .f64 q2, .float .f64 q3] 28)).heap[v1.heap.size]? = some (.cells #[.float .f64 p1, .float .f64 p2, .float .f64 p3] 28)) := Ab.heap (bl1 v3 (.cells #[.float .f64 q1, .float .f64 q2, .float .f64 q3] 28)) (Ab.heap b3 RA2.out)
      have RB3 : Hid ((v3.alloc (.cells #[.float .f64 q1, .float .f64 q2, .float .f64 q3] 28)).heap[v2.heap.size]? = some (.cells #[.float .f64 p1, .float .f64 p2, .float .f64 p3] 28)) := Ab.heap (bl1 v3 (.cells #[.float .f64 q1, .float .f64 q2, .float .f64 q3] 28)) (Ab.heap b3 RB2.out)
      have RC3 : Hid ((v3.alloc (.cells #[.float .f64 q1, .float .f64 q2, .float .f64 q3] 28)).heap[v3.heap.size]? = some (.cells #[.float .f64 q1, .float .f64 q2, .float .f64 q3] 28)) := heap_alloc_new _ _
      have AW3 : Hid (Ab w (v3.alloc (.cells #[.float .f64 q1, .float .f64 q2, .float .f64 q3] 28))) := AV3.out.call (bl1 v3 (.cells #[.float .f64 q1, .float .f64 q2, .float .f64 q3] 28))
      clear b3 AV3 RO2 RA2 RB2 AW2
      have xO0 := cell_of_row _ _ 0 _ _ _ RO3.out
      have xO1 := cell_of_row _ _ 1 _ _ _ RO3.out
      have xO2 := cell_of_row _ _ 2 _ _ _ RO3.out
      have xO3 := cell_of_row _ _ 3 _ _ _ RO3.out
      have xO4 := cell_of_row _ _ 4 _ _ _ RO3.out
      have xO5 := cell_of_row _ _ 5 _ _ _ RO3.out
      go_wp2_with fail
      refine Calls.mono (M2.out _) ?_
      rintro e v4 ⟨rfl, b4⟩
      clear xO0 xO1 xO2 xO3 xO4 xO5
      have AV4 : Hid (Ab w v4) := Ab.call AW3.out b4
      have RO4 : Hid ((v4.alloc (.cells #[.float .f64 q1, .float .f64 q2, .float .f64 q3] 28)).heap[ga]? = some (.cells #[.int .i64 a0, .int .i64 a1, .int .i64 a2, .int .i64 a3, .int .i64 a4, .int .i64 a5] 25)) := Ab.heap (bl1 v4 (.cells #[.float .f64 q1, .float .f64 q2, .float .f64 q3] 28)) (Ab.heap b4 RO3.out)
      have RA4 : Hid ((v4.alloc (.cells #[.float .f64 q1, .float .f64 q2, .float .f64 q3] 28)).heap[v1.heap.size]? = some (.cells #[.float .f64 p1, .float .f64 p2, .float .f64 p3] 28)) := Ab.heap (bl1 v4 (.cells #[.float .f64 q1, .float .f64 q2, .float .f64 q3] 28)) (Ab.heap b4 RA3.out)
      have RB4 : Hid ((v4.alloc (.cells #[.float .f64 q1, .float .f64 q2, .float .f64 q3] 28)).heap[v2.heap.size]? = some (.cells #[.float .f64 p1, .float .f64 p2, .float .f64 p3] 28)) := Ab.heap (bl1 v4 (.cells #[.float .f64 q1, .float .f64 q2, .float .f64 q3] 28)) (Ab.heap b4 RB3.out)
      have RC4 : Hid ((v4.alloc (.cells #[.float .f64 q1, .float .f64 q2, .float .f64 q3] 28)).heap[v3.heap.size]? = some (.cells #[.float .f64 q1, .float .f64 q2, .float .f64 q3] 28)) := Ab.heap (bl1 v4 (.cells #[.float .f64 q1, .float .f64 q2, .float .f64 q3] 28)) (Ab.heap b4 RC3.out)
      have RD4 : Hid ((v4.alloc (.cells #[.float .f64 q1, .float .f64 q2, .float .f64 q3] 28)).heap[v4.heap.size]? = some (.cells #[.float .f64 q1, .float .f64 q2, .float .f64 q3] 28)) := heap_alloc_new _ _
      have AW4 : Hid (Ab w (v4.alloc (.cells #[.float .f64 q1, .float .f64 q2, .float .f64 q3] 28))) := AV4.out.call (bl1 v4 (.cells #[.float .f64 q1, .float .f64 q2, .float .f64 q3] 28))
      clear b4 AV4 RO3 RA3 RB3 RC3 AW3
      go_upto_region 12 with fail
      generalize hW2 : World.alloc _ _ = W2
      have AX : Hid (Ab w W2) := by rw [← hW2]; exact AW4.out
      have YO : Hid (W2.heap[ga]? = some (.cells #[.int .i64 a0, .int .i64 a1, .int .i64 a2, .int .i64 a3, .int .i64 a4, .int .i64 a5] 25)) := by rw [← hW2]; exact RO4.out
      have YA : Hid (W2.heap[v1.heap.size]? = some (.cells #[.float .f64 p1, .float .f64 p2, .float .f64 p3] 28)) := by rw [← hW2]; exact RA4.out
      have YB : Hid (W2.heap[v2.heap.size]? = some (.cells #[.float .f64 p1, .float .f64 p2, .float .f64 p3] 28)) := by rw [← hW2]; exact RB4.out
      have YC : Hid (W2.heap[v3.heap.size]? = some (.cells #[.float .f64 q1, .float .f64 q2, .float .f64 q3] 28)) := by rw [← hW2]; exact RC4.out
      have YD : Hid (W2.heap[v4.heap.size]? = some (.cells #[.float .f64 q1, .float .f64 q2, .float .f64 q3] 28)) := by rw [← hW2]; exact RD4.out
      clear hW2 AW4 RO4 RA4 RB4 RC4 RD4 C1 C2 M1 M2
      obtain ⟨UU, F, hF1, hF2⟩ := cls W2
      have HF := hid hF2
      have HF1 := hid hF1
      have HFR : Hid (∀ vv, Fr (F vv)) := fun vv => HF0.out.to (AX.out.trans (hF1 vv))
      have xO0 : ∀ vv, (F vv).cell? ⟨ga, 0, none⟩ = some (.int .i64 a0) := fun vv => cell_of_row _ _ 0 _ _ _ ((hF1 vv).heap YO.out)
      have xO1 : ∀ vv, (F vv).cell? ⟨ga, 1, none⟩ = some (.int .i64 a1) := fun vv => cell_of_row _ _ 1 _ _ _ ((hF1 vv).heap YO.out)
      have xO2 : ∀ vv, (F vv).cell? ⟨ga, 2, none⟩ = some (.int .i64 a2) := fun vv => cell_of_row _ _ 2 _ _ _ ((hF1 vv).heap YO.out)
      have xO3 : ∀ vv, (F vv).cell? ⟨ga, 3, none⟩ = some (.int .i64 a3) := fun vv => cell_of_row _ _ 3 _ _ _ ((hF1 vv).heap YO.out)
      have xO4 : ∀ vv, (F vv).cell? ⟨ga, 4, none⟩ = some (.int .i64 a4) := fun vv => cell_of_row _ _ 4 _ _ _ ((hF1 vv).heap YO.out)
      have xO5 : ∀ vv, (F vv).cell? ⟨ga, 5, none⟩ = some (.int .i64 a5) := fun vv => cell_of_row _ _ 5 _ _ _ ((hF1 vv).heap YO.out)
      have xA0 : ∀ vv, (F vv).cell? ⟨v1.heap.size, 0, none⟩ = some (.float .f64 p1) := fun vv => cell_of_row _ _ 0 _ _ _ ((hF1 vv).heap YA.out)
      have xA1 : ∀ vv, (F vv).cell? ⟨v1.heap.size, 1, none⟩ = some (.float .f64 p2) := fun vv => cell_of_row _ _ 1 _ _ _ ((hF1 vv).heap YA.out)
      have xA2 : ∀ vv, (F vv).cell? ⟨v1.heap.size, 2, none⟩ = some (.float .f64 p3) := fun vv => cell_of_row _ _ 2 _ _ _ ((hF1 vv).heap YA.out)
      have xB0 : ∀ vv, (F vv).cell? ⟨v2.heap.size, 0, none⟩ = some (.float .f64 p1) := fun vv => cell_of_row _ _ 0 _ _ _ ((hF1 vv).heap YB.out)
      have xB1 : ∀ vv, (F vv).cell? ⟨v2.heap.size, 1, none⟩ = some (.float .f64 p2) := fun vv => cell_of_row _ _ 1 _ _ _ ((hF1 vv).heap YB.out)
      have xB2 : ∀ vv, (F vv).cell? ⟨v2.heap.size, 2, none⟩ = some (.float .f64 p3) := fun vv => cell_of_row _ _ 2 _ _ _ ((hF1 vv).heap YB.out)
      have xC0 : ∀ vv, (F vv).cell? ⟨v3.heap.size, 0, none⟩ = some (.float .f64 q1) := fun vv => cell_of_row _ _ 0 _ _ _ ((hF1 vv).heap YC.out)
      have xC1 : ∀ vv, (F vv).cell? ⟨v3.heap.size, 1, none⟩ = some (.float .f64 q2) := fun vv => cell_of_row _ _ 1 _ _ _ ((hF1 vv).heap YC.out)
      have xC2 : ∀ vv, (F vv).cell? ⟨v3.heap.size, 2, none⟩ = some (.float .f64 q3) := fun vv => cell_of_row _ _ 2 _ _ _ ((hF1 vv).heap YC.out)
      have xD0 : ∀ vv, (F vv).cell? ⟨v4.heap.size, 0, none⟩ = some (.float .f64 q1) := fun vv => cell_of_row _ _ 0 _ _ _ ((hF1 vv).heap YD.out)
      have xD1 : ∀ vv, (F vv).cell? ⟨v4.heap.size, 1, none⟩ = some (.float .f64 q2) := fun vv => cell_of_row _ _ 1 _ _ _ ((hF1 vv).heap YD.out)
      have xD2 : ∀ vv, (F vv).cell? ⟨v4.heap.size, 2, none⟩ = some (.float .f64 q3) := fun vv => cell_of_row _ _ 2 _ _ _ ((hF1 vv).heap YD.out)
      have hp4 : (p4 == p4) = true := by simp
      have hq4 : (q4 == q4) = true := by simp
      have hV4 : (V == V) = true := by simp
      have D := HF.out _ (Ab.refl W2).drew
      clear hF1 hF2
      refine region_cls F (by kernel_rfl) (by kernel_rfl) D ?_
      simp only [List.append_eq, List.cons_append, List.nil_append]
      repeat (go_big_quiet_step (first
        | (with_reducible rfl)
        | (go_at_call 9; exact calls_cls HF HF1 (SM.out _ _ _ _))
        | (go_at_call 10; exact calls_cls HF HF1 (A1.out _))
        | (go_at_call 11; exact calls_cls HF HF1 (A2.out _))
        | (go_at_call 13; exact calls_cls HF HF1 (L1.out _))
        | (go_at_call 14; exact calls_cls HF HF1 (L2.out _))
        | (go_at_call 15; exact calls_cls HF HF1 (G1.out _ (HFR.out _)))
        | (go_at_call 16; exact calls_cls HF HF1 (G2.out _))
        | (go_at_call 12; exact calls_cls HF HF1 (SS.out _ _))))
      refine wpQuiet_nil ?_
      intro wz hwz
      obtain ⟨vv, hv⟩ := hwz
      have bz : Below W2.heap.size W2 wz := by rw [hv]; exact HF1.out vv
      clear hv vv
      clear HF HF1 D HFR xO0 xO1 xO2 xO3 xO4 xO5 xA0 xA1 xA2 xB0 xB1 xB2 xC0 xC1 xC2 xD0 xD1 xD2
      clear F UU
      have AZ : Hid (Ab w wz) := AX.out.call bz
      clear bz AX YO YA YB YC YD
      go_wp2
      go_roundw
      case rel => exact ⟨rfl, k + 1, by have := HK.out; omega, by simp, AZ.out⟩
      case measure => have := HK.out; simp [intOf]; omega
    · obtain rfl : k = len := by omega
      have AA := hid A
      clear A HC
      go_wp2
      go_ret
      exact ⟨rfl, AA.out⟩
set_option maxHeartbeats 2000000 in
theorem geom_long (a0 : Option Addr) (len cap : Nat) (w : World) (hl : 4096 < (len : Int)) (h : Fr w) :
    Calls Tryz.prog 3 #[.slice a0 len cap] w fun e w' => e = .returned (.bool true) ∧ Below w.heap.size w w' := by
  have AWK := hid (awake8_at w h)
  clear h
  go_enter Tryz.func3, Tryz.ntmps3
  go_wp2_with fail
  refine AWK.out.mono ?_
  rintro e w1 ⟨rfl, b1⟩
  go_wp2
  go_ret
  exact ⟨rfl, b1⟩
set_option maxHeartbeats 2000000 in
theorem geom_none (a0 : Option Addr) (cap : Nat) (w : World) (h : Fr w) :
    Calls Tryz.prog 3 #[.slice a0 0 cap] w fun e w' => e = .returned (.bool true) ∧ Below w.heap.size w w' := by
  have AWK := hid (awake8_at w h)
  clear h
  go_enter Tryz.func3, Tryz.ntmps3
  go_wp2_with fail
  refine AWK.out.mono ?_
  rintro e w1 ⟨rfl, b1⟩
  have A1 : Hid (Ab w w1) := b1
  clear b1
  go_wp2
  go_loopw [3, 4] (fun ov iv wr => ov = .bool true ∧ iv = .int .i64 0 ∧ Ab w wr) (fun _ _ _ => 0)
  case atStart => exact ⟨rfl, rfl, A1.out⟩
  case round =>
    obtain ⟨rfl, rfl, A⟩ := hrel
    have AA := hid A
    clear A
    go_wp2
    go_ret
    exact ⟨rfl, AA.out⟩
end Go.Proofs.YtdgkmaamjdglmaaGreatDoor

/-
  What the law's condition on the table of frames gives the walks; a struct of eight whole numbers.
-/
namespace Go.Proofs.YtdgkmaamjdglmaaGreatDoor
open Go.ChangeShapes Go.WideShapes Go.ChangeAt Go.WideMaps Go.WideElems Go.RowKit Cu

theorem own : ownKnob Tryz.prog.godebug = none := by kernel_rfl
theorem gFrames : Tryz.prog.globalNamed "tarn/cube.frames" = some 1 := by kernel_rfl
theorem tFrames : (Tryz.prog.globals[1]?).map (·.type) = some 78 := by kernel_rfl
theorem door_met (os : Os) (args : Array Value) : laidMetH Tryz.prog [("tarn/cube.frames", Rows.laid_tarn_cube_frames)] ((World.doorLaid Tryz.prog 400 os).forCall (fun _ _ => 0) ⟨#[], args, []⟩).memory :=
  laidMetH_of_parts3 (fuel := 8) (laidMet_of_run' 8 (by kernel_rfl) (by kernel_rfl)) (by kernel_rfl) (by kernel_rfl)
set_option maxRecDepth 100000 in
theorem pt_data {H : Type} {enc : TypeId × Value → H} {w : World} {base fuel : Nat} {spare : Nat → Bool} {held : Bool} {cs : List Value} {x : DataW H × List MemPlace} (h : DataW.trod enc Tryz.prog w base spare held fuel 70 cs = some x)
    (a b c : Int) (e : x.1 = .agg [.lit (.int .i64 a), .lit (.int .i64 b), .lit (.int .i64 c)]) : cs = [.int .i64 a, .int .i64 b, .int .i64 c] := by
  have k3 : Tryz.prog.cellsOf 3 = 1 := by kernel_rfl
  have kp : Tryz.prog.cellsOf 70 = 3 := by kernel_rfl
  obtain ⟨xs, m, _, hx, hlen, hn, hel⟩ := DataW.trod_array Tryz.underlying70 h
  rw [hx] at e
  match xs, hn, cs, hlen.trans kp with
  | [x0, x1, x2], _, [c0, c1, c2], _ =>
    have h0 := hel 0 (by decide)
    have h1 := hel 1 (by decide)
    have h2 := hel 2 (by decide)
    simp [k3] at h0 h1 h2
    obtain ⟨n0, e0, f0, _⟩ := DataW.trod_int Tryz.underlying3 h0
    obtain ⟨n1, e1, f1, _⟩ := DataW.trod_int Tryz.underlying3 h1
    obtain ⟨n2, e2, f2, _⟩ := DataW.trod_int Tryz.underlying3 h2
    simp at e0 e1 e2
    simp [f0, f1, f2] at e
    rw [e0, e1, e2, e.1, e.2.1, e.2.2]
set_option maxRecDepth 100000 in
theorem frame_data {H : Type} {enc : TypeId × Value → H} {w : World} {base fuel : Nat} {spare : Nat → Bool} {held : Bool} {cs : List Value} {x : DataW H × List MemPlace} (h : DataW.trod enc Tryz.prog w base spare held fuel 77 cs = some x)
    (p q r : P3) (e : x.1 = .agg [.agg [.lit (.int .i64 p.1), .lit (.int .i64 p.2.1), .lit (.int .i64 p.2.2)], .agg [.lit (.int .i64 q.1), .lit (.int .i64 q.2.1), .lit (.int .i64 q.2.2)], .agg [.lit (.int .i64 r.1), .lit (.int .i64 r.2.1), .lit (.int .i64 r.2.2)]]) :
    cs = [.int .i64 p.1, .int .i64 p.2.1, .int .i64 p.2.2, .int .i64 q.1, .int .i64 q.2.1, .int .i64 q.2.2, .int .i64 r.1, .int .i64 r.2.1, .int .i64 r.2.2] := by
  have kp : Tryz.prog.cellsOf 70 = 3 := by kernel_rfl
  have kf : Tryz.prog.cellsOf 77 = 9 := by kernel_rfl
  obtain ⟨xs, m, _, hx, hlen, hn, hel⟩ := DataW.trod_struct Tryz.underlying77 h
  rw [hx] at e
  match xs, hn, cs, hlen.trans kf with
  | [x0, x1, x2], _, [c0, c1, c2, c3, c4, c5, c6, c7, c8], _ =>
    have h0 := hel 0 _ rfl
    have h1 := hel 1 _ rfl
    have h2 := hel 2 _ rfl
    simp [kp] at h0 h1 h2
    simp at e
    have e0 := pt_data h0 _ _ _ e.1
    have e1 := pt_data h1 _ _ _ e.2.1
    have e2 := pt_data h2 _ _ _ e.2.2
    simp at e0 e1 e2
    simp [e0, e1, e2]
set_option maxRecDepth 100000 in
theorem table_data {H : Type} {enc : TypeId × Value → H} {w : World} {base fuel : Nat} {spare : Nat → Bool} {held : Bool} {cs : List Value} {x : DataW H × List MemPlace} (h : DataW.trod enc Tryz.prog w base spare held fuel 78 cs = some x)
    (e : x.1 = Rows.laid_tarn_cube_frames) : ∀ f, f < 6 → (cs.drop (f * 9)).take 9 = [.int .i64 (cC f).1, .int .i64 (cC f).2.1, .int .i64 (cC f).2.2, .int .i64 (cR f).1, .int .i64 (cR f).2.1, .int .i64 (cR f).2.2, .int .i64 (cU f).1, .int .i64 (cU f).2.1, .int .i64 (cU f).2.2] := by
  have kf : Tryz.prog.cellsOf 77 = 9 := by kernel_rfl
  obtain ⟨xs, m, _, hx, hlen, hn, hel⟩ := DataW.trod_array Tryz.underlying78 h
  rw [hx] at e
  intro f hf
  have h0 := hel f hf
  rw [kf] at h0
  match xs, hn with
  | [x0, x1, x2, x3, x4, x5], _ =>
    simp only [List.map_cons, List.map_nil, Rows.laid_tarn_cube_frames, DataW.agg.injEq, List.cons.injEq] at e
    rcases six hf with rfl | rfl | rfl | rfl | rfl | rfl
    · exact frame_data h0 (cC 0) (cR 0) (cU 0) e.1
    · exact frame_data h0 (cC 1) (cR 1) (cU 1) e.2.1
    · exact frame_data h0 (cC 2) (cR 2) (cU 2) e.2.2.1
    · exact frame_data h0 (cC 3) (cR 3) (cU 3) e.2.2.2.1
    · exact frame_data h0 (cC 4) (cR 4) (cU 4) e.2.2.2.2.1
    · exact frame_data h0 (cC 5) (cR 5) (cU 5) e.2.2.2.2.2.1
/-- WHAT THE CONDITION GIVES THE WALKS -/
theorem of_laid {W : World} (h : laidMetH Tryz.prog [("tarn/cube.frames", Rows.laid_tarn_cube_frames)] W) : Fr W := by
  rw [MakeChecks.laidMetH_plain _ _ _ (by kernel_rfl)] at h
  obtain ⟨ps, ⟨g0, t0, cs0, f0, p0, q0, hg0, ht0, hv0, hd0, _⟩, _⟩ := h
  obtain rfl := Option.some.inj (gFrames.symm.trans hg0)
  obtain rfl := Option.some.inj (tFrames.symm.trans ht0)
  have T := table_data hd0 rfl
  have C := World.var?_cell hg0 hv0
  have K : ∀ f, f < 6 → ∀ k, k < 9 → W.cell? ⟨1, f * 9 + k, none⟩ = ((cs0.toList.drop (f * 9)).take 9)[k]? := by
    intro f hf k hk
    rw [C, List.getElem?_take, if_pos hk, List.getElem?_drop]
    simp
  have N : ∀ f, f < 6 → Fr9 W f := by
    intro f hf
    have K := K f hf
    rw [T f hf] at K
    exact ⟨⟨K 0 (by omega), K 1 (by omega), K 2 (by omega)⟩, ⟨K 3 (by omega), K 4 (by omega), K 5 (by omega)⟩, ⟨K 6 (by omega), K 7 (by omega), K 8 (by omega)⟩⟩
  refine ⟨?_, N⟩
  have c0 := (N 0 (by omega)).1.1
  rcases Nat.lt_or_ge 1 W.heap.size with h1 | h1
  · exact h1
  · rw [World.cell?, Array.getElem?_eq_none h1] at c0; cases c0
end Go.Proofs.YtdgkmaamjdglmaaGreatDoor

/-
  Six whole numbers among the inputs.
-/
namespace Go.Proofs.YtdgkmaamjdglmaaGreatDoor
open Go.ChangeShapes Go.WideShapes Go.ChangeAt Go.WideMaps Go.WideElems Go.RowKit Cu
theorem int_cell8 {H : Type} {enc : TypeId × Value → H} {w : World} {base n : Nat} {spare : Nat → Bool} {held : Bool} {v : Value} {x : DataW H × List MemPlace} (h : DataW.trod enc Tryz.prog w base spare held n 3 [v] = some x) : ∃ a, v = .int .i64 a := by
  obtain ⟨k, e, _, wf⟩ := DataW.trod_int Tryz.underlying3 h
  simp at e
  exact ⟨k, e⟩
set_option maxRecDepth 100000 in
theorem op_cells {H : Type} {enc : TypeId × Value → H} {w : World} {base n : Nat} {spare : Nat → Bool} {held : Bool} {v0 v1 v2 v3 v4 v5 : Value} {x : DataW H × List MemPlace} (h : DataW.trod enc Tryz.prog w base spare held n 25 [v0, v1, v2, v3, v4, v5] = some x) :
    ∃ a0 a1 a2 a3 a4 a5, v0 = .int .i64 a0 ∧ v1 = .int .i64 a1 ∧ v2 = .int .i64 a2 ∧ v3 = .int .i64 a3 ∧ v4 = .int .i64 a4 ∧ v5 = .int .i64 a5 := by
  have k3 : Tryz.prog.cellsOf 3 = 1 := by kernel_rfl
  obtain ⟨xs, m, _, hx, hlen, hn, hel⟩ := DataW.trod_struct Tryz.underlying25 h
  match xs, hn with
  | [x0, x1, x2, x3, x4, x5], _ =>
    have h0 := hel 0 _ rfl
    have h1 := hel 1 _ rfl
    have h2 := hel 2 _ rfl
    have h3 := hel 3 _ rfl
    have h4 := hel 4 _ rfl
    have h5 := hel 5 _ rfl
    simp [k3] at h0 h1 h2 h3 h4 h5
    obtain ⟨a0, e0⟩ := int_cell8 h0
    obtain ⟨a1, e1⟩ := int_cell8 h1
    obtain ⟨a2, e2⟩ := int_cell8 h2
    obtain ⟨a3, e3⟩ := int_cell8 h3
    obtain ⟨a4, e4⟩ := int_cell8 h4
    obtain ⟨a5, e5⟩ := int_cell8 h5
    exact ⟨a0, a1, a2, a3, a4, a5, e0, e1, e2, e3, e4, e5⟩
end Go.Proofs.YtdgkmaamjdglmaaGreatDoor
