/-
  Cells, Cell, Place and After of all numbers: the walk.
-/
import Derived.Test.YthmljifkncfjgaaDoorXe
import Derived.Test.YthmljifkncfjgaaDoorKr
namespace Go.Proofs.YthmljifkncfjgaaDoor
open Go.RowKit Cu
/-- eight whole numbers from there on -/
def AskAt (w : World) (b o : Nat) : Prop := ∃ a0 a1 a2 a3 a4 a5 a6 a7 : Int, (w.cell? ⟨b, o, none⟩ = some (.int .i64 a0) ∧ w.cell? ⟨b, o + 1, none⟩ = some (.int .i64 a1) ∧ w.cell? ⟨b, o + 2, none⟩ = some (.int .i64 a2) ∧ w.cell? ⟨b, o + 3, none⟩ = some (.int .i64 a3)) ∧ (w.cell? ⟨b, o + 4, none⟩ = some (.int .i64 a4) ∧ w.cell? ⟨b, o + 5, none⟩ = some (.int .i64 a5) ∧ w.cell? ⟨b, o + 6, none⟩ = some (.int .i64 a6) ∧ w.cell? ⟨b, o + 7, none⟩ = some (.int .i64 a7)) ∧ (I64 a0 ∧ I64 a1 ∧ I64 a2 ∧ I64 a3 ∧ I64 a4 ∧ I64 a5 ∧ I64 a6 ∧ I64 a7)
theorem place_b (side c : Int) (w : World) : Calls Tryd.prog 9 #[.int .i64 side, .int .i64 c] w fun e w' => e = .returned (.tuple #[.int .i64 (pF side c), .int .i64 (pI side c), .int .i64 (pJ side c), .bool (inR c (clN side))]) ∧ Below w.heap.size w w' :=
  (place_at side c w).mono fun _ _ ⟨he, k, hw⟩ => ⟨he, hw ▸ (Ab.refl w).drewN k⟩
theorem rplace_b (side c : Int) (w : World) : Calls Tryd.prog 11 #[.int .i64 side, .int .i64 c] w fun e w' => e = .returned (.tuple #[.int .i64 (pF side c), .int .i64 (pI side c), .int .i64 (pJ side c), .bool (inR c (clN side))]) ∧ Below w.heap.size w w' :=
  (rplace_at side c w).mono fun _ _ ⟨he, k, hw⟩ => ⟨he, hw ▸ (Ab.refl w).drewN k⟩
set_option maxRecDepth 100000 in
set_option maxHeartbeats 8000000 in
theorem num_go (b off len cap : Nat) (w : World) (hcap : len ≤ cap) (hl : (cap : Int) ≤ 9223372036854775807) (hb : b < w.heap.size) (hc : ∀ k, k < len → AskAt w b (off + k * 8)) (h : Fr w) :
    Calls Tryd.prog 5 #[.slice (some ⟨b, off, none⟩) len cap] w fun e w' => e = .returned (.bool true) ∧ Below w.heap.size w w' := by
  have AWK := hid (awake_at w h)
  have HC := hid hc
  have HF0 := hid h
  have HB := hid hb
  clear hc h hb
  go_enter Tryd.func5, Tryd.ntmps5
  go_wp2_with fail
  refine AWK.out.mono ?_
  rintro e w1 ⟨rfl, b1⟩
  have A1 : Hid (Ab w w1) := b1
  clear b1
  go_wp2
  go_loopw [3] (fun iv wr => ∃ k : Nat, k ≤ len ∧ iv = .int .i64 (k : Nat) ∧ Ab w wr) (fun iv _ => len - (intOf iv).toNat)
  case atStart => exact ⟨0, by omega, rfl, A1.out⟩
  case round =>
    obtain ⟨k, hk, rfl, A⟩ := hrel
    by_cases hkl : k < len
    · have hk' : (k : Int) < len := by omega
      obtain ⟨a0, a1, a2, a3, a4, a5, a6, a7, ⟨c0, c1, c2, c3⟩, ⟨c4, c5, c6, c7⟩, _⟩ := HC.out k hkl
      have d0 : wr.cell? ⟨b, off + k * 8, none⟩ = some (.int .i64 a0) := (Below.cell A (by exact HB.out)).trans c0
      have d1 : wr.cell? ⟨b, off + k * 8 + 1, none⟩ = some (.int .i64 a1) := (Below.cell A (by exact HB.out)).trans c1
      have d2 : wr.cell? ⟨b, off + k * 8 + 2, none⟩ = some (.int .i64 a2) := (Below.cell A (by exact HB.out)).trans c2
      have d3 : wr.cell? ⟨b, off + k * 8 + 3, none⟩ = some (.int .i64 a3) := (Below.cell A (by exact HB.out)).trans c3
      have d4 : wr.cell? ⟨b, off + k * 8 + 4, none⟩ = some (.int .i64 a4) := (Below.cell A (by exact HB.out)).trans c4
      have d5 : wr.cell? ⟨b, off + k * 8 + 5, none⟩ = some (.int .i64 a5) := (Below.cell A (by exact HB.out)).trans c5
      have d6 : wr.cell? ⟨b, off + k * 8 + 6, none⟩ = some (.int .i64 a6) := (Below.cell A (by exact HB.out)).trans c6
      have d7 : wr.cell? ⟨b, off + k * 8 + 7, none⟩ = some (.int .i64 a7) := (Below.cell A (by exact HB.out)).trans c7
      have PL := hid (fun u => place_b a0 a4 u)
      have RP := hid (fun u => rplace_b a0 a4 u)
      have AA := hid A
      have HK := hid hkl
      have kl : (k : Int) + 1 ≤ 9223372036854775807 := by omega
      clear c0 c1 c2 c3 c4 c5 c6 c7 A hkl
      go_upto_region 7 with fail
      generalize hW : World.alloc wr _ = W
      obtain ⟨ga, hga⟩ : ∃ g, wr.heap.size = g := ⟨_, rfl⟩
      have rA : W.heap[ga]? = some (.cells #[.int .i64 a0, .int .i64 a1, .int .i64 a2, .int .i64 a3, .int .i64 a4, .int .i64 a5, .int .i64 a6, .int .i64 a7] 23) := by rw [← hW, ← hga]; exact heap_alloc_new _ _
      have A2 : Ab w W := by rw [← hW]; exact AA.out.alloc _
      rw [hga]
      clear hW hga d0 d1 d2 d3 d4 d5 d6 d7 AA
      have e0 : W.cell? ⟨ga, 0, none⟩ = some (.int .i64 a0) := cell_of_row _ _ 0 _ _ _ rA
      have e4 : W.cell? ⟨ga, 4, none⟩ = some (.int .i64 a4) := cell_of_row _ _ 4 _ _ _ rA
      go_wp2_with fail
      refine (PL.out _).mono ?_
      rintro e w2 ⟨rfl, b2⟩
      have rB := Ab.heap b2 rA
      have f0 : w2.cell? ⟨ga, 0, none⟩ = some (.int .i64 a0) := cell_of_row _ _ 0 _ _ _ rB
      have f4 : w2.cell? ⟨ga, 4, none⟩ = some (.int .i64 a4) := cell_of_row _ _ 4 _ _ _ rB
      have A3w := A2.call b2
      clear b2 rA
      go_wp2_with fail
      refine (RP.out _).mono ?_
      rintro e w3 ⟨rfl, b3⟩
      have rC := Ab.heap b3 rB
      have A4 := A3w.call b3
      clear b3 rB f0 f4 e0 e4 A2 A3w
      obtain ⟨U, F, hF1, hF2⟩ := cls w3
      have HF := hid hF2
      have HF1 := hid hF1
      have x0 : ∀ u, (F u).cell? ⟨ga, 0, none⟩ = some (.int .i64 a0) := fun u => cell_of_row _ _ 0 _ _ _ ((hF1 u).heap rC)
      have x1 : ∀ u, (F u).cell? ⟨ga, 1, none⟩ = some (.int .i64 a1) := fun u => cell_of_row _ _ 1 _ _ _ ((hF1 u).heap rC)
      have x2 : ∀ u, (F u).cell? ⟨ga, 2, none⟩ = some (.int .i64 a2) := fun u => cell_of_row _ _ 2 _ _ _ ((hF1 u).heap rC)
      have x3 : ∀ u, (F u).cell? ⟨ga, 3, none⟩ = some (.int .i64 a3) := fun u => cell_of_row _ _ 3 _ _ _ ((hF1 u).heap rC)
      have x4 : ∀ u, (F u).cell? ⟨ga, 4, none⟩ = some (.int .i64 a4) := fun u => cell_of_row _ _ 4 _ _ _ ((hF1 u).heap rC)
      have x5 : ∀ u, (F u).cell? ⟨ga, 5, none⟩ = some (.int .i64 a5) := fun u => cell_of_row _ _ 5 _ _ _ ((hF1 u).heap rC)
      have x6 : ∀ u, (F u).cell? ⟨ga, 6, none⟩ = some (.int .i64 a6) := fun u => cell_of_row _ _ 6 _ _ _ ((hF1 u).heap rC)
      have x7 : ∀ u, (F u).cell? ⟨ga, 7, none⟩ = some (.int .i64 a7) := fun u => cell_of_row _ _ 7 _ _ _ ((hF1 u).heap rC)
      obtain ⟨n1, hn1⟩ : ∃ n, clN a0 = n := ⟨_, rfl⟩
      obtain ⟨n2, hn2⟩ : ∃ n, cN a0 a1 a2 a3 = n := ⟨_, rfl⟩
      obtain ⟨n3, hn3⟩ : ∃ n, afN a7 a6 = n := ⟨_, rfl⟩
      have C1 : Hid (∀ u, Calls Tryd.prog 12 #[.int .i64 a0] u fun e w' => e = .returned (.int .i64 n1) ∧ w' = u) := fun u => by rw [← hn1]; exact cells_at a0 u
      have C2 : Hid (∀ u, Calls Tryd.prog 13 #[.int .i64 a0] u fun e w' => e = .returned (.int .i64 n1) ∧ w' = u) := fun u => by rw [← hn1]; exact rcells_at a0 u
      have C3 : Hid (∀ u, Calls Tryd.prog 14 #[.int .i64 a0, .int .i64 a1, .int .i64 a2, .int .i64 a3] u fun e w' => e = .returned (.int .i64 n2) ∧ w' = u) := fun u => by rw [← hn2]; exact cell_at a0 a1 a2 a3 u
      have C4 : Hid (∀ u, Calls Tryd.prog 15 #[.int .i64 a0, .int .i64 a1, .int .i64 a2, .int .i64 a3] u fun e w' => e = .returned (.int .i64 n2) ∧ w' = u) := fun u => by rw [← hn2]; exact rcell_at a0 a1 a2 a3 u
      have C5 : Hid (∀ u, Calls Tryd.prog 16 #[.int .i64 a7, .int .i64 a6] (F u) fun e w' => e = .returned (.int .i64 n3) ∧ Below (F u).heap.size (F u) w') := fun u => by rw [← hn3]; exact after_at a7 a6 (F u) (HF0.out.to (A4.trans (hF1 u)))
      have C6 : Hid (∀ u, Calls Tryd.prog 17 #[.int .i64 a7, .int .i64 a6] (F u) fun e w' => e = .returned (.int .i64 n3) ∧ Below (F u).heap.size (F u) w') := fun u => by rw [← hn3]; exact rafter_at a7 a6 (F u)
      have D := HF.out _ (Ab.refl w3).drew
      have A4' := hid A4
      clear hF1 hF2 rC hn1 hn2 hn3 A4
      go_wp2_with fail
      refine region_cls F (by kernel_rfl) (by kernel_rfl) D ?_
      repeat (go_big_quiet_step (first
        | rfl
        | (go_at_call 12; exact (C1.out _).mono (fun _ _ ⟨he, hw⟩ => ⟨he, _, hw⟩))
        | (go_at_call 13; exact (C2.out _).mono (fun _ _ ⟨he, hw⟩ => ⟨he, _, hw⟩))
        | (go_at_call 14; exact (C3.out _).mono (fun _ _ ⟨he, hw⟩ => ⟨he, _, hw⟩))
        | (go_at_call 15; exact (C4.out _).mono (fun _ _ ⟨he, hw⟩ => ⟨he, _, hw⟩))
        | (go_at_call 16; exact calls_cls HF HF1 (C5.out _))
        | (go_at_call 17; exact calls_cls HF HF1 (C6.out _))))
      refine wpQuiet_nil ?_
      intro wz hwz
      obtain ⟨u, rfl⟩ := hwz
      have AV := hid (A4'.out.trans (HF1.out u))
      go_wp2
      go_roundw
      case rel => exact ⟨k + 1, by have := HK.out; omega, by simp, AV.out⟩
      case measure => have := HK.out; simp [intOf]; omega
    · obtain rfl : k = len := by omega
      have AA := hid A
      clear A HC
      go_wp2
      go_ret
      exact ⟨rfl, AA.out⟩
set_option maxHeartbeats 2000000 in
theorem num_none (a0 : Option Addr) (cap : Nat) (w : World) (h : Fr w) :
    Calls Tryd.prog 5 #[.slice a0 0 cap] w fun e w' => e = .returned (.bool true) ∧ Below w.heap.size w w' := by
  have AWK := hid (awake_at w h)
  clear h
  go_enter Tryd.func5, Tryd.ntmps5
  go_wp2_with fail
  refine AWK.out.mono ?_
  rintro e w1 ⟨rfl, b1⟩
  have A1 : Hid (Ab w w1) := b1
  clear b1
  go_wp2
  go_loopw [3] (fun iv wr => iv = .int .i64 0 ∧ Ab w wr) (fun _ _ => 0)
  case atStart => exact ⟨rfl, A1.out⟩
  case round =>
    obtain ⟨rfl, A⟩ := hrel
    have AA := hid A
    clear A
    go_wp2
    go_ret
    exact ⟨rfl, AA.out⟩
end Go.Proofs.YthmljifkncfjgaaDoor
