/-
  Beside and Turn of all numbers: the walk.
-/
import Derived.Test.YthfholdhieigiaaDoorXj
import Derived.Test.YthfholdhieigiaaDoorKr
namespace Go.Proofs.YthfholdhieigiaaDoor
open Go.RowKit Cu
/-- eight whole numbers from there on -/
def AskAt (w : World) (b o : Nat) : Prop := ∃ a0 a1 a2 a3 a4 a5 a6 a7 : Int, (w.cell? ⟨b, o, none⟩ = some (.int .i64 a0) ∧ w.cell? ⟨b, o + 1, none⟩ = some (.int .i64 a1) ∧ w.cell? ⟨b, o + 2, none⟩ = some (.int .i64 a2) ∧ w.cell? ⟨b, o + 3, none⟩ = some (.int .i64 a3)) ∧ (w.cell? ⟨b, o + 4, none⟩ = some (.int .i64 a4) ∧ w.cell? ⟨b, o + 5, none⟩ = some (.int .i64 a5) ∧ w.cell? ⟨b, o + 6, none⟩ = some (.int .i64 a6) ∧ w.cell? ⟨b, o + 7, none⟩ = some (.int .i64 a7)) ∧ (I64 a0 ∧ I64 a1 ∧ I64 a2 ∧ I64 a3 ∧ I64 a4 ∧ I64 a5 ∧ I64 a6 ∧ I64 a7)
theorem beside_both (n c s : Int) : ∃ d q : Int, (∀ w, Fr w → Calls Tryd.prog 5 #[.int .i64 n, .int .i64 c, .int .i64 s] w fun e w' => e = .returned (.tuple #[.int .i64 d, .int .i64 q]) ∧ Below w.heap.size w w') ∧ ∀ w, Calls Tryd.prog 6 #[.int .i64 n, .int .i64 c, .int .i64 s] w fun e w' => e = .returned (.tuple #[.int .i64 d, .int .i64 q]) ∧ Below w.heap.size w w' := by
  by_cases h : inR c (clN n) = true ∧ inR s 4 = true
  · obtain ⟨h1, h2⟩ := h
    rw [inR_iff] at h1 h2
    have hn : 1 ≤ n ∧ n ≤ 32 := by
      by_cases hh : 1 ≤ n ∧ n ≤ 32
      · exact hh
      · have : clN n = 0 := by simp [clN]; omega
        omega
    obtain ⟨N, rfl⟩ := Int.eq_ofNat_of_zero_le (show 0 ≤ n by omega)
    obtain ⟨C, rfl⟩ := Int.eq_ofNat_of_zero_le h1.1
    obtain ⟨S, rfl⟩ := Int.eq_ofNat_of_zero_le h2.1
    have hN : 1 ≤ N ∧ N ≤ 32 := by omega
    rw [clN_nat hN] at h1
    have hC : C < 6 * N * N := by omega
    exact ⟨_, _, fun w hw => beside_at N C S w hN hC (by omega) hw, fun w => rbeside_at N C S w hN hC (by omega)⟩
  · exact ⟨_, _, fun w _ => beside_no n c s w h, fun w => rbeside_no n c s w h⟩
theorem turn_both (n t c : Int) : ∃ d q : Int, (∀ w, Fr w → Calls Tryd.prog 7 #[.int .i64 n, .int .i64 t, .int .i64 c] w fun e w' => e = .returned (.tuple #[.int .i64 d, .int .i64 q]) ∧ Below w.heap.size w w') ∧ ∀ w, Calls Tryd.prog 8 #[.int .i64 n, .int .i64 t, .int .i64 c] w fun e w' => e = .returned (.tuple #[.int .i64 d, .int .i64 q]) ∧ Below w.heap.size w w' := by
  by_cases h : inR c (clN n) = true ∧ inR t 24 = true
  · obtain ⟨h1, h2⟩ := h
    rw [inR_iff] at h1 h2
    have hn : 1 ≤ n ∧ n ≤ 32 := by
      by_cases hh : 1 ≤ n ∧ n ≤ 32
      · exact hh
      · have : clN n = 0 := by simp [clN]; omega
        omega
    obtain ⟨N, rfl⟩ := Int.eq_ofNat_of_zero_le (show 0 ≤ n by omega)
    obtain ⟨C, rfl⟩ := Int.eq_ofNat_of_zero_le h1.1
    obtain ⟨T, rfl⟩ := Int.eq_ofNat_of_zero_le h2.1
    have hN : 1 ≤ N ∧ N ≤ 32 := by omega
    rw [clN_nat hN] at h1
    have hC : C < 6 * N * N := by omega
    exact ⟨_, _, fun w hw => turn_at N T C w hN hC (by omega) hw, fun w => rturn_at N T C w hN hC (by omega)⟩
  · exact ⟨_, _, fun w _ => turn_no n c t w h, fun w => rturn_no n t c w (fun k => h k.symm)⟩
set_option maxRecDepth 100000 in
set_option maxHeartbeats 8000000 in
theorem sides_go (b off len cap : Nat) (w : World) (hcap : len ≤ cap) (hl : (cap : Int) ≤ 9223372036854775807) (hb : b < w.heap.size) (hc : ∀ k, k < len → AskAt w b (off + k * 8)) (h : Fr w) :
    Calls Tryd.prog 3 #[.slice (some ⟨b, off, none⟩) len cap] w fun e w' => e = .returned (.bool true) ∧ Below w.heap.size w w' := by
  have AWK := hid (awake_at w h)
  have HC := hid hc
  have HF0 := hid h
  have HB := hid hb
  clear hc h hb
  go_enter Tryd.func3, Tryd.ntmps3
  go_wp2_with fail
  refine AWK.out.mono ?_
  rintro e w1 ⟨rfl, b1⟩
  have A1 : Hid (Ab w w1) := b1
  clear b1
  go_wp2
  go_loopw [3] (fun iv wr => ∃ k : Nat, k ≤ len ∧ iv = .int .i64 (k : Nat) ∧ Ab w wr) (fun iv _ => len - (intOf iv).toNat)
  case atStart => exact ⟨0, by omega, rfl, A1.out⟩
  case round =>
    obtain ⟨k, hk, rfl, A⟩ := hrel
    by_cases hkl : k < len
    · have hk' : (k : Int) < len := by omega
      obtain ⟨a0, a1, a2, a3, a4, a5, a6, a7, ⟨c0, c1, c2, c3⟩, ⟨c4, c5, c6, c7⟩, _⟩ := HC.out k hkl
      have d0 : wr.cell? ⟨b, off + k * 8, none⟩ = some (.int .i64 a0) := (Below.cell A (by exact HB.out)).trans c0
      have d1 : wr.cell? ⟨b, off + k * 8 + 1, none⟩ = some (.int .i64 a1) := (Below.cell A (by exact HB.out)).trans c1
      have d2 : wr.cell? ⟨b, off + k * 8 + 2, none⟩ = some (.int .i64 a2) := (Below.cell A (by exact HB.out)).trans c2
      have d3 : wr.cell? ⟨b, off + k * 8 + 3, none⟩ = some (.int .i64 a3) := (Below.cell A (by exact HB.out)).trans c3
      have d4 : wr.cell? ⟨b, off + k * 8 + 4, none⟩ = some (.int .i64 a4) := (Below.cell A (by exact HB.out)).trans c4
      have d5 : wr.cell? ⟨b, off + k * 8 + 5, none⟩ = some (.int .i64 a5) := (Below.cell A (by exact HB.out)).trans c5
      have d6 : wr.cell? ⟨b, off + k * 8 + 6, none⟩ = some (.int .i64 a6) := (Below.cell A (by exact HB.out)).trans c6
      have d7 : wr.cell? ⟨b, off + k * 8 + 7, none⟩ = some (.int .i64 a7) := (Below.cell A (by exact HB.out)).trans c7
      obtain ⟨p1, q1, B1, B2⟩ := beside_both a0 a4 a5
      obtain ⟨p2, q2, T1, T2⟩ := turn_both a0 a6 a4
      have CB1 := hid B1
      have CB2 := hid B2
      have CT1 := hid T1
      have CT2 := hid T2
      have AA := hid A
      have HK := hid hkl
      have kl : (k : Int) + 1 ≤ 9223372036854775807 := by omega
      clear c0 c1 c2 c3 c4 c5 c6 c7 A hkl B1 B2 T1 T2
      go_upto_region 7 with fail
      generalize hW : World.alloc wr _ = W
      obtain ⟨ga, hga⟩ : ∃ g, wr.heap.size = g := ⟨_, rfl⟩
      have rA : W.heap[ga]? = some (.cells #[.int .i64 a0, .int .i64 a1, .int .i64 a2, .int .i64 a3, .int .i64 a4, .int .i64 a5, .int .i64 a6, .int .i64 a7] 25) := by rw [← hW, ← hga]; exact heap_alloc_new _ _
      have A2 : Ab w W := by rw [← hW]; exact AA.out.alloc _
      rw [hga]
      clear hW hga d0 d1 d2 d3 d4 d5 d6 d7 AA
      have z00 : W.cell? ⟨ga, 0, none⟩ = some (.int .i64 a0) := cell_of_row _ _ 0 _ _ _ rA
      have z04 : W.cell? ⟨ga, 4, none⟩ = some (.int .i64 a4) := cell_of_row _ _ 4 _ _ _ rA
      have z05 : W.cell? ⟨ga, 5, none⟩ = some (.int .i64 a5) := cell_of_row _ _ 5 _ _ _ rA
      have HA0 := hid A2
      have HR0 := hid rA
      clear A2 rA
      go_wp2_with fail
      refine (CB1.out _ (HF0.out.to HA0.out)).mono ?_
      rintro e v0 ⟨rfl, b0⟩
      have r0 := Ab.heap b0 HR0.out
      have A0v := HA0.out.call b0
      clear b0 z00 z04 z05 HA0 HR0
      have z10 : v0.cell? ⟨ga, 0, none⟩ = some (.int .i64 a0) := cell_of_row _ _ 0 _ _ _ r0
      have z14 : v0.cell? ⟨ga, 4, none⟩ = some (.int .i64 a4) := cell_of_row _ _ 4 _ _ _ r0
      have z15 : v0.cell? ⟨ga, 5, none⟩ = some (.int .i64 a5) := cell_of_row _ _ 5 _ _ _ r0
      have HA1 := hid A0v
      have HR1 := hid r0
      clear A0v r0
      go_wp2_with fail
      refine (CB2.out _).mono ?_
      rintro e v1 ⟨rfl, b1⟩
      have r1 := Ab.heap b1 HR1.out
      have A1v := HA1.out.call b1
      clear b1 z10 z14 z15 HA1 HR1
      have z20 : v1.cell? ⟨ga, 0, none⟩ = some (.int .i64 a0) := cell_of_row _ _ 0 _ _ _ r1
      have z26 : v1.cell? ⟨ga, 6, none⟩ = some (.int .i64 a6) := cell_of_row _ _ 6 _ _ _ r1
      have z24 : v1.cell? ⟨ga, 4, none⟩ = some (.int .i64 a4) := cell_of_row _ _ 4 _ _ _ r1
      have HA2 := hid A1v
      have HR2 := hid r1
      clear A1v r1
      go_wp2_with fail
      refine (CT1.out _ (HF0.out.to HA2.out)).mono ?_
      rintro e v2 ⟨rfl, b2⟩
      have r2 := Ab.heap b2 HR2.out
      have A2v := HA2.out.call b2
      clear b2 z20 z26 z24 HA2 HR2
      have z30 : v2.cell? ⟨ga, 0, none⟩ = some (.int .i64 a0) := cell_of_row _ _ 0 _ _ _ r2
      have z36 : v2.cell? ⟨ga, 6, none⟩ = some (.int .i64 a6) := cell_of_row _ _ 6 _ _ _ r2
      have z34 : v2.cell? ⟨ga, 4, none⟩ = some (.int .i64 a4) := cell_of_row _ _ 4 _ _ _ r2
      have HA3 := hid A2v
      have HR3 := hid r2
      clear A2v r2
      go_wp2_with fail
      refine (CT2.out _).mono ?_
      rintro e v3 ⟨rfl, b3⟩
      have r3 := Ab.heap b3 HR3.out
      have A3v := HA3.out.call b3
      clear b3 z30 z36 z34 HA3 HR3
      have hq1 : (q1 != q1) = false := by simp
      have hp1 : (p1 != p1) = false := by simp
      have hq2 : (q2 != q2) = false := by simp
      have hp2 : (p2 != p2) = false := by simp
      have AV := hid A3v
      clear A3v r3
      go_wp2
      go_roundw
      case rel => exact ⟨k + 1, by have := HK.out; omega, by simp, AV.out⟩
      case measure => have := HK.out; simp [intOf]; omega
    · obtain rfl : k = len := by omega
      have AA := hid A
      clear A HC
      go_wp2
      go_ret
      exact ⟨rfl, AA.out⟩
set_option maxHeartbeats 2000000 in
theorem sides_none (a0 : Option Addr) (cap : Nat) (w : World) (h : Fr w) :
    Calls Tryd.prog 3 #[.slice a0 0 cap] w fun e w' => e = .returned (.bool true) ∧ Below w.heap.size w w' := by
  have AWK := hid (awake_at w h)
  clear h
  go_enter Tryd.func3, Tryd.ntmps3
  go_wp2_with fail
  refine AWK.out.mono ?_
  rintro e w1 ⟨rfl, b1⟩
  have A1 : Hid (Ab w w1) := b1
  clear b1
  go_wp2
  go_loopw [3] (fun iv wr => iv = .int .i64 0 ∧ Ab w wr) (fun _ _ => 0)
  case atStart => exact ⟨rfl, A1.out⟩
  case round =>
    obtain ⟨rfl, A⟩ := hrel
    have AA := hid A
    clear A
    go_wp2
    go_ret
    exact ⟨rfl, AA.out⟩
end Go.Proofs.YthfholdhieigiaaDoor
