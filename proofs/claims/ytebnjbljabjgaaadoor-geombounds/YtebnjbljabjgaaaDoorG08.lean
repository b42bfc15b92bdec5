/-
  Some of the texts of this proof, one behind the other.
-/
import Derived.Deep.Cut
import Derived.Test.YtebnjbljabjgaaaDoorG07
namespace Go.Proofs.YtebnjbljabjgaaaDoor
open Go.RowKit Tf Cu
attribute [local go_sem] run_bits run_from raw_feq raw_fne raw_flt raw_fgt run_neg run_store_float
set_option maxHeartbeats 16000000 in
theorem ends8_1 (n c s : Nat) (w : World) (hn : 1 ≤ n ∧ n ≤ 32) (hc : c < 6 * n * n) (hs : s < 4) (hk : s = 1) :
    Calls Tryd.prog 11 #[.int .i64 n, .int .i64 c, .int .i64 s] w fun e w' => e = .returned (.tuple #[.agg #[.float .f64 (px n (C1 n c s)), .float .f64 (py n (C1 n c s)), .float .f64 (pz n (C1 n c s))], .agg #[.float .f64 (px n (C2 n c s)), .float .f64 (py n (C2 n c s)), .float .f64 (pz n (C2 n c s))]]) ∧ Below w.heap.size w w' := by
  obtain ⟨h1, h2, h3, -⟩ := dec_lt hn.1 hc
  have PL := hid (fun u => place_ok n c hn hc u)
  obtain ⟨i1, j1, i2, j2, ⟨e1, e2, e3, e4⟩, K1, K2⟩ := ends8_calls n c s hn hc hs
  have K1 := hid K1
  have K2 := hid K2
  generalize px n (C1 n c s) = x1 at *
  generalize py n (C1 n c s) = y1 at *
  generalize pz n (C1 n c s) = z1 at *
  generalize px n (C2 n c s) = x2 at *
  generalize py n (C2 n c s) = y2 at *
  generalize pz n (C2 n c s) = z2 at *
  have hi : ((ci n c : Nat) : Int) ≤ 32 := by omega
  have hj : ((cj n c : Nat) : Int) ≤ 32 := by omega
  generalize cf n c = f at *
  generalize ci n c = i at *
  generalize cj n c = j at *
  clear hn hc h1 h2 h3
  have A0 := hid (bl2 w (.cells #[.float .f64 0, .float .f64 0, .float .f64 0] 30) (.cells #[.float .f64 0, .float .f64 0, .float .f64 0] 30))
  have R0 := hid (And.intro (heap_alloc2_old w (.cells #[.float .f64 0, .float .f64 0, .float .f64 0] 30) (.cells #[.float .f64 0, .float .f64 0, .float .f64 0] 30)) (heap_alloc2_new w (.cells #[.float .f64 0, .float .f64 0, .float .f64 0] 30) (.cells #[.float .f64 0, .float .f64 0, .float .f64 0] 30)))
  subst hk
  · obtain rfl : i1 = 0 := e1
    obtain rfl : j1 = 1 := e2
    obtain rfl : i2 = 1 := e3
    obtain rfl : j2 = 1 := e4
    have L1 : Hid (∀ u, Calls Tryd.prog 14 #[.int .i64 n, .int .i64 f, .int .i64 (IntKind.i64.wrap ((i : Nat) : Int)), .int .i64 (IntKind.i64.wrap (((j : Nat) : Int) + 1))] u fun e w' => e = .returned (.tuple #[.agg #[.float .f64 x1, .float .f64 y1, .float .f64 z1], .bool true]) ∧ Below u.heap.size u w') := fun u => by
      rw [wr64 _ (by omega) (by omega), wr64 _ (by omega) (by omega)]; exact K1.out u
    have L2 : Hid (∀ u, Calls Tryd.prog 14 #[.int .i64 n, .int .i64 f, .int .i64 (IntKind.i64.wrap (((i : Nat) : Int) + 1)), .int .i64 (IntKind.i64.wrap (((j : Nat) : Int) + 1))] u fun e w' => e = .returned (.tuple #[.agg #[.float .f64 x2, .float .f64 y2, .float .f64 z2], .bool true]) ∧ Below u.heap.size u w') := fun u => by
      rw [wr64 _ (by omega) (by omega), wr64 _ (by omega) (by omega)]; exact K2.out u
    clear hs K1 K2
    clear K1 K2
    go_enter Tryd.func11, Tryd.ntmps11
    go_wp2_with fail
    refine (PL.out _).mono ?_
    rintro e w1 ⟨rfl, m0, rfl⟩
    go_upto_region 4 with fail
    have FR := hid (four_rows w (.cells #[.float .f64 0, .float .f64 0, .float .f64 0] 30) (.cells #[.float .f64 0, .float .f64 0, .float .f64 0] 30) (.cells #[.int .i64 1, .int .i64 0, .int .i64 0, .int .i64 0] 3) (.cells #[.int .i64 0, .int .i64 1, .int .i64 0, .int .i64 0] 3) m0)
    generalize hW : World.alloc _ _ = W
    have FW : Hid (W.heap[w.heap.size]? = some (.cells #[.float .f64 0, .float .f64 0, .float .f64 0] 30) ∧ W.heap[w.heap.size + 1]? = some (.cells #[.float .f64 0, .float .f64 0, .float .f64 0] 30) ∧ W.heap[w.heap.size + 1 + 1]? = some (.cells #[.int .i64 1, .int .i64 0, .int .i64 0, .int .i64 0] 3) ∧ W.heap[w.heap.size + 1 + 1 + 1]? = some (.cells #[.int .i64 0, .int .i64 1, .int .i64 0, .int .i64 0] 3) ∧ Ab w W) := by rw [← hW]; exact FR.out
    clear hW FR A0 R0 PL
    have KS : Hid (∀ w', Ab W w' → Ab W w' ∧ w'.cell? ⟨w.heap.size + 1 + 1, 1, none⟩ = some (.int .i64 0) ∧ w'.cell? ⟨w.heap.size + 1 + 1 + 1, 1, none⟩ = some (.int .i64 1)) := fun w' hw => ⟨hw, cell_of_row _ _ 1 _ _ _ (hw.heap FW.out.2.2.1), cell_of_row _ _ 1 _ _ _ (hw.heap FW.out.2.2.2.1)⟩
    have AW := Ab.refl W
    have LS : Hid (∀ u, Ab W u → Calls Tryd.prog 14 #[.int .i64 n, .int .i64 f, .int .i64 (IntKind.i64.wrap ((i : Nat) : Int)), .int .i64 (IntKind.i64.wrap (((j : Nat) : Int) + 1))] u fun e w' => e = .returned (.tuple #[.agg #[.float .f64 x1, .float .f64 y1, .float .f64 z1], .bool true]) ∧ Below u.heap.size u w' ∧ Ab W w') := fun u hu => (L1.out u).mono fun _ _ ⟨he, hb⟩ => ⟨he, hb, hu.call hb⟩
    go_cut [14] from 28 to 46 (fun s14 wx => ∃ g14, s14 = .pointer (some ⟨g14, 0, none⟩) ∧ Ab W wx ∧ W.heap.size ≤ g14 ∧ wx.heap[g14]? = some (.cells #[.float .f64 x1, .float .f64 y1, .float .f64 z1] 30))
    case first =>
      go_region_held3 (fun w' => Ab W w' ∧ w'.cell? ⟨w.heap.size + 1 + 1, 1, none⟩ = some (.int .i64 0) ∧ w'.cell? ⟨w.heap.size + 1 + 1 + 1, 1, none⟩ = some (.int .i64 1)) ((refine KS.out _ ?_; (with_reducible (repeat (first | assumption | apply Ab.drew | apply Ab.alloc | (refine Ab.call ?_ (by assumption)) | (refine Ab.setk ?_ (by first | assumption | exact Nat.le_refl _ | omega) _)))); done)) (first
        | (go_at_call 14; refine (LS.out _ ?_).mono ?_; (exact And.left (by assumption)); rintro e w2 ⟨rfl, b2, a2⟩; have l2 : W.heap.size ≤ w2.heap.size := Nat.le_trans (by first | exact Nat.le_refl _ | (simp; done)) (Below.size b2); (try (have n2 := newrow b2; have n2' := rowfacts n2; obtain ⟨⟨_, _, _⟩, _, _, _⟩ := n2'))))
      all_goals go_wp2_with fail
      all_goals go_meet
      all_goals refine ⟨_, rfl, ?_, ?_, ?_⟩
      all_goals first
        | exact heap_alloc_new _ _
        | exact row3 n2
        | exact a2.size
        | exact l2
        | exact Nat.le_refl _
        | ((with_reducible (repeat (first | assumption | apply Ab.drew | apply Ab.alloc | (refine Ab.setk ?_ (by first | assumption | exact Nat.le_refl _ | omega) _)))); done)
    case rest =>
    obtain ⟨g14, rfl, A4, hg14, r14⟩ := hcut
    have R14 := hid r14
    have F4 := hid (And.intro (A4.heap FW.out.1) (And.intro (A4.heap FW.out.2.1) (FW.out.2.2.2.2.trans A4)))
    have HG : Hid (w.heap.size + 4 ≤ g14) := by
      have := lt_of_block FW.out.2.2.2.1
      show _ ≤ _
      omega
    clear KS AW r14 A4 hg14 L1 LS FW
    go_upto_region 7 with fail
    have FR := hid (And.intro (heap_alloc2_old wc (.cells #[.int .i64 1, .int .i64 1, .int .i64 0, .int .i64 1] 3) (.cells #[.int .i64 1, .int .i64 1, .int .i64 1, .int .i64 0] 3)) (heap_alloc2_new wc (.cells #[.int .i64 1, .int .i64 1, .int .i64 0, .int .i64 1] 3) (.cells #[.int .i64 1, .int .i64 1, .int .i64 1, .int .i64 0] 3)))
    have FB := hid (bl2 wc (.cells #[.int .i64 1, .int .i64 1, .int .i64 0, .int .i64 1] 3) (.cells #[.int .i64 1, .int .i64 1, .int .i64 1, .int .i64 0] 3))
    generalize hW : World.alloc _ _ = W2
    have FW : Hid (W2.heap[wc.heap.size]? = some (.cells #[.int .i64 1, .int .i64 1, .int .i64 0, .int .i64 1] 3) ∧ W2.heap[wc.heap.size + 1]? = some (.cells #[.int .i64 1, .int .i64 1, .int .i64 1, .int .i64 0] 3)) := by rw [← hW]; exact FR.out
    have A2 : Ab wc W2 := by rw [← hW]; exact FB.out
    have F2 := hid (And.intro (A2.heap F4.out.1) (And.intro (A2.heap F4.out.2.1) (F4.out.2.2.trans A2)))
    have R2 := hid (A2.heap R14.out)
    clear hW FR FB A2 F4 R14
    have KS : Hid (∀ w', Ab W2 w' → Ab W2 w' ∧ w'.cell? ⟨wc.heap.size, 1, none⟩ = some (.int .i64 1) ∧ w'.cell? ⟨wc.heap.size + 1, 1, none⟩ = some (.int .i64 1)) := fun w' hw => ⟨hw, cell_of_row _ _ 1 _ _ _ (hw.heap FW.out.1), cell_of_row _ _ 1 _ _ _ (hw.heap FW.out.2)⟩
    have AW := Ab.refl W2
    have LS : Hid (∀ u, Ab W2 u → Calls Tryd.prog 14 #[.int .i64 n, .int .i64 f, .int .i64 (IntKind.i64.wrap (((i : Nat) : Int) + 1)), .int .i64 (IntKind.i64.wrap (((j : Nat) : Int) + 1))] u fun e w' => e = .returned (.tuple #[.agg #[.float .f64 x2, .float .f64 y2, .float .f64 z2], .bool true]) ∧ Below u.heap.size u w' ∧ Ab W2 w') := fun u hu => (L2.out u).mono fun _ _ ⟨he, hb⟩ => ⟨he, hb, hu.call hb⟩
    go_cut [16] from 48 to 66 (fun s16 wx => ∃ g16, s16 = .pointer (some ⟨g16, 0, none⟩) ∧ Ab W2 wx ∧ W2.heap.size ≤ g16 ∧ wx.heap[g16]? = some (.cells #[.float .f64 x2, .float .f64 y2, .float .f64 z2] 30))
    case first =>
      go_region_held3 (fun w' => Ab W2 w' ∧ w'.cell? ⟨wc.heap.size, 1, none⟩ = some (.int .i64 1) ∧ w'.cell? ⟨wc.heap.size + 1, 1, none⟩ = some (.int .i64 1)) ((refine KS.out _ ?_; (with_reducible (repeat (first | assumption | apply Ab.drew | apply Ab.alloc | (refine Ab.call ?_ (by assumption)) | (refine Ab.setk ?_ (by first | assumption | exact Nat.le_refl _ | omega) _)))); done)) (first
        | (go_at_call 14; refine (LS.out _ ?_).mono ?_; (exact And.left (by assumption)); rintro e w2 ⟨rfl, b2, a2⟩; have l2 : W2.heap.size ≤ w2.heap.size := Nat.le_trans (by first | exact Nat.le_refl _ | (simp; done)) (Below.size b2); (try (have n2 := newrow b2; have n2' := rowfacts n2; obtain ⟨⟨_, _, _⟩, _, _, _⟩ := n2'))))
      all_goals go_wp2_with fail
      all_goals go_meet
      all_goals refine ⟨_, rfl, ?_, ?_, ?_⟩
      all_goals first
        | exact heap_alloc_new _ _
        | exact row3 n2
        | exact a2.size
        | exact l2
        | exact Nat.le_refl _
        | ((with_reducible (repeat (first | assumption | apply Ab.drew | apply Ab.alloc | (refine Ab.setk ?_ (by first | assumption | exact Nat.le_refl _ | omega) _)))); done)
    case rest =>
    obtain ⟨g16, rfl, A4, hg16, r16⟩ := hcut
    have R14 := hid (A4.heap R2.out)
    have G0 := hid (A4.heap F2.out.1)
    have G1 := hid (A4.heap F2.out.2.1)
    have AZ := hid (F2.out.2.2.trans A4)
    have HG2 : w.heap.size + 2 ≤ g16 := by
      have := lt_of_block F2.out.2.1
      omega
    have HG1 : w.heap.size + 2 ≤ g14 := by have := HG.out; omega
    have R16 := hid r16
    clear KS AW LS L2 FW F2 R2 A4 hg16 r16 HG
    obtain ⟨-, a0, a1, a2⟩ := rowfacts R14.out
    obtain ⟨-, d0, d1, d2⟩ := rowfacts R16.out
    obtain ⟨⟨o0, o1, o2⟩, zz0, zz1, zz2⟩ := rowfacts G0.out
    obtain ⟨⟨o3, o4, o5⟩, zz3, zz4, zz5⟩ := rowfacts G1.out
    go_upto_region 8 with fail
    go_region
    have r0' := other3 (g := w.heap.size + 1) (h := w.heap.size) (a := 0) (b := 1) (c := 2) (x := .float .f64 x2) (y := .float .f64 y2) (z := .float .f64 z2) (by omega) (row3 (x := .float .f64 x1) (y := .float .f64 y1) (z := .float .f64 z1) G0.out)
    have r1' := row3 (x := .float .f64 x2) (y := .float .f64 y2) (z := .float .f64 z2) (other3 (g := w.heap.size) (h := w.heap.size + 1) (a := 0) (b := 1) (c := 2) (x := .float .f64 x1) (y := .float .f64 y1) (z := .float .f64 z1) (by omega) G1.out)
    have R0' := hid r0'
    have R1' := hid r1'
    clear r0' r1'
    all_goals go_wp2
    refine bodyPost_ret ?_ rfl ⟨rfl, ?_⟩
    · exact res_rows Tryd.results11 _ _ w.heap.size (w.heap.size + 1) _ _ _ _ rfl rfl (by rw [heap_drew]; exact R0'.out) (by rw [heap_drew]; exact R1'.out) Tryd.underlying30 rfl (by kernel_rfl) (by kernel_rfl)
    · exact Ab.drew ((((((Ab.setk AZ.out (by omega) _).setk (by omega) _).setk (by omega) _).setk (by omega) _).setk (by omega) _).setk (by omega) _)
end Go.Proofs.YtebnjbljabjgaaaDoor

namespace Go.Proofs.YtebnjbljabjgaaaDoor
open Go.RowKit Tf Cu
attribute [local go_sem] run_bits run_from raw_feq raw_fne raw_flt raw_fgt run_neg run_store_float
set_option maxHeartbeats 16000000 in
theorem ends8_2 (n c s : Nat) (w : World) (hn : 1 ≤ n ∧ n ≤ 32) (hc : c < 6 * n * n) (hs : s < 4) (hk : s = 2) :
    Calls Tryd.prog 11 #[.int .i64 n, .int .i64 c, .int .i64 s] w fun e w' => e = .returned (.tuple #[.agg #[.float .f64 (px n (C1 n c s)), .float .f64 (py n (C1 n c s)), .float .f64 (pz n (C1 n c s))], .agg #[.float .f64 (px n (C2 n c s)), .float .f64 (py n (C2 n c s)), .float .f64 (pz n (C2 n c s))]]) ∧ Below w.heap.size w w' := by
  obtain ⟨h1, h2, h3, -⟩ := dec_lt hn.1 hc
  have PL := hid (fun u => place_ok n c hn hc u)
  obtain ⟨i1, j1, i2, j2, ⟨e1, e2, e3, e4⟩, K1, K2⟩ := ends8_calls n c s hn hc hs
  have K1 := hid K1
  have K2 := hid K2
  generalize px n (C1 n c s) = x1 at *
  generalize py n (C1 n c s) = y1 at *
  generalize pz n (C1 n c s) = z1 at *
  generalize px n (C2 n c s) = x2 at *
  generalize py n (C2 n c s) = y2 at *
  generalize pz n (C2 n c s) = z2 at *
  have hi : ((ci n c : Nat) : Int) ≤ 32 := by omega
  have hj : ((cj n c : Nat) : Int) ≤ 32 := by omega
  generalize cf n c = f at *
  generalize ci n c = i at *
  generalize cj n c = j at *
  clear hn hc h1 h2 h3
  have A0 := hid (bl2 w (.cells #[.float .f64 0, .float .f64 0, .float .f64 0] 30) (.cells #[.float .f64 0, .float .f64 0, .float .f64 0] 30))
  have R0 := hid (And.intro (heap_alloc2_old w (.cells #[.float .f64 0, .float .f64 0, .float .f64 0] 30) (.cells #[.float .f64 0, .float .f64 0, .float .f64 0] 30)) (heap_alloc2_new w (.cells #[.float .f64 0, .float .f64 0, .float .f64 0] 30) (.cells #[.float .f64 0, .float .f64 0, .float .f64 0] 30)))
  subst hk
  · obtain rfl : i1 = 0 := e1
    obtain rfl : j1 = 0 := e2
    obtain rfl : i2 = 0 := e3
    obtain rfl : j2 = 1 := e4
    have L1 : Hid (∀ u, Calls Tryd.prog 14 #[.int .i64 n, .int .i64 f, .int .i64 (IntKind.i64.wrap ((i : Nat) : Int)), .int .i64 (IntKind.i64.wrap ((j : Nat) : Int))] u fun e w' => e = .returned (.tuple #[.agg #[.float .f64 x1, .float .f64 y1, .float .f64 z1], .bool true]) ∧ Below u.heap.size u w') := fun u => by
      rw [wr64 _ (by omega) (by omega), wr64 _ (by omega) (by omega)]; exact K1.out u
    have L2 : Hid (∀ u, Calls Tryd.prog 14 #[.int .i64 n, .int .i64 f, .int .i64 (IntKind.i64.wrap ((i : Nat) : Int)), .int .i64 (IntKind.i64.wrap (((j : Nat) : Int) + 1))] u fun e w' => e = .returned (.tuple #[.agg #[.float .f64 x2, .float .f64 y2, .float .f64 z2], .bool true]) ∧ Below u.heap.size u w') := fun u => by
      rw [wr64 _ (by omega) (by omega), wr64 _ (by omega) (by omega)]; exact K2.out u
    clear hs K1 K2
    clear K1 K2
    go_enter Tryd.func11, Tryd.ntmps11
    go_wp2_with fail
    refine (PL.out _).mono ?_
    rintro e w1 ⟨rfl, m0, rfl⟩
    go_upto_region 4 with fail
    have FR := hid (four_rows w (.cells #[.float .f64 0, .float .f64 0, .float .f64 0] 30) (.cells #[.float .f64 0, .float .f64 0, .float .f64 0] 30) (.cells #[.int .i64 1, .int .i64 0, .int .i64 0, .int .i64 0] 3) (.cells #[.int .i64 0, .int .i64 1, .int .i64 0, .int .i64 0] 3) m0)
    generalize hW : World.alloc _ _ = W
    have FW : Hid (W.heap[w.heap.size]? = some (.cells #[.float .f64 0, .float .f64 0, .float .f64 0] 30) ∧ W.heap[w.heap.size + 1]? = some (.cells #[.float .f64 0, .float .f64 0, .float .f64 0] 30) ∧ W.heap[w.heap.size + 1 + 1]? = some (.cells #[.int .i64 1, .int .i64 0, .int .i64 0, .int .i64 0] 3) ∧ W.heap[w.heap.size + 1 + 1 + 1]? = some (.cells #[.int .i64 0, .int .i64 1, .int .i64 0, .int .i64 0] 3) ∧ Ab w W) := by rw [← hW]; exact FR.out
    clear hW FR A0 R0 PL
    have KS : Hid (∀ w', Ab W w' → Ab W w' ∧ w'.cell? ⟨w.heap.size + 1 + 1, 2, none⟩ = some (.int .i64 0) ∧ w'.cell? ⟨w.heap.size + 1 + 1 + 1, 2, none⟩ = some (.int .i64 0)) := fun w' hw => ⟨hw, cell_of_row _ _ 2 _ _ _ (hw.heap FW.out.2.2.1), cell_of_row _ _ 2 _ _ _ (hw.heap FW.out.2.2.2.1)⟩
    have AW := Ab.refl W
    have LS : Hid (∀ u, Ab W u → Calls Tryd.prog 14 #[.int .i64 n, .int .i64 f, .int .i64 (IntKind.i64.wrap ((i : Nat) : Int)), .int .i64 (IntKind.i64.wrap ((j : Nat) : Int))] u fun e w' => e = .returned (.tuple #[.agg #[.float .f64 x1, .float .f64 y1, .float .f64 z1], .bool true]) ∧ Below u.heap.size u w' ∧ Ab W w') := fun u hu => (L1.out u).mono fun _ _ ⟨he, hb⟩ => ⟨he, hb, hu.call hb⟩
    go_cut [14] from 28 to 46 (fun s14 wx => ∃ g14, s14 = .pointer (some ⟨g14, 0, none⟩) ∧ Ab W wx ∧ W.heap.size ≤ g14 ∧ wx.heap[g14]? = some (.cells #[.float .f64 x1, .float .f64 y1, .float .f64 z1] 30))
    case first =>
      go_region_held3 (fun w' => Ab W w' ∧ w'.cell? ⟨w.heap.size + 1 + 1, 2, none⟩ = some (.int .i64 0) ∧ w'.cell? ⟨w.heap.size + 1 + 1 + 1, 2, none⟩ = some (.int .i64 0)) ((refine KS.out _ ?_; (with_reducible (repeat (first | assumption | apply Ab.drew | apply Ab.alloc | (refine Ab.call ?_ (by assumption)) | (refine Ab.setk ?_ (by first | assumption | exact Nat.le_refl _ | omega) _)))); done)) (first
        | (go_at_call 14; refine (LS.out _ ?_).mono ?_; (exact And.left (by assumption)); rintro e w2 ⟨rfl, b2, a2⟩; have l2 : W.heap.size ≤ w2.heap.size := Nat.le_trans (by first | exact Nat.le_refl _ | (simp; done)) (Below.size b2); (try (have n2 := newrow b2; have n2' := rowfacts n2; obtain ⟨⟨_, _, _⟩, _, _, _⟩ := n2'))))
      all_goals go_wp2_with fail
      all_goals go_meet
      all_goals refine ⟨_, rfl, ?_, ?_, ?_⟩
      all_goals first
        | exact heap_alloc_new _ _
        | exact row3 n2
        | exact a2.size
        | exact l2
        | exact Nat.le_refl _
        | ((with_reducible (repeat (first | assumption | apply Ab.drew | apply Ab.alloc | (refine Ab.setk ?_ (by first | assumption | exact Nat.le_refl _ | omega) _)))); done)
    case rest =>
    obtain ⟨g14, rfl, A4, hg14, r14⟩ := hcut
    have R14 := hid r14
    have F4 := hid (And.intro (A4.heap FW.out.1) (And.intro (A4.heap FW.out.2.1) (FW.out.2.2.2.2.trans A4)))
    have HG : Hid (w.heap.size + 4 ≤ g14) := by
      have := lt_of_block FW.out.2.2.2.1
      show _ ≤ _
      omega
    clear KS AW r14 A4 hg14 L1 LS FW
    go_upto_region 7 with fail
    have FR := hid (And.intro (heap_alloc2_old wc (.cells #[.int .i64 1, .int .i64 1, .int .i64 0, .int .i64 1] 3) (.cells #[.int .i64 1, .int .i64 1, .int .i64 1, .int .i64 0] 3)) (heap_alloc2_new wc (.cells #[.int .i64 1, .int .i64 1, .int .i64 0, .int .i64 1] 3) (.cells #[.int .i64 1, .int .i64 1, .int .i64 1, .int .i64 0] 3)))
    have FB := hid (bl2 wc (.cells #[.int .i64 1, .int .i64 1, .int .i64 0, .int .i64 1] 3) (.cells #[.int .i64 1, .int .i64 1, .int .i64 1, .int .i64 0] 3))
    generalize hW : World.alloc _ _ = W2
    have FW : Hid (W2.heap[wc.heap.size]? = some (.cells #[.int .i64 1, .int .i64 1, .int .i64 0, .int .i64 1] 3) ∧ W2.heap[wc.heap.size + 1]? = some (.cells #[.int .i64 1, .int .i64 1, .int .i64 1, .int .i64 0] 3)) := by rw [← hW]; exact FR.out
    have A2 : Ab wc W2 := by rw [← hW]; exact FB.out
    have F2 := hid (And.intro (A2.heap F4.out.1) (And.intro (A2.heap F4.out.2.1) (F4.out.2.2.trans A2)))
    have R2 := hid (A2.heap R14.out)
    clear hW FR FB A2 F4 R14
    have KS : Hid (∀ w', Ab W2 w' → Ab W2 w' ∧ w'.cell? ⟨wc.heap.size, 2, none⟩ = some (.int .i64 0) ∧ w'.cell? ⟨wc.heap.size + 1, 2, none⟩ = some (.int .i64 1)) := fun w' hw => ⟨hw, cell_of_row _ _ 2 _ _ _ (hw.heap FW.out.1), cell_of_row _ _ 2 _ _ _ (hw.heap FW.out.2)⟩
    have AW := Ab.refl W2
    have LS : Hid (∀ u, Ab W2 u → Calls Tryd.prog 14 #[.int .i64 n, .int .i64 f, .int .i64 (IntKind.i64.wrap ((i : Nat) : Int)), .int .i64 (IntKind.i64.wrap (((j : Nat) : Int) + 1))] u fun e w' => e = .returned (.tuple #[.agg #[.float .f64 x2, .float .f64 y2, .float .f64 z2], .bool true]) ∧ Below u.heap.size u w' ∧ Ab W2 w') := fun u hu => (L2.out u).mono fun _ _ ⟨he, hb⟩ => ⟨he, hb, hu.call hb⟩
    go_cut [16] from 48 to 66 (fun s16 wx => ∃ g16, s16 = .pointer (some ⟨g16, 0, none⟩) ∧ Ab W2 wx ∧ W2.heap.size ≤ g16 ∧ wx.heap[g16]? = some (.cells #[.float .f64 x2, .float .f64 y2, .float .f64 z2] 30))
    case first =>
      go_region_held3 (fun w' => Ab W2 w' ∧ w'.cell? ⟨wc.heap.size, 2, none⟩ = some (.int .i64 0) ∧ w'.cell? ⟨wc.heap.size + 1, 2, none⟩ = some (.int .i64 1)) ((refine KS.out _ ?_; (with_reducible (repeat (first | assumption | apply Ab.drew | apply Ab.alloc | (refine Ab.call ?_ (by assumption)) | (refine Ab.setk ?_ (by first | assumption | exact Nat.le_refl _ | omega) _)))); done)) (first
        | (go_at_call 14; refine (LS.out _ ?_).mono ?_; (exact And.left (by assumption)); rintro e w2 ⟨rfl, b2, a2⟩; have l2 : W2.heap.size ≤ w2.heap.size := Nat.le_trans (by first | exact Nat.le_refl _ | (simp; done)) (Below.size b2); (try (have n2 := newrow b2; have n2' := rowfacts n2; obtain ⟨⟨_, _, _⟩, _, _, _⟩ := n2'))))
      all_goals go_wp2_with fail
      all_goals go_meet
      all_goals refine ⟨_, rfl, ?_, ?_, ?_⟩
      all_goals first
        | exact heap_alloc_new _ _
        | exact row3 n2
        | exact a2.size
        | exact l2
        | exact Nat.le_refl _
        | ((with_reducible (repeat (first | assumption | apply Ab.drew | apply Ab.alloc | (refine Ab.setk ?_ (by first | assumption | exact Nat.le_refl _ | omega) _)))); done)
    case rest =>
    obtain ⟨g16, rfl, A4, hg16, r16⟩ := hcut
    have R14 := hid (A4.heap R2.out)
    have G0 := hid (A4.heap F2.out.1)
    have G1 := hid (A4.heap F2.out.2.1)
    have AZ := hid (F2.out.2.2.trans A4)
    have HG2 : w.heap.size + 2 ≤ g16 := by
      have := lt_of_block F2.out.2.1
      omega
    have HG1 : w.heap.size + 2 ≤ g14 := by have := HG.out; omega
    have R16 := hid r16
    clear KS AW LS L2 FW F2 R2 A4 hg16 r16 HG
    obtain ⟨-, a0, a1, a2⟩ := rowfacts R14.out
    obtain ⟨-, d0, d1, d2⟩ := rowfacts R16.out
    obtain ⟨⟨o0, o1, o2⟩, zz0, zz1, zz2⟩ := rowfacts G0.out
    obtain ⟨⟨o3, o4, o5⟩, zz3, zz4, zz5⟩ := rowfacts G1.out
    go_upto_region 8 with fail
    go_region
    have r0' := other3 (g := w.heap.size + 1) (h := w.heap.size) (a := 0) (b := 1) (c := 2) (x := .float .f64 x2) (y := .float .f64 y2) (z := .float .f64 z2) (by omega) (row3 (x := .float .f64 x1) (y := .float .f64 y1) (z := .float .f64 z1) G0.out)
    have r1' := row3 (x := .float .f64 x2) (y := .float .f64 y2) (z := .float .f64 z2) (other3 (g := w.heap.size) (h := w.heap.size + 1) (a := 0) (b := 1) (c := 2) (x := .float .f64 x1) (y := .float .f64 y1) (z := .float .f64 z1) (by omega) G1.out)
    have R0' := hid r0'
    have R1' := hid r1'
    clear r0' r1'
    all_goals go_wp2
    refine bodyPost_ret ?_ rfl ⟨rfl, ?_⟩
    · exact res_rows Tryd.results11 _ _ w.heap.size (w.heap.size + 1) _ _ _ _ rfl rfl (by rw [heap_drew]; exact R0'.out) (by rw [heap_drew]; exact R1'.out) Tryd.underlying30 rfl (by kernel_rfl) (by kernel_rfl)
    · exact Ab.drew ((((((Ab.setk AZ.out (by omega) _).setk (by omega) _).setk (by omega) _).setk (by omega) _).setk (by omega) _).setk (by omega) _)
end Go.Proofs.YtebnjbljabjgaaaDoor

namespace Go.Proofs.YtebnjbljabjgaaaDoor
open Go.RowKit Tf Cu
attribute [local go_sem] run_bits run_from raw_feq raw_fne raw_flt raw_fgt run_neg run_store_float
set_option maxHeartbeats 16000000 in
theorem ends8_3 (n c s : Nat) (w : World) (hn : 1 ≤ n ∧ n ≤ 32) (hc : c < 6 * n * n) (hs : s < 4) (hk : s = 3) :
    Calls Tryd.prog 11 #[.int .i64 n, .int .i64 c, .int .i64 s] w fun e w' => e = .returned (.tuple #[.agg #[.float .f64 (px n (C1 n c s)), .float .f64 (py n (C1 n c s)), .float .f64 (pz n (C1 n c s))], .agg #[.float .f64 (px n (C2 n c s)), .float .f64 (py n (C2 n c s)), .float .f64 (pz n (C2 n c s))]]) ∧ Below w.heap.size w w' := by
  obtain ⟨h1, h2, h3, -⟩ := dec_lt hn.1 hc
  have PL := hid (fun u => place_ok n c hn hc u)
  obtain ⟨i1, j1, i2, j2, ⟨e1, e2, e3, e4⟩, K1, K2⟩ := ends8_calls n c s hn hc hs
  have K1 := hid K1
  have K2 := hid K2
  generalize px n (C1 n c s) = x1 at *
  generalize py n (C1 n c s) = y1 at *
  generalize pz n (C1 n c s) = z1 at *
  generalize px n (C2 n c s) = x2 at *
  generalize py n (C2 n c s) = y2 at *
  generalize pz n (C2 n c s) = z2 at *
  have hi : ((ci n c : Nat) : Int) ≤ 32 := by omega
  have hj : ((cj n c : Nat) : Int) ≤ 32 := by omega
  generalize cf n c = f at *
  generalize ci n c = i at *
  generalize cj n c = j at *
  clear hn hc h1 h2 h3
  have A0 := hid (bl2 w (.cells #[.float .f64 0, .float .f64 0, .float .f64 0] 30) (.cells #[.float .f64 0, .float .f64 0, .float .f64 0] 30))
  have R0 := hid (And.intro (heap_alloc2_old w (.cells #[.float .f64 0, .float .f64 0, .float .f64 0] 30) (.cells #[.float .f64 0, .float .f64 0, .float .f64 0] 30)) (heap_alloc2_new w (.cells #[.float .f64 0, .float .f64 0, .float .f64 0] 30) (.cells #[.float .f64 0, .float .f64 0, .float .f64 0] 30)))
  subst hk
  · obtain rfl : i1 = 0 := e1
    obtain rfl : j1 = 0 := e2
    obtain rfl : i2 = 1 := e3
    obtain rfl : j2 = 0 := e4
    have L1 : Hid (∀ u, Calls Tryd.prog 14 #[.int .i64 n, .int .i64 f, .int .i64 (IntKind.i64.wrap ((i : Nat) : Int)), .int .i64 (IntKind.i64.wrap ((j : Nat) : Int))] u fun e w' => e = .returned (.tuple #[.agg #[.float .f64 x1, .float .f64 y1, .float .f64 z1], .bool true]) ∧ Below u.heap.size u w') := fun u => by
      rw [wr64 _ (by omega) (by omega), wr64 _ (by omega) (by omega)]; exact K1.out u
    have L2 : Hid (∀ u, Calls Tryd.prog 14 #[.int .i64 n, .int .i64 f, .int .i64 (IntKind.i64.wrap (((i : Nat) : Int) + 1)), .int .i64 (IntKind.i64.wrap ((j : Nat) : Int))] u fun e w' => e = .returned (.tuple #[.agg #[.float .f64 x2, .float .f64 y2, .float .f64 z2], .bool true]) ∧ Below u.heap.size u w') := fun u => by
      rw [wr64 _ (by omega) (by omega), wr64 _ (by omega) (by omega)]; exact K2.out u
    clear hs K1 K2
    clear K1 K2
    go_enter Tryd.func11, Tryd.ntmps11
    go_wp2_with fail
    refine (PL.out _).mono ?_
    rintro e w1 ⟨rfl, m0, rfl⟩
    go_upto_region 4 with fail
    have FR := hid (four_rows w (.cells #[.float .f64 0, .float .f64 0, .float .f64 0] 30) (.cells #[.float .f64 0, .float .f64 0, .float .f64 0] 30) (.cells #[.int .i64 1, .int .i64 0, .int .i64 0, .int .i64 0] 3) (.cells #[.int .i64 0, .int .i64 1, .int .i64 0, .int .i64 0] 3) m0)
    generalize hW : World.alloc _ _ = W
    have FW : Hid (W.heap[w.heap.size]? = some (.cells #[.float .f64 0, .float .f64 0, .float .f64 0] 30) ∧ W.heap[w.heap.size + 1]? = some (.cells #[.float .f64 0, .float .f64 0, .float .f64 0] 30) ∧ W.heap[w.heap.size + 1 + 1]? = some (.cells #[.int .i64 1, .int .i64 0, .int .i64 0, .int .i64 0] 3) ∧ W.heap[w.heap.size + 1 + 1 + 1]? = some (.cells #[.int .i64 0, .int .i64 1, .int .i64 0, .int .i64 0] 3) ∧ Ab w W) := by rw [← hW]; exact FR.out
    clear hW FR A0 R0 PL
    have KS : Hid (∀ w', Ab W w' → Ab W w' ∧ w'.cell? ⟨w.heap.size + 1 + 1, 3, none⟩ = some (.int .i64 0) ∧ w'.cell? ⟨w.heap.size + 1 + 1 + 1, 3, none⟩ = some (.int .i64 0)) := fun w' hw => ⟨hw, cell_of_row _ _ 3 _ _ _ (hw.heap FW.out.2.2.1), cell_of_row _ _ 3 _ _ _ (hw.heap FW.out.2.2.2.1)⟩
    have AW := Ab.refl W
    have LS : Hid (∀ u, Ab W u → Calls Tryd.prog 14 #[.int .i64 n, .int .i64 f, .int .i64 (IntKind.i64.wrap ((i : Nat) : Int)), .int .i64 (IntKind.i64.wrap ((j : Nat) : Int))] u fun e w' => e = .returned (.tuple #[.agg #[.float .f64 x1, .float .f64 y1, .float .f64 z1], .bool true]) ∧ Below u.heap.size u w' ∧ Ab W w') := fun u hu => (L1.out u).mono fun _ _ ⟨he, hb⟩ => ⟨he, hb, hu.call hb⟩
    go_cut [14] from 28 to 46 (fun s14 wx => ∃ g14, s14 = .pointer (some ⟨g14, 0, none⟩) ∧ Ab W wx ∧ W.heap.size ≤ g14 ∧ wx.heap[g14]? = some (.cells #[.float .f64 x1, .float .f64 y1, .float .f64 z1] 30))
    case first =>
      go_region_held3 (fun w' => Ab W w' ∧ w'.cell? ⟨w.heap.size + 1 + 1, 3, none⟩ = some (.int .i64 0) ∧ w'.cell? ⟨w.heap.size + 1 + 1 + 1, 3, none⟩ = some (.int .i64 0)) ((refine KS.out _ ?_; (with_reducible (repeat (first | assumption | apply Ab.drew | apply Ab.alloc | (refine Ab.call ?_ (by assumption)) | (refine Ab.setk ?_ (by first | assumption | exact Nat.le_refl _ | omega) _)))); done)) (first
        | (go_at_call 14; refine (LS.out _ ?_).mono ?_; (exact And.left (by assumption)); rintro e w2 ⟨rfl, b2, a2⟩; have l2 : W.heap.size ≤ w2.heap.size := Nat.le_trans (by first | exact Nat.le_refl _ | (simp; done)) (Below.size b2); (try (have n2 := newrow b2; have n2' := rowfacts n2; obtain ⟨⟨_, _, _⟩, _, _, _⟩ := n2'))))
      all_goals go_wp2_with fail
      all_goals go_meet
      all_goals refine ⟨_, rfl, ?_, ?_, ?_⟩
      all_goals first
        | exact heap_alloc_new _ _
        | exact row3 n2
        | exact a2.size
        | exact l2
        | exact Nat.le_refl _
        | ((with_reducible (repeat (first | assumption | apply Ab.drew | apply Ab.alloc | (refine Ab.setk ?_ (by first | assumption | exact Nat.le_refl _ | omega) _)))); done)
    case rest =>
    obtain ⟨g14, rfl, A4, hg14, r14⟩ := hcut
    have R14 := hid r14
    have F4 := hid (And.intro (A4.heap FW.out.1) (And.intro (A4.heap FW.out.2.1) (FW.out.2.2.2.2.trans A4)))
    have HG : Hid (w.heap.size + 4 ≤ g14) := by
      have := lt_of_block FW.out.2.2.2.1
      show _ ≤ _
      omega
    clear KS AW r14 A4 hg14 L1 LS FW
    go_upto_region 7 with fail
    have FR := hid (And.intro (heap_alloc2_old wc (.cells #[.int .i64 1, .int .i64 1, .int .i64 0, .int .i64 1] 3) (.cells #[.int .i64 1, .int .i64 1, .int .i64 1, .int .i64 0] 3)) (heap_alloc2_new wc (.cells #[.int .i64 1, .int .i64 1, .int .i64 0, .int .i64 1] 3) (.cells #[.int .i64 1, .int .i64 1, .int .i64 1, .int .i64 0] 3)))
    have FB := hid (bl2 wc (.cells #[.int .i64 1, .int .i64 1, .int .i64 0, .int .i64 1] 3) (.cells #[.int .i64 1, .int .i64 1, .int .i64 1, .int .i64 0] 3))
    generalize hW : World.alloc _ _ = W2
    have FW : Hid (W2.heap[wc.heap.size]? = some (.cells #[.int .i64 1, .int .i64 1, .int .i64 0, .int .i64 1] 3) ∧ W2.heap[wc.heap.size + 1]? = some (.cells #[.int .i64 1, .int .i64 1, .int .i64 1, .int .i64 0] 3)) := by rw [← hW]; exact FR.out
    have A2 : Ab wc W2 := by rw [← hW]; exact FB.out
    have F2 := hid (And.intro (A2.heap F4.out.1) (And.intro (A2.heap F4.out.2.1) (F4.out.2.2.trans A2)))
    have R2 := hid (A2.heap R14.out)
    clear hW FR FB A2 F4 R14
    have KS : Hid (∀ w', Ab W2 w' → Ab W2 w' ∧ w'.cell? ⟨wc.heap.size, 3, none⟩ = some (.int .i64 1) ∧ w'.cell? ⟨wc.heap.size + 1, 3, none⟩ = some (.int .i64 0)) := fun w' hw => ⟨hw, cell_of_row _ _ 3 _ _ _ (hw.heap FW.out.1), cell_of_row _ _ 3 _ _ _ (hw.heap FW.out.2)⟩
    have AW := Ab.refl W2
    have LS : Hid (∀ u, Ab W2 u → Calls Tryd.prog 14 #[.int .i64 n, .int .i64 f, .int .i64 (IntKind.i64.wrap (((i : Nat) : Int) + 1)), .int .i64 (IntKind.i64.wrap ((j : Nat) : Int))] u fun e w' => e = .returned (.tuple #[.agg #[.float .f64 x2, .float .f64 y2, .float .f64 z2], .bool true]) ∧ Below u.heap.size u w' ∧ Ab W2 w') := fun u hu => (L2.out u).mono fun _ _ ⟨he, hb⟩ => ⟨he, hb, hu.call hb⟩
    go_cut [16] from 48 to 66 (fun s16 wx => ∃ g16, s16 = .pointer (some ⟨g16, 0, none⟩) ∧ Ab W2 wx ∧ W2.heap.size ≤ g16 ∧ wx.heap[g16]? = some (.cells #[.float .f64 x2, .float .f64 y2, .float .f64 z2] 30))
    case first =>
      go_region_held3 (fun w' => Ab W2 w' ∧ w'.cell? ⟨wc.heap.size, 3, none⟩ = some (.int .i64 1) ∧ w'.cell? ⟨wc.heap.size + 1, 3, none⟩ = some (.int .i64 0)) ((refine KS.out _ ?_; (with_reducible (repeat (first | assumption | apply Ab.drew | apply Ab.alloc | (refine Ab.call ?_ (by assumption)) | (refine Ab.setk ?_ (by first | assumption | exact Nat.le_refl _ | omega) _)))); done)) (first
        | (go_at_call 14; refine (LS.out _ ?_).mono ?_; (exact And.left (by assumption)); rintro e w2 ⟨rfl, b2, a2⟩; have l2 : W2.heap.size ≤ w2.heap.size := Nat.le_trans (by first | exact Nat.le_refl _ | (simp; done)) (Below.size b2); (try (have n2 := newrow b2; have n2' := rowfacts n2; obtain ⟨⟨_, _, _⟩, _, _, _⟩ := n2'))))
      all_goals go_wp2_with fail
      all_goals go_meet
      all_goals refine ⟨_, rfl, ?_, ?_, ?_⟩
      all_goals first
        | exact heap_alloc_new _ _
        | exact row3 n2
        | exact a2.size
        | exact l2
        | exact Nat.le_refl _
        | ((with_reducible (repeat (first | assumption | apply Ab.drew | apply Ab.alloc | (refine Ab.setk ?_ (by first | assumption | exact Nat.le_refl _ | omega) _)))); done)
    case rest =>
    obtain ⟨g16, rfl, A4, hg16, r16⟩ := hcut
    have R14 := hid (A4.heap R2.out)
    have G0 := hid (A4.heap F2.out.1)
    have G1 := hid (A4.heap F2.out.2.1)
    have AZ := hid (F2.out.2.2.trans A4)
    have HG2 : w.heap.size + 2 ≤ g16 := by
      have := lt_of_block F2.out.2.1
      omega
    have HG1 : w.heap.size + 2 ≤ g14 := by have := HG.out; omega
    have R16 := hid r16
    clear KS AW LS L2 FW F2 R2 A4 hg16 r16 HG
    obtain ⟨-, a0, a1, a2⟩ := rowfacts R14.out
    obtain ⟨-, d0, d1, d2⟩ := rowfacts R16.out
    obtain ⟨⟨o0, o1, o2⟩, zz0, zz1, zz2⟩ := rowfacts G0.out
    obtain ⟨⟨o3, o4, o5⟩, zz3, zz4, zz5⟩ := rowfacts G1.out
    go_upto_region 8 with fail
    go_region
    have r0' := other3 (g := w.heap.size + 1) (h := w.heap.size) (a := 0) (b := 1) (c := 2) (x := .float .f64 x2) (y := .float .f64 y2) (z := .float .f64 z2) (by omega) (row3 (x := .float .f64 x1) (y := .float .f64 y1) (z := .float .f64 z1) G0.out)
    have r1' := row3 (x := .float .f64 x2) (y := .float .f64 y2) (z := .float .f64 z2) (other3 (g := w.heap.size) (h := w.heap.size + 1) (a := 0) (b := 1) (c := 2) (x := .float .f64 x1) (y := .float .f64 y1) (z := .float .f64 z1) (by omega) G1.out)
    have R0' := hid r0'
    have R1' := hid r1'
    clear r0' r1'
    all_goals go_wp2
    refine bodyPost_ret ?_ rfl ⟨rfl, ?_⟩
    · exact res_rows Tryd.results11 _ _ w.heap.size (w.heap.size + 1) _ _ _ _ rfl rfl (by rw [heap_drew]; exact R0'.out) (by rw [heap_drew]; exact R1'.out) Tryd.underlying30 rfl (by kernel_rfl) (by kernel_rfl)
    · exact Ab.drew ((((((Ab.setk AZ.out (by omega) _).setk (by omega) _).setk (by omega) _).setk (by omega) _).setk (by omega) _).setk (by omega) _)
end Go.Proofs.YtebnjbljabjgaaaDoor

namespace Go.Proofs.YtebnjbljabjgaaaDoor
open Go.RowKit Tf Cu
attribute [local go_sem] run_bits run_from raw_feq raw_fne raw_flt raw_fgt run_neg run_store_float
theorem ends8_at (n c s : Nat) (w : World) (hn : 1 ≤ n ∧ n ≤ 32) (hc : c < 6 * n * n) (hs : s < 4) :
    Calls Tryd.prog 11 #[.int .i64 n, .int .i64 c, .int .i64 s] w fun e w' => e = .returned (.tuple #[.agg #[.float .f64 (px n (C1 n c s)), .float .f64 (py n (C1 n c s)), .float .f64 (pz n (C1 n c s))], .agg #[.float .f64 (px n (C2 n c s)), .float .f64 (py n (C2 n c s)), .float .f64 (pz n (C2 n c s))]]) ∧ Below w.heap.size w w' := by
  rcases Cu.four hs with rfl | rfl | rfl | rfl
  · exact ends8_0 n c 0 w hn hc hs rfl
  · exact ends8_1 n c 1 w hn hc hs rfl
  · exact ends8_2 n c 2 w hn hc hs rfl
  · exact ends8_3 n c 3 w hn hc hs rfl
end Go.Proofs.YtebnjbljabjgaaaDoor

namespace Go.Proofs.YtebnjbljabjgaaaDoor
open Go.RowKit Tf Cu
attribute [local go_sem] run_bits run_from raw_feq raw_fne raw_flt raw_fgt run_neg run_store_float
theorem near_vals : ∀ k < 13, canonB (sbB (4607182418800017400 + k) 4607182418800017408) = sbB (4607182418800017400 + k) 4607182418800017408 ∧ isN (sbB (4607182418800017400 + k) 4607182418800017408) = false ∧ ((flt (sbB (4607182418800017400 + k) 4607182418800017408) 4382002437431492608 || feq (sbB (4607182418800017400 + k) 4607182418800017408) 4382002437431492608) = true ∧ (fgt (sbB (4607182418800017400 + k) 4607182418800017408) 13605374474286268416 || feq (sbB (4607182418800017400 + k) 4607182418800017408) 13605374474286268416) = true) := by decide +kernel
theorem near_zero : (flt 9223372036854775808 4382002437431492608 || feq 9223372036854775808 4382002437431492608) = true ∧ (fgt 9223372036854775808 13605374474286268416 || feq 9223372036854775808 13605374474286268416) = true := by decide +kernel
theorem near_r {L r : Nat} (h1 : 4607182418800017400 ≤ L) (h2 : L ≤ 4607182418800017412) (hr : IsC r (sbB L 4607182418800017408)) : (flt r 4382002437431492608 || feq r 4382002437431492608) = true ∧ (fgt r 13605374474286268416 || feq r 13605374474286268416) = true := by
  obtain ⟨k, rfl⟩ : ∃ k, L = 4607182418800017400 + k := ⟨L - 4607182418800017400, by omega⟩
  obtain ⟨-, v2, v3⟩ := near_vals k (by omega)
  have e := hr.2
  rcases canon_cases hr.1 with ⟨h, q⟩ | ⟨h, q⟩ | ⟨-, -, q⟩
  · rw [q] at e; rw [← e] at v2; exact absurd v2 (by decide)
  · rw [q] at e
    rw [← e] at v3
    cases hn : ng r
    · have : r = 0 := by rw [mg_of_lt (lt_of_ng hn)] at h; exact h
      rw [this]; exact v3
    · have : r = 9223372036854775808 := by have := ge_of_ng hn; have := hr.1; unfold mg at h; omega
      rw [this]; exact near_zero
  · rw [q] at e; rw [e]; exact v3
set_option maxHeartbeats 4000000 in
theorem near8_at (x y z : Nat) (w : World) (hx : x < 18446744073709551616) (hy : y < 18446744073709551616) (hz : z < 18446744073709551616) (l1 : 4607182418800017400 ≤ lnB x y z) (l2 : lnB x y z ≤ 4607182418800017412) :
    Calls Tryd.prog 12 #[.agg #[.float .f64 x, .float .f64 y, .float .f64 z]] w fun e w' => e = .returned (.bool true) ∧ Below w.heap.size w w' := by
  have LN := hid (fun u => length_at x y z u hx hy hz)
  have SU : Hid (∀ u : World, ∃ r n, (∀ t, (binOp .sub t (.float .f64 (lnB x y z)) (.float .f64 4607182418800017408)).run Tryd.prog u = .ok (.float .f64 r) (u.drewN n)) ∧ (flt r 4382002437431492608 || feq r 4382002437431492608) = true ∧ (fgt r 13605374474286268416 || feq r 13605374474286268416) = true) := fun u => by
    obtain ⟨r, n, k, q⟩ := sub_any (P := Tryd.prog) u (lnB x y z) _ 4607182418800017408 _ (IsQ.self (by omega)) (IsQ.self (by omega))
    rw [sbB_q (by omega)] at q
    exact ⟨r, n, k, near_r l1 l2 q⟩
  generalize lnB x y z = L at *
  have A0 := hid (bl1 w (.cells #[.float .f64 x, .float .f64 y, .float .f64 z] 30))
  clear hx hy hz l1 l2
  go_enter Tryd.func12, Tryd.ntmps12
  go_wp2_with fail
  refine (LN.out _).mono ?_
  rintro e v ⟨rfl, b1⟩
  obtain ⟨r, n, k1, h1, h2⟩ := SU.out v
  have h3 : flt r 4382002437431492608 = true ∨ feq r 4382002437431492608 = true := by simpa using h1
  have B1 := hid b1
  clear b1
  go_wp2
  go_ret
  exact ⟨by first | rfl | (rw [h1, h2]; rfl), Ab.drewN (Ab.call A0.out B1.out) _⟩
end Go.Proofs.YtebnjbljabjgaaaDoor

namespace Go.Proofs.YtebnjbljabjgaaaDoor
open Tf

theorem rne_near (n g : Nat) (hg : 0 < g) : 2 * n ≤ 2 * (rne n g * g) + g ∧ 2 * (rne n g * g) ≤ 2 * n + g ∧ ((2 * n = 2 * (rne n g * g) + g ∨ 2 * (rne n g * g) = 2 * n + g) → rne n g % 2 = 0) := by
  have h := Nat.div_add_mod n g
  have hm := Nat.mod_lt n hg
  rw [Nat.mul_comm] at h
  unfold rne
  by_cases c : g < 2 * (n % g) ∨ (g = 2 * (n % g) ∧ n / g % 2 = 1)
  · rw [if_pos c, Nat.add_mul, Nat.one_mul]
    generalize n / g * g = P at *
    omega
  · rw [if_neg c, Nat.add_zero]
    generalize n / g * g = P at *
    omega
/-- at most a half away, at a half even -/
theorem even_near (x : Nat) : 2 * (sv x - cq .even x * one) ≤ one ∧ -(one : Int) ≤ 2 * (sv x - cq .even x * one) ∧ ((2 * (sv x - cq .even x * one) = one ∨ 2 * (sv x - cq .even x * one) = -(one : Int)) → cq .even x % 2 = 0) := by
  have h := rne_near (mv (mg x)) one one_pos
  unfold sv cq
  rw [cutq_even]
  generalize hq : rne (mv (mg x)) one = q at *
  have hp : ((q * one : Nat) : Int) = (q : Int) * (one : Int) := Int.natCast_mul ..
  cases ng x
  · simp only [Bool.false_eq_true, if_false]
    rw [← hp]
    generalize q * one = Q at *
    omega
  · simp only [if_true, Int.neg_mul]
    rw [← hp]
    generalize q * one = Q at *
    omega
end Go.Proofs.YtebnjbljabjgaaaDoor

namespace Go.Proofs.YtebnjbljabjgaaaDoor
open Tf

theorem cq_even_mono {x y : Nat} (h : sv x ≤ sv y) : cq .even x ≤ cq .even y := by
  by_cases c : cq .even x ≤ cq .even y
  · exact c
  · exfalso
    obtain ⟨a1, a2, a3⟩ := even_near x
    obtain ⟨b1, b2, b3⟩ := even_near y
    have o := onep
    have e : (cq .even y + 1) * one ≤ cq .even x * one := Int.mul_le_mul_of_nonneg_right (by omega) (by omega)
    rw [Int.add_mul, Int.one_mul] at e
    have p1 := a3 (.inr (by omega))
    have p2 := b3 (.inl (by omega))
    have e2 : cq .even x * one = (cq .even y + 1) * one := by rw [Int.add_mul, Int.one_mul]; omega
    have := Int.eq_of_mul_eq_mul_right (by omega) e2
    omega

end Go.Proofs.YtebnjbljabjgaaaDoor

namespace Go.Proofs.YtebnjbljabjgaaaDoor
open Tf
theorem ml_nn {a c : Nat} (ha : a < 9218868437227405312) (hc : c < 9218868437227405312) : mlB a c = min (rung 52 1074 (mv a * mv c)) 9218868437227405312 := by
  have ma : mg a = a := mg_of_lt (by omega)
  have mc : mg c = c := mg_of_lt (by omega)
  have e := mul_d a c (by omega) (by omega) (by rw [ma]; exact ha) (by rw [mc]; exact hc)
  rw [ng_of_lt (by omega), ng_of_lt (by omega), ma, mc] at e
  rw [mlB_some e, if_neg (by decide)]
theorem mv_mono' {a b : Nat} (h : a ≤ b) : mv a ≤ mv b := by
  rcases Nat.lt_or_ge (mv b) (mv a) with k | k
  · have e1 : rung 52 0 (mv a) = a := rung_mag0 52 a (by omega)
    have e2 : rung 52 0 (mv b) = b := rung_mag0 52 b (by omega)
    have := rung_mono (p := 52) (d := 0) (by omega) (Nat.le_of_lt k)
    rw [e1, e2] at this
    have : a = b := by omega
    rw [this]; exact Nat.le_refl _
  · exact k
theorem ml_le {a b c : Nat} (h : a ≤ b) (hb : b < 9218868437227405312) (hc : c < 9218868437227405312) : mlB a c ≤ mlB b c := by
  rw [ml_nn (by omega) hc, ml_nn hb hc]
  have := rung_mono (p := 52) (d := 1074) (by omega) (Nat.mul_le_mul_right (mv c) (mv_mono' h))
  omega
theorem arI_le {L : Nat} (h : L ≤ 4616189618054758400) : 1 ≤ arI L ∧ arI L ≤ 2147483648 := by
  have q0 : qB L = L := by unfold qB; rw [if_neg (by rw [isN_true, mg_of_lt (by omega)]; omega)]
  have q1 : qB 4602678819172646912 = 4602678819172646912 := by decide
  have q2 : qB 4742290407621132288 = 4742290407621132288 := by decide
  have e1 : mlB 4616189618054758400 4602678819172646912 = 4611686018427387904 := by decide +kernel
  have e2 : mlB 4611686018427387904 4742290407621132288 = 4746794007248502784 := by decide +kernel
  have m1 := ml_le (c := 4602678819172646912) h (by omega) (by omega)
  rw [e1] at m1
  have m2 := ml_le (c := 4742290407621132288) m1 (by omega) (by omega)
  rw [e2] at m2
  have hA : arQ L = mlB (mlB L 4602678819172646912) 4742290407621132288 := by unfold arQ; rw [q0, q1, q2]
  unfold arI
  rw [hA]
  generalize mlB (mlB L 4602678819172646912) 4742290407621132288 = y at *
  have hy : mg y = y := mg_of_lt (by omega)
  have hc : cq .even y ≤ cq .even 4746794007248502784 := by
    refine cq_even_mono ?_
    have s1 : sv y = (mv y : Int) := by unfold sv; rw [ng_of_lt (by omega), hy]; rfl
    have s2 : sv 4746794007248502784 = (mv 4746794007248502784 : Int) := by unfold sv; rw [ng_of_lt (by omega), mg_of_lt (by omega)]; rfl
    rw [s1, s2]
    have := mv_mono' m2
    omega
  have hv : cq .even 4746794007248502784 = 2147483648 := by decide +kernel
  rw [hv] at hc
  have hI : cI .even y ≤ 2147483648 := by
    unfold cI
    split
    · exact hc
    · omega
  generalize cI .even y = z at *
  clear hA q0 q1 q2 e1 e2 m1 m2 hc hv hy
  omega
end Go.Proofs.YtebnjbljabjgaaaDoor

namespace Go.Proofs.YtebnjbljabjgaaaDoor
open Go.RowKit Tf Cu
attribute [local go_sem] run_bits run_from raw_feq raw_fne raw_flt raw_fgt run_neg run_store_float
theorem two_cmp {L : Nat} (h1 : 1 ≤ L) (h2 : L ≤ 4611686018427387904) : fgt L 0 = true ∧ (flt L 4611686018427387904 || feq L 4611686018427387904) = true := by
  have hm : mg L = L := mg_of_lt (by omega)
  have hn : ng L = false := ng_of_lt (by omega)
  have r1 : rk L = (L : Int) := by unfold rk; rw [hn, hm]; rfl
  have r2 : rk 0 = 0 := by decide
  have r3 : rk 4611686018427387904 = 4611686018427387904 := by decide
  have i1 : isN L = false := by rw [isN_false, hm]; omega
  have i2 : isN 0 = false := by decide
  have i3 : isN 4611686018427387904 = false := by decide
  rw [fgt_rk L 0 (by omega) (by omega), flt_rk L 4611686018427387904 (by omega) (by omega), feq_rk L 4611686018427387904 (by omega) (by omega), r1, r2, r3, i1, i2, i3]
  simp
  omega
set_option maxRecDepth 100000 in
set_option maxHeartbeats 16000000 in
theorem bounds_go (a b o : Int) (n c s : Nat) (y1 : Int) (p1 p2 p3 q1 q2 q3 m1 m2 m3 L G : Nat) (V : Int) (w : World) (ew1 : IntKind.u64.wrap o = y1) (et1 : y1.tmod 4 = s) (lsi : (s : Int) < 4) (v1 : 1 ≤ V) (v2 : V ≤ 2147483648)
    (l1 : fgt L 0 = true) (l2 : (flt L 4611686018427387904 || feq L 4611686018427387904) = true) (g1 : fgt G 0 = true) (g2 : (flt G 4611686018427387904 || feq G 4611686018427387904) = true)
    (AWK : Hid (Calls Tryd.prog 5 #[] w fun e w' => e = .returned (.bool true) ∧ Below w.heap.size w w'))
    (NE : Hid (∀ w, Calls Tryd.prog 6 #[.int .i64 a, .int .i64 b] w fun e w' => e = .returned (.tuple #[.int .i64 n, .int .i64 c]) ∧ ∃ k, w' = w.drewN k))
    (AR : Hid (∀ v, Calls Tryd.prog 7 #[.int .i64 n, .int .i64 c] v fun e w' => e = .returned (.int .i64 V) ∧ Below v.heap.size v w'))
    (L1 : Hid (∀ v, Calls Tryd.prog 8 #[.int .i64 n, .int .i64 c, .int .i64 s] v fun e w' => e = .returned (.float .f64 L) ∧ Below v.heap.size v w'))
    (G1 : Hid (∀ v, Ab w v → Calls Tryd.prog 9 #[.int .i64 n, .int .i64 c, .int .i64 s] v fun e w' => e = .returned (.float .f64 G) ∧ Below v.heap.size v w'))
    (M1 : Hid (∀ v, Calls Tryd.prog 10 #[.int .i64 n, .int .i64 c] v fun e w' => e = .returned (.tuple #[.agg #[.float .f64 m1, .float .f64 m2, .float .f64 m3], .bool true]) ∧ Below v.heap.size v w'))
    (E1 : Hid (∀ v, Calls Tryd.prog 11 #[.int .i64 n, .int .i64 c, .int .i64 s] v fun e w' => e = .returned (.tuple #[.agg #[.float .f64 p1, .float .f64 p2, .float .f64 p3], .agg #[.float .f64 q1, .float .f64 q2, .float .f64 q3]]) ∧ Below v.heap.size v w'))
    (NM : Hid (∀ v, Calls Tryd.prog 12 #[.agg #[.float .f64 m1, .float .f64 m2, .float .f64 m3]] v fun e w' => e = .returned (.bool true) ∧ Below v.heap.size v w'))
    (NP : Hid (∀ v, Calls Tryd.prog 12 #[.agg #[.float .f64 p1, .float .f64 p2, .float .f64 p3]] v fun e w' => e = .returned (.bool true) ∧ Below v.heap.size v w'))
    (NQ : Hid (∀ v, Calls Tryd.prog 12 #[.agg #[.float .f64 q1, .float .f64 q2, .float .f64 q3]] v fun e w' => e = .returned (.bool true) ∧ Below v.heap.size v w')) :
    Calls Tryd.prog 3 #[.int .i64 a, .int .i64 b, .int .i64 o] w fun e w' => e = .returned (.bool true) ∧ Below w.heap.size w w' := by
  have l3 : flt L 4611686018427387904 = true ∨ feq L 4611686018427387904 = true := by simpa using l2
  have g3 : flt G 4611686018427387904 = true ∨ feq G 4611686018427387904 = true := by simpa using g2
  go_enter Tryd.func3, Tryd.ntmps3
  go_wp2_with fail
  refine Calls.mono (AWK.out) ?_
  rintro e v1 ⟨rfl, b1⟩
  have AV1 : Hid (Ab w v1) := Ab.call (Ab.refl w) b1
  have AW1 : Hid (Ab w v1) := AV1.out
  clear b1 AV1
  go_wp2_with fail
  refine Calls.mono (NE.out _) ?_
  rintro e vv ⟨rfl, k2, rfl⟩
  have AW2 : Hid (Ab w (v1.drewN k2)) := Ab.drewN AW1.out _
  clear AW1
  go_wp2_with fail
  refine Calls.mono (AR.out _) ?_
  rintro e v3 ⟨rfl, b3⟩
  have AV3 : Hid (Ab w v3) := Ab.call AW2.out b3
  have AW3 : Hid (Ab w v3) := AV3.out
  clear b3 AV3 AW2
  go_wp2_with fail
  refine Calls.mono (L1.out _) ?_
  rintro e v4 ⟨rfl, b4⟩
  have AV4 : Hid (Ab w v4) := Ab.call AW3.out b4
  have AW4 : Hid (Ab w v4) := AV4.out
  clear b4 AV4 AW3
  go_wp2_with fail
  refine Calls.mono (G1.out _ AW4.out) ?_
  rintro e v5 ⟨rfl, b5⟩
  have AV5 : Hid (Ab w v5) := Ab.call AW4.out b5
  have AW5 : Hid (Ab w v5) := AV5.out
  clear b5 AV5 AW4
  go_wp2_with fail
  refine Calls.mono (M1.out _) ?_
  rintro e v6 ⟨rfl, b6⟩
  have AV6 : Hid (Ab w v6) := Ab.call AW5.out b6
  have RM6 : Hid ((v6.alloc (.cells #[.float .f64 m1, .float .f64 m2, .float .f64 m3] 30)).heap[v6.heap.size]? = some (.cells #[.float .f64 m1, .float .f64 m2, .float .f64 m3] 30)) := heap_alloc_new _ _
  have AW6 : Hid (Ab w (v6.alloc (.cells #[.float .f64 m1, .float .f64 m2, .float .f64 m3] 30))) := AV6.out.call (bl1 v6 (.cells #[.float .f64 m1, .float .f64 m2, .float .f64 m3] 30))
  clear b6 AV6 AW5
  go_wp2_with fail
  refine Calls.mono (E1.out _) ?_
  rintro e v7 ⟨rfl, b7⟩
  have AV7 : Hid (Ab w v7) := Ab.call AW6.out b7
  have RM7 : Hid (((v7.alloc (.cells #[.float .f64 p1, .float .f64 p2, .float .f64 p3] 30)).alloc (.cells #[.float .f64 q1, .float .f64 q2, .float .f64 q3] 30)).heap[v6.heap.size]? = some (.cells #[.float .f64 m1, .float .f64 m2, .float .f64 m3] 30)) := Ab.heap (bl2 v7 (.cells #[.float .f64 p1, .float .f64 p2, .float .f64 p3] 30) (.cells #[.float .f64 q1, .float .f64 q2, .float .f64 q3] 30)) (Ab.heap b7 RM6.out)
  have RA7 : Hid (((v7.alloc (.cells #[.float .f64 p1, .float .f64 p2, .float .f64 p3] 30)).alloc (.cells #[.float .f64 q1, .float .f64 q2, .float .f64 q3] 30)).heap[v7.heap.size]? = some (.cells #[.float .f64 p1, .float .f64 p2, .float .f64 p3] 30)) := heap_alloc2_old _ _ _
  have RB7 : Hid (((v7.alloc (.cells #[.float .f64 p1, .float .f64 p2, .float .f64 p3] 30)).alloc (.cells #[.float .f64 q1, .float .f64 q2, .float .f64 q3] 30)).heap[v7.heap.size + 1]? = some (.cells #[.float .f64 q1, .float .f64 q2, .float .f64 q3] 30)) := heap_alloc2_new _ _ _
  have AW7 : Hid (Ab w ((v7.alloc (.cells #[.float .f64 p1, .float .f64 p2, .float .f64 p3] 30)).alloc (.cells #[.float .f64 q1, .float .f64 q2, .float .f64 q3] 30))) := AV7.out.call (bl2 v7 (.cells #[.float .f64 p1, .float .f64 p2, .float .f64 p3] 30) (.cells #[.float .f64 q1, .float .f64 q2, .float .f64 q3] 30))
  clear b7 AV7 RM6 AW6
  obtain ⟨-, xM0, xM1, xM2⟩ := rowfacts RM7.out
  go_wp2_with fail
  refine Calls.mono (NM.out _) ?_
  rintro e v8 ⟨rfl, b8⟩
  clear xM0 xM1 xM2
  have AV8 : Hid (Ab w v8) := Ab.call AW7.out b8
  have RM8 : Hid (v8.heap[v6.heap.size]? = some (.cells #[.float .f64 m1, .float .f64 m2, .float .f64 m3] 30)) := Ab.heap b8 RM7.out
  have RA8 : Hid (v8.heap[v7.heap.size]? = some (.cells #[.float .f64 p1, .float .f64 p2, .float .f64 p3] 30)) := Ab.heap b8 RA7.out
  have RB8 : Hid (v8.heap[v7.heap.size + 1]? = some (.cells #[.float .f64 q1, .float .f64 q2, .float .f64 q3] 30)) := Ab.heap b8 RB7.out
  have AW8 : Hid (Ab w v8) := AV8.out
  clear b8 AV8 RM7 RA7 RB7 AW7
  obtain ⟨-, xA0, xA1, xA2⟩ := rowfacts RA8.out
  go_wp2_with fail
  refine Calls.mono (NP.out _) ?_
  rintro e v9 ⟨rfl, b9⟩
  clear xA0 xA1 xA2
  have AV9 : Hid (Ab w v9) := Ab.call AW8.out b9
  have RM9 : Hid (v9.heap[v6.heap.size]? = some (.cells #[.float .f64 m1, .float .f64 m2, .float .f64 m3] 30)) := Ab.heap b9 RM8.out
  have RA9 : Hid (v9.heap[v7.heap.size]? = some (.cells #[.float .f64 p1, .float .f64 p2, .float .f64 p3] 30)) := Ab.heap b9 RA8.out
  have RB9 : Hid (v9.heap[v7.heap.size + 1]? = some (.cells #[.float .f64 q1, .float .f64 q2, .float .f64 q3] 30)) := Ab.heap b9 RB8.out
  have AW9 : Hid (Ab w v9) := AV9.out
  clear b9 AV9 RM8 RA8 RB8 AW8
  obtain ⟨-, xB0, xB1, xB2⟩ := rowfacts RB9.out
  go_wp2_with fail
  refine Calls.mono (NQ.out _) ?_
  rintro e v10 ⟨rfl, b10⟩
  clear xB0 xB1 xB2
  have AV10 : Hid (Ab w v10) := Ab.call AW9.out b10
  have RM10 : Hid (v10.heap[v6.heap.size]? = some (.cells #[.float .f64 m1, .float .f64 m2, .float .f64 m3] 30)) := Ab.heap b10 RM9.out
  have RA10 : Hid (v10.heap[v7.heap.size]? = some (.cells #[.float .f64 p1, .float .f64 p2, .float .f64 p3] 30)) := Ab.heap b10 RA9.out
  have RB10 : Hid (v10.heap[v7.heap.size + 1]? = some (.cells #[.float .f64 q1, .float .f64 q2, .float .f64 q3] 30)) := Ab.heap b10 RB9.out
  have AW10 : Hid (Ab w v10) := AV10.out
  clear b10 AV10 RM9 RA9 RB9 AW9
  go_wp2
  go_ret
  exact ⟨by first | rfl | (simp [l1, l2, g1, g2, l3, g3]; done) | (simp [l1, l2, g1, g2, l3, g3]; omega), AW10.out⟩
theorem near_corner {n f i j : Nat} (hn : 1 ≤ n ∧ n ≤ 32) (hf : f < 6) (hi : i ≤ n) (hj : j ≤ n) : 4607182418800017400 ≤ nl n (cr n f i j) ∧ nl n (cr n f i j) ≤ 4607182418800017412 := by
  unfold cr
  exact nl_near (d := 0) hn hf (by omega) (by omega) (by omega) (by omega) (by omega)
theorem near_middle {n c : Nat} (hn : 1 ≤ n ∧ n ≤ 32) (hc : c < 6 * n * n) : 4607182418800017400 ≤ nl n (MD n c) ∧ nl n (MD n c) ≤ 4607182418800017412 := by
  obtain ⟨h1, h2, h3, -⟩ := dec_lt hn.1 hc
  unfold MD md
  exact nl_near (d := 1) hn h1 (by omega) (by omega) (by omega) (by omega) (by omega)
theorem near_ends {n c s : Nat} (hn : 1 ≤ n ∧ n ≤ 32) (hc : c < 6 * n * n) (hs : s < 4) : (4607182418800017400 ≤ nl n (C1 n c s) ∧ nl n (C1 n c s) ≤ 4607182418800017412) ∧ (4607182418800017400 ≤ nl n (C2 n c s) ∧ nl n (C2 n c s) ≤ 4607182418800017412) := by
  obtain ⟨h1, h2, h3, -⟩ := dec_lt hn.1 hc
  unfold C1 C2
  rcases Cu.four hs with rfl | rfl | rfl | rfl
  all_goals exact ⟨near_corner hn h1 (by omega) (by omega), near_corner hn h1 (by omega) (by omega)⟩
theorem geomBounds_walk (a b o : Int) (w : World) (h : Fr w) :
    Calls Tryd.prog 3 #[.int .i64 a, .int .i64 b, .int .i64 o] w fun e w' => e = .returned (.bool true) ∧ Below w.heap.size w w' := by
  obtain ⟨n, c, hn, hc, N⟩ := net8_at a b
  obtain ⟨y1, hy1⟩ : ∃ y, o % 18446744073709551616 = y := ⟨_, rfl⟩
  have y01 : 0 ≤ y1 ∧ y1 < 18446744073709551616 := by omega
  obtain ⟨s, hs⟩ : ∃ c : Nat, y1 % 4 = c := ⟨(y1 % 4).toNat, by omega⟩
  have ls : s < 4 := by omega
  have lsi : (s : Int) < 4 := by omega
  have ew1 : IntKind.u64.wrap o = y1 := by rw [IntKind.wrap_u64, hy1]
  have et1 : y1.tmod 4 = s := by rw [Int.tmod_eq_emod_of_nonneg y01.1, hs]
  clear hy1 hs
  obtain ⟨A1, A2⟩ := arI_le (ArC_le hn hc)
  obtain ⟨L1, L2⟩ := two_cmp (LnC_le hn hc ls).1 (LnC_le hn hc ls).2
  obtain ⟨G1, G2⟩ := two_cmp (GpC_le hn hc ls).1 (GpC_le hn hc ls).2
  have hM := near_middle hn hc
  have hE := near_ends hn hc ls
  exact bounds_go a b o n c s y1 _ _ _ _ _ _ _ _ _ _ _ _ w ew1 et1 lsi A1 A2 L1 L2 G1 G2 (awake8_at w h) N (fun v => area_ok n c v hn hc) (fun v => len_ok n c s v hn hc ls) (fun v hv => gap_ok n c s v hn hc ls (h.to hv)) (fun v => middle_ok n c v hn hc) (fun v => ends8_at n c s v hn hc ls)
    (fun v => near8_at _ _ _ v (px_lt _ _) (py_lt _ _) (pz_lt _ _) hM.1 hM.2) (fun v => near8_at _ _ _ v (px_lt _ _) (py_lt _ _) (pz_lt _ _) hE.1.1 hE.1.2) (fun v => near8_at _ _ _ v (px_lt _ _) (py_lt _ _) (pz_lt _ _) hE.2.1 hE.2.2)
end Go.Proofs.YtebnjbljabjgaaaDoor
