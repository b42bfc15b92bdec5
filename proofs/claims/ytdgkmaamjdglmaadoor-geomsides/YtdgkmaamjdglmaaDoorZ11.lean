/-
  Some of the texts of this proof, one behind the other.
-/
import Derived.Test.YtdgkmaamjdglmaaDoorZ10
import Derived.Deep.Cut
/-
  The corners of a side: walk over the program.
-/
namespace Go.Proofs.YtdgkmaamjdglmaaDoor
open Go.RowKit Tf Cu
attribute [local go_sem] run_bits run_from raw_feq raw_fne raw_flt raw_fgt run_neg run_store_float
set_option maxHeartbeats 16000000 in
theorem ends8_0 (n c s : Nat) (w : World) (hn : 1 ≤ n ∧ n ≤ 32) (hc : c < 6 * n * n) (hs : s < 4) (hk : s = 0) :
    Calls Tryd.prog 10 #[.int .i64 n, .int .i64 c, .int .i64 s] w fun e w' => e = .returned (.tuple #[.agg #[.float .f64 (px n (C1 n c s)), .float .f64 (py n (C1 n c s)), .float .f64 (pz n (C1 n c s))], .agg #[.float .f64 (px n (C2 n c s)), .float .f64 (py n (C2 n c s)), .float .f64 (pz n (C2 n c s))]]) ∧ Below w.heap.size w w' := by
  obtain ⟨h1, h2, h3, -⟩ := dec_lt hn.1 hc
  have PL := hid (fun u => place_ok n c hn hc u)
  obtain ⟨i1, j1, i2, j2, ⟨e1, e2, e3, e4⟩, K1, K2⟩ := ends8_calls n c s hn hc hs
  have K1 := hid K1
  have K2 := hid K2
  generalize px n (C1 n c s) = x1 at *
  generalize py n (C1 n c s) = y1 at *
  generalize pz n (C1 n c s) = z1 at *
  generalize px n (C2 n c s) = x2 at *
  generalize py n (C2 n c s) = y2 at *
  generalize pz n (C2 n c s) = z2 at *
  have hi : ((ci n c : Nat) : Int) ≤ 32 := by omega
  have hj : ((cj n c : Nat) : Int) ≤ 32 := by omega
  generalize cf n c = f at *
  generalize ci n c = i at *
  generalize cj n c = j at *
  clear hn hc h1 h2 h3
  have A0 := hid (bl2 w (.cells #[.float .f64 0, .float .f64 0, .float .f64 0] 29) (.cells #[.float .f64 0, .float .f64 0, .float .f64 0] 29))
  have R0 := hid (And.intro (heap_alloc2_old w (.cells #[.float .f64 0, .float .f64 0, .float .f64 0] 29) (.cells #[.float .f64 0, .float .f64 0, .float .f64 0] 29)) (heap_alloc2_new w (.cells #[.float .f64 0, .float .f64 0, .float .f64 0] 29) (.cells #[.float .f64 0, .float .f64 0, .float .f64 0] 29)))
  subst hk
  · obtain rfl : i1 = 1 := e1
    obtain rfl : j1 = 0 := e2
    obtain rfl : i2 = 1 := e3
    obtain rfl : j2 = 1 := e4
    have L1 : Hid (∀ u, Calls Tryd.prog 21 #[.int .i64 n, .int .i64 f, .int .i64 (IntKind.i64.wrap (((i : Nat) : Int) + 1)), .int .i64 (IntKind.i64.wrap ((j : Nat) : Int))] u fun e w' => e = .returned (.tuple #[.agg #[.float .f64 x1, .float .f64 y1, .float .f64 z1], .bool true]) ∧ Below u.heap.size u w') := fun u => by
      rw [wr64 _ (by omega) (by omega), wr64 _ (by omega) (by omega)]; exact K1.out u
    have L2 : Hid (∀ u, Calls Tryd.prog 21 #[.int .i64 n, .int .i64 f, .int .i64 (IntKind.i64.wrap (((i : Nat) : Int) + 1)), .int .i64 (IntKind.i64.wrap (((j : Nat) : Int) + 1))] u fun e w' => e = .returned (.tuple #[.agg #[.float .f64 x2, .float .f64 y2, .float .f64 z2], .bool true]) ∧ Below u.heap.size u w') := fun u => by
      rw [wr64 _ (by omega) (by omega), wr64 _ (by omega) (by omega)]; exact K2.out u
    clear hs K1 K2
    clear K1 K2
    go_enter Tryd.func10, Tryd.ntmps10
    go_wp2_with fail
    refine (PL.out _).mono ?_
    rintro e w1 ⟨rfl, m0, rfl⟩
    go_upto_region 4 with fail
    have FR := hid (four_rows w (.cells #[.float .f64 0, .float .f64 0, .float .f64 0] 29) (.cells #[.float .f64 0, .float .f64 0, .float .f64 0] 29) (.cells #[.int .i64 1, .int .i64 0, .int .i64 0, .int .i64 0] 3) (.cells #[.int .i64 0, .int .i64 1, .int .i64 0, .int .i64 0] 3) m0)
    generalize hW : World.alloc _ _ = W
    have FW : Hid (W.heap[w.heap.size]? = some (.cells #[.float .f64 0, .float .f64 0, .float .f64 0] 29) ∧ W.heap[w.heap.size + 1]? = some (.cells #[.float .f64 0, .float .f64 0, .float .f64 0] 29) ∧ W.heap[w.heap.size + 1 + 1]? = some (.cells #[.int .i64 1, .int .i64 0, .int .i64 0, .int .i64 0] 3) ∧ W.heap[w.heap.size + 1 + 1 + 1]? = some (.cells #[.int .i64 0, .int .i64 1, .int .i64 0, .int .i64 0] 3) ∧ Ab w W) := by rw [← hW]; exact FR.out
    clear hW FR A0 R0 PL
    have KS : Hid (∀ w', Ab W w' → Ab W w' ∧ w'.cell? ⟨w.heap.size + 1 + 1, 0, none⟩ = some (.int .i64 1) ∧ w'.cell? ⟨w.heap.size + 1 + 1 + 1, 0, none⟩ = some (.int .i64 0)) := fun w' hw => ⟨hw, cell_of_row _ _ 0 _ _ _ (hw.heap FW.out.2.2.1), cell_of_row _ _ 0 _ _ _ (hw.heap FW.out.2.2.2.1)⟩
    have AW := Ab.refl W
    have LS : Hid (∀ u, Ab W u → Calls Tryd.prog 21 #[.int .i64 n, .int .i64 f, .int .i64 (IntKind.i64.wrap (((i : Nat) : Int) + 1)), .int .i64 (IntKind.i64.wrap ((j : Nat) : Int))] u fun e w' => e = .returned (.tuple #[.agg #[.float .f64 x1, .float .f64 y1, .float .f64 z1], .bool true]) ∧ Below u.heap.size u w' ∧ Ab W w') := fun u hu => (L1.out u).mono fun _ _ ⟨he, hb⟩ => ⟨he, hb, hu.call hb⟩
    go_cut [14] from 28 to 46 (fun s14 wx => ∃ g14, s14 = .pointer (some ⟨g14, 0, none⟩) ∧ Ab W wx ∧ W.heap.size ≤ g14 ∧ wx.heap[g14]? = some (.cells #[.float .f64 x1, .float .f64 y1, .float .f64 z1] 29))
    case first =>
      go_region_held3 (fun w' => Ab W w' ∧ w'.cell? ⟨w.heap.size + 1 + 1, 0, none⟩ = some (.int .i64 1) ∧ w'.cell? ⟨w.heap.size + 1 + 1 + 1, 0, none⟩ = some (.int .i64 0)) ((refine KS.out _ ?_; (with_reducible (repeat (first | assumption | apply Ab.drew | apply Ab.alloc | (refine Ab.call ?_ (by assumption)) | (refine Ab.setk ?_ (by first | assumption | exact Nat.le_refl _ | omega) _)))); done)) (first
        | (go_at_call 21; refine (LS.out _ ?_).mono ?_; (exact And.left (by assumption)); rintro e w2 ⟨rfl, b2, a2⟩; have l2 : W.heap.size ≤ w2.heap.size := Nat.le_trans (by first | exact Nat.le_refl _ | (simp; done)) (Below.size b2); (try (have n2 := newrow b2; have n2' := rowfacts n2; obtain ⟨⟨_, _, _⟩, _, _, _⟩ := n2'))))
      all_goals go_wp2_with fail
      all_goals go_meet
      all_goals refine ⟨_, rfl, ?_, ?_, ?_⟩
      all_goals first
        | exact heap_alloc_new _ _
        | exact row3 n2
        | exact a2.size
        | exact l2
        | exact Nat.le_refl _
        | ((with_reducible (repeat (first | assumption | apply Ab.drew | apply Ab.alloc | (refine Ab.setk ?_ (by first | assumption | exact Nat.le_refl _ | omega) _)))); done)
    case rest =>
    obtain ⟨g14, rfl, A4, hg14, r14⟩ := hcut
    have R14 := hid r14
    have F4 := hid (And.intro (A4.heap FW.out.1) (And.intro (A4.heap FW.out.2.1) (FW.out.2.2.2.2.trans A4)))
    have HG : Hid (w.heap.size + 4 ≤ g14) := by
      have := lt_of_block FW.out.2.2.2.1
      show _ ≤ _
      omega
    clear KS AW r14 A4 hg14 L1 LS FW
    go_upto_region 7 with fail
    have FR := hid (And.intro (heap_alloc2_old wc (.cells #[.int .i64 1, .int .i64 1, .int .i64 0, .int .i64 1] 3) (.cells #[.int .i64 1, .int .i64 1, .int .i64 1, .int .i64 0] 3)) (heap_alloc2_new wc (.cells #[.int .i64 1, .int .i64 1, .int .i64 0, .int .i64 1] 3) (.cells #[.int .i64 1, .int .i64 1, .int .i64 1, .int .i64 0] 3)))
    have FB := hid (bl2 wc (.cells #[.int .i64 1, .int .i64 1, .int .i64 0, .int .i64 1] 3) (.cells #[.int .i64 1, .int .i64 1, .int .i64 1, .int .i64 0] 3))
    generalize hW : World.alloc _ _ = W2
    have FW : Hid (W2.heap[wc.heap.size]? = some (.cells #[.int .i64 1, .int .i64 1, .int .i64 0, .int .i64 1] 3) ∧ W2.heap[wc.heap.size + 1]? = some (.cells #[.int .i64 1, .int .i64 1, .int .i64 1, .int .i64 0] 3)) := by rw [← hW]; exact FR.out
    have A2 : Ab wc W2 := by rw [← hW]; exact FB.out
    have F2 := hid (And.intro (A2.heap F4.out.1) (And.intro (A2.heap F4.out.2.1) (F4.out.2.2.trans A2)))
    have R2 := hid (A2.heap R14.out)
    clear hW FR FB A2 F4 R14
    have KS : Hid (∀ w', Ab W2 w' → Ab W2 w' ∧ w'.cell? ⟨wc.heap.size, 0, none⟩ = some (.int .i64 1) ∧ w'.cell? ⟨wc.heap.size + 1, 0, none⟩ = some (.int .i64 1)) := fun w' hw => ⟨hw, cell_of_row _ _ 0 _ _ _ (hw.heap FW.out.1), cell_of_row _ _ 0 _ _ _ (hw.heap FW.out.2)⟩
    have AW := Ab.refl W2
    have LS : Hid (∀ u, Ab W2 u → Calls Tryd.prog 21 #[.int .i64 n, .int .i64 f, .int .i64 (IntKind.i64.wrap (((i : Nat) : Int) + 1)), .int .i64 (IntKind.i64.wrap (((j : Nat) : Int) + 1))] u fun e w' => e = .returned (.tuple #[.agg #[.float .f64 x2, .float .f64 y2, .float .f64 z2], .bool true]) ∧ Below u.heap.size u w' ∧ Ab W2 w') := fun u hu => (L2.out u).mono fun _ _ ⟨he, hb⟩ => ⟨he, hb, hu.call hb⟩
    go_cut [16] from 48 to 66 (fun s16 wx => ∃ g16, s16 = .pointer (some ⟨g16, 0, none⟩) ∧ Ab W2 wx ∧ W2.heap.size ≤ g16 ∧ wx.heap[g16]? = some (.cells #[.float .f64 x2, .float .f64 y2, .float .f64 z2] 29))
    case first =>
      go_region_held3 (fun w' => Ab W2 w' ∧ w'.cell? ⟨wc.heap.size, 0, none⟩ = some (.int .i64 1) ∧ w'.cell? ⟨wc.heap.size + 1, 0, none⟩ = some (.int .i64 1)) ((refine KS.out _ ?_; (with_reducible (repeat (first | assumption | apply Ab.drew | apply Ab.alloc | (refine Ab.call ?_ (by assumption)) | (refine Ab.setk ?_ (by first | assumption | exact Nat.le_refl _ | omega) _)))); done)) (first
        | (go_at_call 21; refine (LS.out _ ?_).mono ?_; (exact And.left (by assumption)); rintro e w2 ⟨rfl, b2, a2⟩; have l2 : W2.heap.size ≤ w2.heap.size := Nat.le_trans (by first | exact Nat.le_refl _ | (simp; done)) (Below.size b2); (try (have n2 := newrow b2; have n2' := rowfacts n2; obtain ⟨⟨_, _, _⟩, _, _, _⟩ := n2'))))
      all_goals go_wp2_with fail
      all_goals go_meet
      all_goals refine ⟨_, rfl, ?_, ?_, ?_⟩
      all_goals first
        | exact heap_alloc_new _ _
        | exact row3 n2
        | exact a2.size
        | exact l2
        | exact Nat.le_refl _
        | ((with_reducible (repeat (first | assumption | apply Ab.drew | apply Ab.alloc | (refine Ab.setk ?_ (by first | assumption | exact Nat.le_refl _ | omega) _)))); done)
    case rest =>
    obtain ⟨g16, rfl, A4, hg16, r16⟩ := hcut
    have R14 := hid (A4.heap R2.out)
    have G0 := hid (A4.heap F2.out.1)
    have G1 := hid (A4.heap F2.out.2.1)
    have AZ := hid (F2.out.2.2.trans A4)
    have HG2 : w.heap.size + 2 ≤ g16 := by
      have := lt_of_block F2.out.2.1
      omega
    have HG1 : w.heap.size + 2 ≤ g14 := by have := HG.out; omega
    have R16 := hid r16
    clear KS AW LS L2 FW F2 R2 A4 hg16 r16 HG
    obtain ⟨-, a0, a1, a2⟩ := rowfacts R14.out
    obtain ⟨-, d0, d1, d2⟩ := rowfacts R16.out
    obtain ⟨⟨o0, o1, o2⟩, zz0, zz1, zz2⟩ := rowfacts G0.out
    obtain ⟨⟨o3, o4, o5⟩, zz3, zz4, zz5⟩ := rowfacts G1.out
    go_upto_region 8 with fail
    go_region
    have r0' := other3 (g := w.heap.size + 1) (h := w.heap.size) (a := 0) (b := 1) (c := 2) (x := .float .f64 x2) (y := .float .f64 y2) (z := .float .f64 z2) (by omega) (row3 (x := .float .f64 x1) (y := .float .f64 y1) (z := .float .f64 z1) G0.out)
    have r1' := row3 (x := .float .f64 x2) (y := .float .f64 y2) (z := .float .f64 z2) (other3 (g := w.heap.size) (h := w.heap.size + 1) (a := 0) (b := 1) (c := 2) (x := .float .f64 x1) (y := .float .f64 y1) (z := .float .f64 z1) (by omega) G1.out)
    have R0' := hid r0'
    have R1' := hid r1'
    clear r0' r1'
    all_goals go_wp2
    refine bodyPost_ret ?_ rfl ⟨rfl, ?_⟩
    · exact res_rows Tryd.results10 _ _ w.heap.size (w.heap.size + 1) _ _ _ _ rfl rfl (by rw [heap_drew]; exact R0'.out) (by rw [heap_drew]; exact R1'.out) Tryd.underlying29 rfl (by kernel_rfl) (by kernel_rfl)
    · exact Ab.drew ((((((Ab.setk AZ.out (by omega) _).setk (by omega) _).setk (by omega) _).setk (by omega) _).setk (by omega) _).setk (by omega) _)
end Go.Proofs.YtdgkmaamjdglmaaDoor

/-
  The corners of a side: walk over the program.
-/
namespace Go.Proofs.YtdgkmaamjdglmaaDoor
open Go.RowKit Tf Cu
attribute [local go_sem] run_bits run_from raw_feq raw_fne raw_flt raw_fgt run_neg run_store_float
set_option maxHeartbeats 16000000 in
theorem ends8_1 (n c s : Nat) (w : World) (hn : 1 ≤ n ∧ n ≤ 32) (hc : c < 6 * n * n) (hs : s < 4) (hk : s = 1) :
    Calls Tryd.prog 10 #[.int .i64 n, .int .i64 c, .int .i64 s] w fun e w' => e = .returned (.tuple #[.agg #[.float .f64 (px n (C1 n c s)), .float .f64 (py n (C1 n c s)), .float .f64 (pz n (C1 n c s))], .agg #[.float .f64 (px n (C2 n c s)), .float .f64 (py n (C2 n c s)), .float .f64 (pz n (C2 n c s))]]) ∧ Below w.heap.size w w' := by
  obtain ⟨h1, h2, h3, -⟩ := dec_lt hn.1 hc
  have PL := hid (fun u => place_ok n c hn hc u)
  obtain ⟨i1, j1, i2, j2, ⟨e1, e2, e3, e4⟩, K1, K2⟩ := ends8_calls n c s hn hc hs
  have K1 := hid K1
  have K2 := hid K2
  generalize px n (C1 n c s) = x1 at *
  generalize py n (C1 n c s) = y1 at *
  generalize pz n (C1 n c s) = z1 at *
  generalize px n (C2 n c s) = x2 at *
  generalize py n (C2 n c s) = y2 at *
  generalize pz n (C2 n c s) = z2 at *
  have hi : ((ci n c : Nat) : Int) ≤ 32 := by omega
  have hj : ((cj n c : Nat) : Int) ≤ 32 := by omega
  generalize cf n c = f at *
  generalize ci n c = i at *
  generalize cj n c = j at *
  clear hn hc h1 h2 h3
  have A0 := hid (bl2 w (.cells #[.float .f64 0, .float .f64 0, .float .f64 0] 29) (.cells #[.float .f64 0, .float .f64 0, .float .f64 0] 29))
  have R0 := hid (And.intro (heap_alloc2_old w (.cells #[.float .f64 0, .float .f64 0, .float .f64 0] 29) (.cells #[.float .f64 0, .float .f64 0, .float .f64 0] 29)) (heap_alloc2_new w (.cells #[.float .f64 0, .float .f64 0, .float .f64 0] 29) (.cells #[.float .f64 0, .float .f64 0, .float .f64 0] 29)))
  subst hk
  · obtain rfl : i1 = 0 := e1
    obtain rfl : j1 = 1 := e2
    obtain rfl : i2 = 1 := e3
    obtain rfl : j2 = 1 := e4
    have L1 : Hid (∀ u, Calls Tryd.prog 21 #[.int .i64 n, .int .i64 f, .int .i64 (IntKind.i64.wrap ((i : Nat) : Int)), .int .i64 (IntKind.i64.wrap (((j : Nat) : Int) + 1))] u fun e w' => e = .returned (.tuple #[.agg #[.float .f64 x1, .float .f64 y1, .float .f64 z1], .bool true]) ∧ Below u.heap.size u w') := fun u => by
      rw [wr64 _ (by omega) (by omega), wr64 _ (by omega) (by omega)]; exact K1.out u
    have L2 : Hid (∀ u, Calls Tryd.prog 21 #[.int .i64 n, .int .i64 f, .int .i64 (IntKind.i64.wrap (((i : Nat) : Int) + 1)), .int .i64 (IntKind.i64.wrap (((j : Nat) : Int) + 1))] u fun e w' => e = .returned (.tuple #[.agg #[.float .f64 x2, .float .f64 y2, .float .f64 z2], .bool true]) ∧ Below u.heap.size u w') := fun u => by
      rw [wr64 _ (by omega) (by omega), wr64 _ (by omega) (by omega)]; exact K2.out u
    clear hs K1 K2
    clear K1 K2
    go_enter Tryd.func10, Tryd.ntmps10
    go_wp2_with fail
    refine (PL.out _).mono ?_
    rintro e w1 ⟨rfl, m0, rfl⟩
    go_upto_region 4 with fail
    have FR := hid (four_rows w (.cells #[.float .f64 0, .float .f64 0, .float .f64 0] 29) (.cells #[.float .f64 0, .float .f64 0, .float .f64 0] 29) (.cells #[.int .i64 1, .int .i64 0, .int .i64 0, .int .i64 0] 3) (.cells #[.int .i64 0, .int .i64 1, .int .i64 0, .int .i64 0] 3) m0)
    generalize hW : World.alloc _ _ = W
    have FW : Hid (W.heap[w.heap.size]? = some (.cells #[.float .f64 0, .float .f64 0, .float .f64 0] 29) ∧ W.heap[w.heap.size + 1]? = some (.cells #[.float .f64 0, .float .f64 0, .float .f64 0] 29) ∧ W.heap[w.heap.size + 1 + 1]? = some (.cells #[.int .i64 1, .int .i64 0, .int .i64 0, .int .i64 0] 3) ∧ W.heap[w.heap.size + 1 + 1 + 1]? = some (.cells #[.int .i64 0, .int .i64 1, .int .i64 0, .int .i64 0] 3) ∧ Ab w W) := by rw [← hW]; exact FR.out
    clear hW FR A0 R0 PL
    have KS : Hid (∀ w', Ab W w' → Ab W w' ∧ w'.cell? ⟨w.heap.size + 1 + 1, 1, none⟩ = some (.int .i64 0) ∧ w'.cell? ⟨w.heap.size + 1 + 1 + 1, 1, none⟩ = some (.int .i64 1)) := fun w' hw => ⟨hw, cell_of_row _ _ 1 _ _ _ (hw.heap FW.out.2.2.1), cell_of_row _ _ 1 _ _ _ (hw.heap FW.out.2.2.2.1)⟩
    have AW := Ab.refl W
    have LS : Hid (∀ u, Ab W u → Calls Tryd.prog 21 #[.int .i64 n, .int .i64 f, .int .i64 (IntKind.i64.wrap ((i : Nat) : Int)), .int .i64 (IntKind.i64.wrap (((j : Nat) : Int) + 1))] u fun e w' => e = .returned (.tuple #[.agg #[.float .f64 x1, .float .f64 y1, .float .f64 z1], .bool true]) ∧ Below u.heap.size u w' ∧ Ab W w') := fun u hu => (L1.out u).mono fun _ _ ⟨he, hb⟩ => ⟨he, hb, hu.call hb⟩
    go_cut [14] from 28 to 46 (fun s14 wx => ∃ g14, s14 = .pointer (some ⟨g14, 0, none⟩) ∧ Ab W wx ∧ W.heap.size ≤ g14 ∧ wx.heap[g14]? = some (.cells #[.float .f64 x1, .float .f64 y1, .float .f64 z1] 29))
    case first =>
      go_region_held3 (fun w' => Ab W w' ∧ w'.cell? ⟨w.heap.size + 1 + 1, 1, none⟩ = some (.int .i64 0) ∧ w'.cell? ⟨w.heap.size + 1 + 1 + 1, 1, none⟩ = some (.int .i64 1)) ((refine KS.out _ ?_; (with_reducible (repeat (first | assumption | apply Ab.drew | apply Ab.alloc | (refine Ab.call ?_ (by assumption)) | (refine Ab.setk ?_ (by first | assumption | exact Nat.le_refl _ | omega) _)))); done)) (first
        | (go_at_call 21; refine (LS.out _ ?_).mono ?_; (exact And.left (by assumption)); rintro e w2 ⟨rfl, b2, a2⟩; have l2 : W.heap.size ≤ w2.heap.size := Nat.le_trans (by first | exact Nat.le_refl _ | (simp; done)) (Below.size b2); (try (have n2 := newrow b2; have n2' := rowfacts n2; obtain ⟨⟨_, _, _⟩, _, _, _⟩ := n2'))))
      all_goals go_wp2_with fail
      all_goals go_meet
      all_goals refine ⟨_, rfl, ?_, ?_, ?_⟩
      all_goals first
        | exact heap_alloc_new _ _
        | exact row3 n2
        | exact a2.size
        | exact l2
        | exact Nat.le_refl _
        | ((with_reducible (repeat (first | assumption | apply Ab.drew | apply Ab.alloc | (refine Ab.setk ?_ (by first | assumption | exact Nat.le_refl _ | omega) _)))); done)
    case rest =>
    obtain ⟨g14, rfl, A4, hg14, r14⟩ := hcut
    have R14 := hid r14
    have F4 := hid (And.intro (A4.heap FW.out.1) (And.intro (A4.heap FW.out.2.1) (FW.out.2.2.2.2.trans A4)))
    have HG : Hid (w.heap.size + 4 ≤ g14) := by
      have := lt_of_block FW.out.2.2.2.1
      show _ ≤ _
      omega
    clear KS AW r14 A4 hg14 L1 LS FW
    go_upto_region 7 with fail
    have FR := hid (And.intro (heap_alloc2_old wc (.cells #[.int .i64 1, .int .i64 1, .int .i64 0, .int .i64 1] 3) (.cells #[.int .i64 1, .int .i64 1, .int .i64 1, .int .i64 0] 3)) (heap_alloc2_new wc (.cells #[.int .i64 1, .int .i64 1, .int .i64 0, .int .i64 1] 3) (.cells #[.int .i64 1, .int .i64 1, .int .i64 1, .int .i64 0] 3)))
    have FB := hid (bl2 wc (.cells #[.int .i64 1, .int .i64 1, .int .i64 0, .int .i64 1] 3) (.cells #[.int .i64 1, .int .i64 1, .int .i64 1, .int .i64 0] 3))
    generalize hW : World.alloc _ _ = W2
    have FW : Hid (W2.heap[wc.heap.size]? = some (.cells #[.int .i64 1, .int .i64 1, .int .i64 0, .int .i64 1] 3) ∧ W2.heap[wc.heap.size + 1]? = some (.cells #[.int .i64 1, .int .i64 1, .int .i64 1, .int .i64 0] 3)) := by rw [← hW]; exact FR.out
    have A2 : Ab wc W2 := by rw [← hW]; exact FB.out
    have F2 := hid (And.intro (A2.heap F4.out.1) (And.intro (A2.heap F4.out.2.1) (F4.out.2.2.trans A2)))
    have R2 := hid (A2.heap R14.out)
    clear hW FR FB A2 F4 R14
    have KS : Hid (∀ w', Ab W2 w' → Ab W2 w' ∧ w'.cell? ⟨wc.heap.size, 1, none⟩ = some (.int .i64 1) ∧ w'.cell? ⟨wc.heap.size + 1, 1, none⟩ = some (.int .i64 1)) := fun w' hw => ⟨hw, cell_of_row _ _ 1 _ _ _ (hw.heap FW.out.1), cell_of_row _ _ 1 _ _ _ (hw.heap FW.out.2)⟩
    have AW := Ab.refl W2
    have LS : Hid (∀ u, Ab W2 u → Calls Tryd.prog 21 #[.int .i64 n, .int .i64 f, .int .i64 (IntKind.i64.wrap (((i : Nat) : Int) + 1)), .int .i64 (IntKind.i64.wrap (((j : Nat) : Int) + 1))] u fun e w' => e = .returned (.tuple #[.agg #[.float .f64 x2, .float .f64 y2, .float .f64 z2], .bool true]) ∧ Below u.heap.size u w' ∧ Ab W2 w') := fun u hu => (L2.out u).mono fun _ _ ⟨he, hb⟩ => ⟨he, hb, hu.call hb⟩
    go_cut [16] from 48 to 66 (fun s16 wx => ∃ g16, s16 = .pointer (some ⟨g16, 0, none⟩) ∧ Ab W2 wx ∧ W2.heap.size ≤ g16 ∧ wx.heap[g16]? = some (.cells #[.float .f64 x2, .float .f64 y2, .float .f64 z2] 29))
    case first =>
      go_region_held3 (fun w' => Ab W2 w' ∧ w'.cell? ⟨wc.heap.size, 1, none⟩ = some (.int .i64 1) ∧ w'.cell? ⟨wc.heap.size + 1, 1, none⟩ = some (.int .i64 1)) ((refine KS.out _ ?_; (with_reducible (repeat (first | assumption | apply Ab.drew | apply Ab.alloc | (refine Ab.call ?_ (by assumption)) | (refine Ab.setk ?_ (by first | assumption | exact Nat.le_refl _ | omega) _)))); done)) (first
        | (go_at_call 21; refine (LS.out _ ?_).mono ?_; (exact And.left (by assumption)); rintro e w2 ⟨rfl, b2, a2⟩; have l2 : W2.heap.size ≤ w2.heap.size := Nat.le_trans (by first | exact Nat.le_refl _ | (simp; done)) (Below.size b2); (try (have n2 := newrow b2; have n2' := rowfacts n2; obtain ⟨⟨_, _, _⟩, _, _, _⟩ := n2'))))
      all_goals go_wp2_with fail
      all_goals go_meet
      all_goals refine ⟨_, rfl, ?_, ?_, ?_⟩
      all_goals first
        | exact heap_alloc_new _ _
        | exact row3 n2
        | exact a2.size
        | exact l2
        | exact Nat.le_refl _
        | ((with_reducible (repeat (first | assumption | apply Ab.drew | apply Ab.alloc | (refine Ab.setk ?_ (by first | assumption | exact Nat.le_refl _ | omega) _)))); done)
    case rest =>
    obtain ⟨g16, rfl, A4, hg16, r16⟩ := hcut
    have R14 := hid (A4.heap R2.out)
    have G0 := hid (A4.heap F2.out.1)
    have G1 := hid (A4.heap F2.out.2.1)
    have AZ := hid (F2.out.2.2.trans A4)
    have HG2 : w.heap.size + 2 ≤ g16 := by
      have := lt_of_block F2.out.2.1
      omega
    have HG1 : w.heap.size + 2 ≤ g14 := by have := HG.out; omega
    have R16 := hid r16
    clear KS AW LS L2 FW F2 R2 A4 hg16 r16 HG
    obtain ⟨-, a0, a1, a2⟩ := rowfacts R14.out
    obtain ⟨-, d0, d1, d2⟩ := rowfacts R16.out
    obtain ⟨⟨o0, o1, o2⟩, zz0, zz1, zz2⟩ := rowfacts G0.out
    obtain ⟨⟨o3, o4, o5⟩, zz3, zz4, zz5⟩ := rowfacts G1.out
    go_upto_region 8 with fail
    go_region
    have r0' := other3 (g := w.heap.size + 1) (h := w.heap.size) (a := 0) (b := 1) (c := 2) (x := .float .f64 x2) (y := .float .f64 y2) (z := .float .f64 z2) (by omega) (row3 (x := .float .f64 x1) (y := .float .f64 y1) (z := .float .f64 z1) G0.out)
    have r1' := row3 (x := .float .f64 x2) (y := .float .f64 y2) (z := .float .f64 z2) (other3 (g := w.heap.size) (h := w.heap.size + 1) (a := 0) (b := 1) (c := 2) (x := .float .f64 x1) (y := .float .f64 y1) (z := .float .f64 z1) (by omega) G1.out)
    have R0' := hid r0'
    have R1' := hid r1'
    clear r0' r1'
    all_goals go_wp2
    refine bodyPost_ret ?_ rfl ⟨rfl, ?_⟩
    · exact res_rows Tryd.results10 _ _ w.heap.size (w.heap.size + 1) _ _ _ _ rfl rfl (by rw [heap_drew]; exact R0'.out) (by rw [heap_drew]; exact R1'.out) Tryd.underlying29 rfl (by kernel_rfl) (by kernel_rfl)
    · exact Ab.drew ((((((Ab.setk AZ.out (by omega) _).setk (by omega) _).setk (by omega) _).setk (by omega) _).setk (by omega) _).setk (by omega) _)
end Go.Proofs.YtdgkmaamjdglmaaDoor

/-
  The corners of a side: walk over the program.
-/
namespace Go.Proofs.YtdgkmaamjdglmaaDoor
open Go.RowKit Tf Cu
attribute [local go_sem] run_bits run_from raw_feq raw_fne raw_flt raw_fgt run_neg run_store_float
set_option maxHeartbeats 16000000 in
theorem ends8_2 (n c s : Nat) (w : World) (hn : 1 ≤ n ∧ n ≤ 32) (hc : c < 6 * n * n) (hs : s < 4) (hk : s = 2) :
    Calls Tryd.prog 10 #[.int .i64 n, .int .i64 c, .int .i64 s] w fun e w' => e = .returned (.tuple #[.agg #[.float .f64 (px n (C1 n c s)), .float .f64 (py n (C1 n c s)), .float .f64 (pz n (C1 n c s))], .agg #[.float .f64 (px n (C2 n c s)), .float .f64 (py n (C2 n c s)), .float .f64 (pz n (C2 n c s))]]) ∧ Below w.heap.size w w' := by
  obtain ⟨h1, h2, h3, -⟩ := dec_lt hn.1 hc
  have PL := hid (fun u => place_ok n c hn hc u)
  obtain ⟨i1, j1, i2, j2, ⟨e1, e2, e3, e4⟩, K1, K2⟩ := ends8_calls n c s hn hc hs
  have K1 := hid K1
  have K2 := hid K2
  generalize px n (C1 n c s) = x1 at *
  generalize py n (C1 n c s) = y1 at *
  generalize pz n (C1 n c s) = z1 at *
  generalize px n (C2 n c s) = x2 at *
  generalize py n (C2 n c s) = y2 at *
  generalize pz n (C2 n c s) = z2 at *
  have hi : ((ci n c : Nat) : Int) ≤ 32 := by omega
  have hj : ((cj n c : Nat) : Int) ≤ 32 := by omega
  generalize cf n c = f at *
  generalize ci n c = i at *
  generalize cj n c = j at *
  clear hn hc h1 h2 h3
  have A0 := hid (bl2 w (.cells #[.float .f64 0, .float .f64 0, .float .f64 0] 29) (.cells #[.float .f64 0, .float .f64 0, .float .f64 0] 29))
  have R0 := hid (And.intro (heap_alloc2_old w (.cells #[.float .f64 0, .float .f64 0, .float .f64 0] 29) (.cells #[.float .f64 0, .float .f64 0, .float .f64 0] 29)) (heap_alloc2_new w (.cells #[.float .f64 0, .float .f64 0, .float .f64 0] 29) (.cells #[.float .f64 0, .float .f64 0, .float .f64 0] 29)))
  subst hk
  · obtain rfl : i1 = 0 := e1
    obtain rfl : j1 = 0 := e2
    obtain rfl : i2 = 0 := e3
    obtain rfl : j2 = 1 := e4
    have L1 : Hid (∀ u, Calls Tryd.prog 21 #[.int .i64 n, .int .i64 f, .int .i64 (IntKind.i64.wrap ((i : Nat) : Int)), .int .i64 (IntKind.i64.wrap ((j : Nat) : Int))] u fun e w' => e = .returned (.tuple #[.agg #[.float .f64 x1, .float .f64 y1, .float .f64 z1], .bool true]) ∧ Below u.heap.size u w') := fun u => by
      rw [wr64 _ (by omega) (by omega), wr64 _ (by omega) (by omega)]; exact K1.out u
    have L2 : Hid (∀ u, Calls Tryd.prog 21 #[.int .i64 n, .int .i64 f, .int .i64 (IntKind.i64.wrap ((i : Nat) : Int)), .int .i64 (IntKind.i64.wrap (((j : Nat) : Int) + 1))] u fun e w' => e = .returned (.tuple #[.agg #[.float .f64 x2, .float .f64 y2, .float .f64 z2], .bool true]) ∧ Below u.heap.size u w') := fun u => by
      rw [wr64 _ (by omega) (by omega), wr64 _ (by omega) (by omega)]; exact K2.out u
    clear hs K1 K2
    clear K1 K2
    go_enter Tryd.func10, Tryd.ntmps10
    go_wp2_with fail
    refine (PL.out _).mono ?_
    rintro e w1 ⟨rfl, m0, rfl⟩
    go_upto_region 4 with fail
    have FR := hid (four_rows w (.cells #[.float .f64 0, .float .f64 0, .float .f64 0] 29) (.cells #[.float .f64 0, .float .f64 0, .float .f64 0] 29) (.cells #[.int .i64 1, .int .i64 0, .int .i64 0, .int .i64 0] 3) (.cells #[.int .i64 0, .int .i64 1, .int .i64 0, .int .i64 0] 3) m0)
    generalize hW : World.alloc _ _ = W
    have FW : Hid (W.heap[w.heap.size]? = some (.cells #[.float .f64 0, .float .f64 0, .float .f64 0] 29) ∧ W.heap[w.heap.size + 1]? = some (.cells #[.float .f64 0, .float .f64 0, .float .f64 0] 29) ∧ W.heap[w.heap.size + 1 + 1]? = some (.cells #[.int .i64 1, .int .i64 0, .int .i64 0, .int .i64 0] 3) ∧ W.heap[w.heap.size + 1 + 1 + 1]? = some (.cells #[.int .i64 0, .int .i64 1, .int .i64 0, .int .i64 0] 3) ∧ Ab w W) := by rw [← hW]; exact FR.out
    clear hW FR A0 R0 PL
    have KS : Hid (∀ w', Ab W w' → Ab W w' ∧ w'.cell? ⟨w.heap.size + 1 + 1, 2, none⟩ = some (.int .i64 0) ∧ w'.cell? ⟨w.heap.size + 1 + 1 + 1, 2, none⟩ = some (.int .i64 0)) := fun w' hw => ⟨hw, cell_of_row _ _ 2 _ _ _ (hw.heap FW.out.2.2.1), cell_of_row _ _ 2 _ _ _ (hw.heap FW.out.2.2.2.1)⟩
    have AW := Ab.refl W
    have LS : Hid (∀ u, Ab W u → Calls Tryd.prog 21 #[.int .i64 n, .int .i64 f, .int .i64 (IntKind.i64.wrap ((i : Nat) : Int)), .int .i64 (IntKind.i64.wrap ((j : Nat) : Int))] u fun e w' => e = .returned (.tuple #[.agg #[.float .f64 x1, .float .f64 y1, .float .f64 z1], .bool true]) ∧ Below u.heap.size u w' ∧ Ab W w') := fun u hu => (L1.out u).mono fun _ _ ⟨he, hb⟩ => ⟨he, hb, hu.call hb⟩
    go_cut [14] from 28 to 46 (fun s14 wx => ∃ g14, s14 = .pointer (some ⟨g14, 0, none⟩) ∧ Ab W wx ∧ W.heap.size ≤ g14 ∧ wx.heap[g14]? = some (.cells #[.float .f64 x1, .float .f64 y1, .float .f64 z1] 29))
    case first =>
      go_region_held3 (fun w' => Ab W w' ∧ w'.cell? ⟨w.heap.size + 1 + 1, 2, none⟩ = some (.int .i64 0) ∧ w'.cell? ⟨w.heap.size + 1 + 1 + 1, 2, none⟩ = some (.int .i64 0)) ((refine KS.out _ ?_; (with_reducible (repeat (first | assumption | apply Ab.drew | apply Ab.alloc | (refine Ab.call ?_ (by assumption)) | (refine Ab.setk ?_ (by first | assumption | exact Nat.le_refl _ | omega) _)))); done)) (first
        | (go_at_call 21; refine (LS.out _ ?_).mono ?_; (exact And.left (by assumption)); rintro e w2 ⟨rfl, b2, a2⟩; have l2 : W.heap.size ≤ w2.heap.size := Nat.le_trans (by first | exact Nat.le_refl _ | (simp; done)) (Below.size b2); (try (have n2 := newrow b2; have n2' := rowfacts n2; obtain ⟨⟨_, _, _⟩, _, _, _⟩ := n2'))))
      all_goals go_wp2_with fail
      all_goals go_meet
      all_goals refine ⟨_, rfl, ?_, ?_, ?_⟩
      all_goals first
        | exact heap_alloc_new _ _
        | exact row3 n2
        | exact a2.size
        | exact l2
        | exact Nat.le_refl _
        | ((with_reducible (repeat (first | assumption | apply Ab.drew | apply Ab.alloc | (refine Ab.setk ?_ (by first | assumption | exact Nat.le_refl _ | omega) _)))); done)
    case rest =>
    obtain ⟨g14, rfl, A4, hg14, r14⟩ := hcut
    have R14 := hid r14
    have F4 := hid (And.intro (A4.heap FW.out.1) (And.intro (A4.heap FW.out.2.1) (FW.out.2.2.2.2.trans A4)))
    have HG : Hid (w.heap.size + 4 ≤ g14) := by
      have := lt_of_block FW.out.2.2.2.1
      show _ ≤ _
      omega
    clear KS AW r14 A4 hg14 L1 LS FW
    go_upto_region 7 with fail
    have FR := hid (And.intro (heap_alloc2_old wc (.cells #[.int .i64 1, .int .i64 1, .int .i64 0, .int .i64 1] 3) (.cells #[.int .i64 1, .int .i64 1, .int .i64 1, .int .i64 0] 3)) (heap_alloc2_new wc (.cells #[.int .i64 1, .int .i64 1, .int .i64 0, .int .i64 1] 3) (.cells #[.int .i64 1, .int .i64 1, .int .i64 1, .int .i64 0] 3)))
    have FB := hid (bl2 wc (.cells #[.int .i64 1, .int .i64 1, .int .i64 0, .int .i64 1] 3) (.cells #[.int .i64 1, .int .i64 1, .int .i64 1, .int .i64 0] 3))
    generalize hW : World.alloc _ _ = W2
    have FW : Hid (W2.heap[wc.heap.size]? = some (.cells #[.int .i64 1, .int .i64 1, .int .i64 0, .int .i64 1] 3) ∧ W2.heap[wc.heap.size + 1]? = some (.cells #[.int .i64 1, .int .i64 1, .int .i64 1, .int .i64 0] 3)) := by rw [← hW]; exact FR.out
    have A2 : Ab wc W2 := by rw [← hW]; exact FB.out
    have F2 := hid (And.intro (A2.heap F4.out.1) (And.intro (A2.heap F4.out.2.1) (F4.out.2.2.trans A2)))
    have R2 := hid (A2.heap R14.out)
    clear hW FR FB A2 F4 R14
    have KS : Hid (∀ w', Ab W2 w' → Ab W2 w' ∧ w'.cell? ⟨wc.heap.size, 2, none⟩ = some (.int .i64 0) ∧ w'.cell? ⟨wc.heap.size + 1, 2, none⟩ = some (.int .i64 1)) := fun w' hw => ⟨hw, cell_of_row _ _ 2 _ _ _ (hw.heap FW.out.1), cell_of_row _ _ 2 _ _ _ (hw.heap FW.out.2)⟩
    have AW := Ab.refl W2
    have LS : Hid (∀ u, Ab W2 u → Calls Tryd.prog 21 #[.int .i64 n, .int .i64 f, .int .i64 (IntKind.i64.wrap ((i : Nat) : Int)), .int .i64 (IntKind.i64.wrap (((j : Nat) : Int) + 1))] u fun e w' => e = .returned (.tuple #[.agg #[.float .f64 x2, .float .f64 y2, .float .f64 z2], .bool true]) ∧ Below u.heap.size u w' ∧ Ab W2 w') := fun u hu => (L2.out u).mono fun _ _ ⟨he, hb⟩ => ⟨he, hb, hu.call hb⟩
    go_cut [16] from 48 to 66 (fun s16 wx => ∃ g16, s16 = .pointer (some ⟨g16, 0, none⟩) ∧ Ab W2 wx ∧ W2.heap.size ≤ g16 ∧ wx.heap[g16]? = some (.cells #[.float .f64 x2, .float .f64 y2, .float .f64 z2] 29))
    case first =>
      go_region_held3 (fun w' => Ab W2 w' ∧ w'.cell? ⟨wc.heap.size, 2, none⟩ = some (.int .i64 0) ∧ w'.cell? ⟨wc.heap.size + 1, 2, none⟩ = some (.int .i64 1)) ((refine KS.out _ ?_; (with_reducible (repeat (first | assumption | apply Ab.drew | apply Ab.alloc | (refine Ab.call ?_ (by assumption)) | (refine Ab.setk ?_ (by first | assumption | exact Nat.le_refl _ | omega) _)))); done)) (first
        | (go_at_call 21; refine (LS.out _ ?_).mono ?_; (exact And.left (by assumption)); rintro e w2 ⟨rfl, b2, a2⟩; have l2 : W2.heap.size ≤ w2.heap.size := Nat.le_trans (by first | exact Nat.le_refl _ | (simp; done)) (Below.size b2); (try (have n2 := newrow b2; have n2' := rowfacts n2; obtain ⟨⟨_, _, _⟩, _, _, _⟩ := n2'))))
      all_goals go_wp2_with fail
      all_goals go_meet
      all_goals refine ⟨_, rfl, ?_, ?_, ?_⟩
      all_goals first
        | exact heap_alloc_new _ _
        | exact row3 n2
        | exact a2.size
        | exact l2
        | exact Nat.le_refl _
        | ((with_reducible (repeat (first | assumption | apply Ab.drew | apply Ab.alloc | (refine Ab.setk ?_ (by first | assumption | exact Nat.le_refl _ | omega) _)))); done)
    case rest =>
    obtain ⟨g16, rfl, A4, hg16, r16⟩ := hcut
    have R14 := hid (A4.heap R2.out)
    have G0 := hid (A4.heap F2.out.1)
    have G1 := hid (A4.heap F2.out.2.1)
    have AZ := hid (F2.out.2.2.trans A4)
    have HG2 : w.heap.size + 2 ≤ g16 := by
      have := lt_of_block F2.out.2.1
      omega
    have HG1 : w.heap.size + 2 ≤ g14 := by have := HG.out; omega
    have R16 := hid r16
    clear KS AW LS L2 FW F2 R2 A4 hg16 r16 HG
    obtain ⟨-, a0, a1, a2⟩ := rowfacts R14.out
    obtain ⟨-, d0, d1, d2⟩ := rowfacts R16.out
    obtain ⟨⟨o0, o1, o2⟩, zz0, zz1, zz2⟩ := rowfacts G0.out
    obtain ⟨⟨o3, o4, o5⟩, zz3, zz4, zz5⟩ := rowfacts G1.out
    go_upto_region 8 with fail
    go_region
    have r0' := other3 (g := w.heap.size + 1) (h := w.heap.size) (a := 0) (b := 1) (c := 2) (x := .float .f64 x2) (y := .float .f64 y2) (z := .float .f64 z2) (by omega) (row3 (x := .float .f64 x1) (y := .float .f64 y1) (z := .float .f64 z1) G0.out)
    have r1' := row3 (x := .float .f64 x2) (y := .float .f64 y2) (z := .float .f64 z2) (other3 (g := w.heap.size) (h := w.heap.size + 1) (a := 0) (b := 1) (c := 2) (x := .float .f64 x1) (y := .float .f64 y1) (z := .float .f64 z1) (by omega) G1.out)
    have R0' := hid r0'
    have R1' := hid r1'
    clear r0' r1'
    all_goals go_wp2
    refine bodyPost_ret ?_ rfl ⟨rfl, ?_⟩
    · exact res_rows Tryd.results10 _ _ w.heap.size (w.heap.size + 1) _ _ _ _ rfl rfl (by rw [heap_drew]; exact R0'.out) (by rw [heap_drew]; exact R1'.out) Tryd.underlying29 rfl (by kernel_rfl) (by kernel_rfl)
    · exact Ab.drew ((((((Ab.setk AZ.out (by omega) _).setk (by omega) _).setk (by omega) _).setk (by omega) _).setk (by omega) _).setk (by omega) _)
end Go.Proofs.YtdgkmaamjdglmaaDoor

/-
  The corners of a side: walk over the program.
-/
namespace Go.Proofs.YtdgkmaamjdglmaaDoor
open Go.RowKit Tf Cu
attribute [local go_sem] run_bits run_from raw_feq raw_fne raw_flt raw_fgt run_neg run_store_float
set_option maxHeartbeats 16000000 in
theorem ends8_3 (n c s : Nat) (w : World) (hn : 1 ≤ n ∧ n ≤ 32) (hc : c < 6 * n * n) (hs : s < 4) (hk : s = 3) :
    Calls Tryd.prog 10 #[.int .i64 n, .int .i64 c, .int .i64 s] w fun e w' => e = .returned (.tuple #[.agg #[.float .f64 (px n (C1 n c s)), .float .f64 (py n (C1 n c s)), .float .f64 (pz n (C1 n c s))], .agg #[.float .f64 (px n (C2 n c s)), .float .f64 (py n (C2 n c s)), .float .f64 (pz n (C2 n c s))]]) ∧ Below w.heap.size w w' := by
  obtain ⟨h1, h2, h3, -⟩ := dec_lt hn.1 hc
  have PL := hid (fun u => place_ok n c hn hc u)
  obtain ⟨i1, j1, i2, j2, ⟨e1, e2, e3, e4⟩, K1, K2⟩ := ends8_calls n c s hn hc hs
  have K1 := hid K1
  have K2 := hid K2
  generalize px n (C1 n c s) = x1 at *
  generalize py n (C1 n c s) = y1 at *
  generalize pz n (C1 n c s) = z1 at *
  generalize px n (C2 n c s) = x2 at *
  generalize py n (C2 n c s) = y2 at *
  generalize pz n (C2 n c s) = z2 at *
  have hi : ((ci n c : Nat) : Int) ≤ 32 := by omega
  have hj : ((cj n c : Nat) : Int) ≤ 32 := by omega
  generalize cf n c = f at *
  generalize ci n c = i at *
  generalize cj n c = j at *
  clear hn hc h1 h2 h3
  have A0 := hid (bl2 w (.cells #[.float .f64 0, .float .f64 0, .float .f64 0] 29) (.cells #[.float .f64 0, .float .f64 0, .float .f64 0] 29))
  have R0 := hid (And.intro (heap_alloc2_old w (.cells #[.float .f64 0, .float .f64 0, .float .f64 0] 29) (.cells #[.float .f64 0, .float .f64 0, .float .f64 0] 29)) (heap_alloc2_new w (.cells #[.float .f64 0, .float .f64 0, .float .f64 0] 29) (.cells #[.float .f64 0, .float .f64 0, .float .f64 0] 29)))
  subst hk
  · obtain rfl : i1 = 0 := e1
    obtain rfl : j1 = 0 := e2
    obtain rfl : i2 = 1 := e3
    obtain rfl : j2 = 0 := e4
    have L1 : Hid (∀ u, Calls Tryd.prog 21 #[.int .i64 n, .int .i64 f, .int .i64 (IntKind.i64.wrap ((i : Nat) : Int)), .int .i64 (IntKind.i64.wrap ((j : Nat) : Int))] u fun e w' => e = .returned (.tuple #[.agg #[.float .f64 x1, .float .f64 y1, .float .f64 z1], .bool true]) ∧ Below u.heap.size u w') := fun u => by
      rw [wr64 _ (by omega) (by omega), wr64 _ (by omega) (by omega)]; exact K1.out u
    have L2 : Hid (∀ u, Calls Tryd.prog 21 #[.int .i64 n, .int .i64 f, .int .i64 (IntKind.i64.wrap (((i : Nat) : Int) + 1)), .int .i64 (IntKind.i64.wrap ((j : Nat) : Int))] u fun e w' => e = .returned (.tuple #[.agg #[.float .f64 x2, .float .f64 y2, .float .f64 z2], .bool true]) ∧ Below u.heap.size u w') := fun u => by
      rw [wr64 _ (by omega) (by omega), wr64 _ (by omega) (by omega)]; exact K2.out u
    clear hs K1 K2
    clear K1 K2
    go_enter Tryd.func10, Tryd.ntmps10
    go_wp2_with fail
    refine (PL.out _).mono ?_
    rintro e w1 ⟨rfl, m0, rfl⟩
    go_upto_region 4 with fail
    have FR := hid (four_rows w (.cells #[.float .f64 0, .float .f64 0, .float .f64 0] 29) (.cells #[.float .f64 0, .float .f64 0, .float .f64 0] 29) (.cells #[.int .i64 1, .int .i64 0, .int .i64 0, .int .i64 0] 3) (.cells #[.int .i64 0, .int .i64 1, .int .i64 0, .int .i64 0] 3) m0)
    generalize hW : World.alloc _ _ = W
    have FW : Hid (W.heap[w.heap.size]? = some (.cells #[.float .f64 0, .float .f64 0, .float .f64 0] 29) ∧ W.heap[w.heap.size + 1]? = some (.cells #[.float .f64 0, .float .f64 0, .float .f64 0] 29) ∧ W.heap[w.heap.size + 1 + 1]? = some (.cells #[.int .i64 1, .int .i64 0, .int .i64 0, .int .i64 0] 3) ∧ W.heap[w.heap.size + 1 + 1 + 1]? = some (.cells #[.int .i64 0, .int .i64 1, .int .i64 0, .int .i64 0] 3) ∧ Ab w W) := by rw [← hW]; exact FR.out
    clear hW FR A0 R0 PL
    have KS : Hid (∀ w', Ab W w' → Ab W w' ∧ w'.cell? ⟨w.heap.size + 1 + 1, 3, none⟩ = some (.int .i64 0) ∧ w'.cell? ⟨w.heap.size + 1 + 1 + 1, 3, none⟩ = some (.int .i64 0)) := fun w' hw => ⟨hw, cell_of_row _ _ 3 _ _ _ (hw.heap FW.out.2.2.1), cell_of_row _ _ 3 _ _ _ (hw.heap FW.out.2.2.2.1)⟩
    have AW := Ab.refl W
    have LS : Hid (∀ u, Ab W u → Calls Tryd.prog 21 #[.int .i64 n, .int .i64 f, .int .i64 (IntKind.i64.wrap ((i : Nat) : Int)), .int .i64 (IntKind.i64.wrap ((j : Nat) : Int))] u fun e w' => e = .returned (.tuple #[.agg #[.float .f64 x1, .float .f64 y1, .float .f64 z1], .bool true]) ∧ Below u.heap.size u w' ∧ Ab W w') := fun u hu => (L1.out u).mono fun _ _ ⟨he, hb⟩ => ⟨he, hb, hu.call hb⟩
    go_cut [14] from 28 to 46 (fun s14 wx => ∃ g14, s14 = .pointer (some ⟨g14, 0, none⟩) ∧ Ab W wx ∧ W.heap.size ≤ g14 ∧ wx.heap[g14]? = some (.cells #[.float .f64 x1, .float .f64 y1, .float .f64 z1] 29))
    case first =>
      go_region_held3 (fun w' => Ab W w' ∧ w'.cell? ⟨w.heap.size + 1 + 1, 3, none⟩ = some (.int .i64 0) ∧ w'.cell? ⟨w.heap.size + 1 + 1 + 1, 3, none⟩ = some (.int .i64 0)) ((refine KS.out _ ?_; (with_reducible (repeat (first | assumption | apply Ab.drew | apply Ab.alloc | (refine Ab.call ?_ (by assumption)) | (refine Ab.setk ?_ (by first | assumption | exact Nat.le_refl _ | omega) _)))); done)) (first
        | (go_at_call 21; refine (LS.out _ ?_).mono ?_; (exact And.left (by assumption)); rintro e w2 ⟨rfl, b2, a2⟩; have l2 : W.heap.size ≤ w2.heap.size := Nat.le_trans (by first | exact Nat.le_refl _ | (simp; done)) (Below.size b2); (try (have n2 := newrow b2; have n2' := rowfacts n2; obtain ⟨⟨_, _, _⟩, _, _, _⟩ := n2'))))
      all_goals go_wp2_with fail
      all_goals go_meet
      all_goals refine ⟨_, rfl, ?_, ?_, ?_⟩
      all_goals first
        | exact heap_alloc_new _ _
        | exact row3 n2
        | exact a2.size
        | exact l2
        | exact Nat.le_refl _
        | ((with_reducible (repeat (first | assumption | apply Ab.drew | apply Ab.alloc | (refine Ab.setk ?_ (by first | assumption | exact Nat.le_refl _ | omega) _)))); done)
    case rest =>
    obtain ⟨g14, rfl, A4, hg14, r14⟩ := hcut
    have R14 := hid r14
    have F4 := hid (And.intro (A4.heap FW.out.1) (And.intro (A4.heap FW.out.2.1) (FW.out.2.2.2.2.trans A4)))
    have HG : Hid (w.heap.size + 4 ≤ g14) := by
      have := lt_of_block FW.out.2.2.2.1
      show _ ≤ _
      omega
    clear KS AW r14 A4 hg14 L1 LS FW
    go_upto_region 7 with fail
    have FR := hid (And.intro (heap_alloc2_old wc (.cells #[.int .i64 1, .int .i64 1, .int .i64 0, .int .i64 1] 3) (.cells #[.int .i64 1, .int .i64 1, .int .i64 1, .int .i64 0] 3)) (heap_alloc2_new wc (.cells #[.int .i64 1, .int .i64 1, .int .i64 0, .int .i64 1] 3) (.cells #[.int .i64 1, .int .i64 1, .int .i64 1, .int .i64 0] 3)))
    have FB := hid (bl2 wc (.cells #[.int .i64 1, .int .i64 1, .int .i64 0, .int .i64 1] 3) (.cells #[.int .i64 1, .int .i64 1, .int .i64 1, .int .i64 0] 3))
    generalize hW : World.alloc _ _ = W2
    have FW : Hid (W2.heap[wc.heap.size]? = some (.cells #[.int .i64 1, .int .i64 1, .int .i64 0, .int .i64 1] 3) ∧ W2.heap[wc.heap.size + 1]? = some (.cells #[.int .i64 1, .int .i64 1, .int .i64 1, .int .i64 0] 3)) := by rw [← hW]; exact FR.out
    have A2 : Ab wc W2 := by rw [← hW]; exact FB.out
    have F2 := hid (And.intro (A2.heap F4.out.1) (And.intro (A2.heap F4.out.2.1) (F4.out.2.2.trans A2)))
    have R2 := hid (A2.heap R14.out)
    clear hW FR FB A2 F4 R14
    have KS : Hid (∀ w', Ab W2 w' → Ab W2 w' ∧ w'.cell? ⟨wc.heap.size, 3, none⟩ = some (.int .i64 1) ∧ w'.cell? ⟨wc.heap.size + 1, 3, none⟩ = some (.int .i64 0)) := fun w' hw => ⟨hw, cell_of_row _ _ 3 _ _ _ (hw.heap FW.out.1), cell_of_row _ _ 3 _ _ _ (hw.heap FW.out.2)⟩
    have AW := Ab.refl W2
    have LS : Hid (∀ u, Ab W2 u → Calls Tryd.prog 21 #[.int .i64 n, .int .i64 f, .int .i64 (IntKind.i64.wrap (((i : Nat) : Int) + 1)), .int .i64 (IntKind.i64.wrap ((j : Nat) : Int))] u fun e w' => e = .returned (.tuple #[.agg #[.float .f64 x2, .float .f64 y2, .float .f64 z2], .bool true]) ∧ Below u.heap.size u w' ∧ Ab W2 w') := fun u hu => (L2.out u).mono fun _ _ ⟨he, hb⟩ => ⟨he, hb, hu.call hb⟩
    go_cut [16] from 48 to 66 (fun s16 wx => ∃ g16, s16 = .pointer (some ⟨g16, 0, none⟩) ∧ Ab W2 wx ∧ W2.heap.size ≤ g16 ∧ wx.heap[g16]? = some (.cells #[.float .f64 x2, .float .f64 y2, .float .f64 z2] 29))
    case first =>
      go_region_held3 (fun w' => Ab W2 w' ∧ w'.cell? ⟨wc.heap.size, 3, none⟩ = some (.int .i64 1) ∧ w'.cell? ⟨wc.heap.size + 1, 3, none⟩ = some (.int .i64 0)) ((refine KS.out _ ?_; (with_reducible (repeat (first | assumption | apply Ab.drew | apply Ab.alloc | (refine Ab.call ?_ (by assumption)) | (refine Ab.setk ?_ (by first | assumption | exact Nat.le_refl _ | omega) _)))); done)) (first
        | (go_at_call 21; refine (LS.out _ ?_).mono ?_; (exact And.left (by assumption)); rintro e w2 ⟨rfl, b2, a2⟩; have l2 : W2.heap.size ≤ w2.heap.size := Nat.le_trans (by first | exact Nat.le_refl _ | (simp; done)) (Below.size b2); (try (have n2 := newrow b2; have n2' := rowfacts n2; obtain ⟨⟨_, _, _⟩, _, _, _⟩ := n2'))))
      all_goals go_wp2_with fail
      all_goals go_meet
      all_goals refine ⟨_, rfl, ?_, ?_, ?_⟩
      all_goals first
        | exact heap_alloc_new _ _
        | exact row3 n2
        | exact a2.size
        | exact l2
        | exact Nat.le_refl _
        | ((with_reducible (repeat (first | assumption | apply Ab.drew | apply Ab.alloc | (refine Ab.setk ?_ (by first | assumption | exact Nat.le_refl _ | omega) _)))); done)
    case rest =>
    obtain ⟨g16, rfl, A4, hg16, r16⟩ := hcut
    have R14 := hid (A4.heap R2.out)
    have G0 := hid (A4.heap F2.out.1)
    have G1 := hid (A4.heap F2.out.2.1)
    have AZ := hid (F2.out.2.2.trans A4)
    have HG2 : w.heap.size + 2 ≤ g16 := by
      have := lt_of_block F2.out.2.1
      omega
    have HG1 : w.heap.size + 2 ≤ g14 := by have := HG.out; omega
    have R16 := hid r16
    clear KS AW LS L2 FW F2 R2 A4 hg16 r16 HG
    obtain ⟨-, a0, a1, a2⟩ := rowfacts R14.out
    obtain ⟨-, d0, d1, d2⟩ := rowfacts R16.out
    obtain ⟨⟨o0, o1, o2⟩, zz0, zz1, zz2⟩ := rowfacts G0.out
    obtain ⟨⟨o3, o4, o5⟩, zz3, zz4, zz5⟩ := rowfacts G1.out
    go_upto_region 8 with fail
    go_region
    have r0' := other3 (g := w.heap.size + 1) (h := w.heap.size) (a := 0) (b := 1) (c := 2) (x := .float .f64 x2) (y := .float .f64 y2) (z := .float .f64 z2) (by omega) (row3 (x := .float .f64 x1) (y := .float .f64 y1) (z := .float .f64 z1) G0.out)
    have r1' := row3 (x := .float .f64 x2) (y := .float .f64 y2) (z := .float .f64 z2) (other3 (g := w.heap.size) (h := w.heap.size + 1) (a := 0) (b := 1) (c := 2) (x := .float .f64 x1) (y := .float .f64 y1) (z := .float .f64 z1) (by omega) G1.out)
    have R0' := hid r0'
    have R1' := hid r1'
    clear r0' r1'
    all_goals go_wp2
    refine bodyPost_ret ?_ rfl ⟨rfl, ?_⟩
    · exact res_rows Tryd.results10 _ _ w.heap.size (w.heap.size + 1) _ _ _ _ rfl rfl (by rw [heap_drew]; exact R0'.out) (by rw [heap_drew]; exact R1'.out) Tryd.underlying29 rfl (by kernel_rfl) (by kernel_rfl)
    · exact Ab.drew ((((((Ab.setk AZ.out (by omega) _).setk (by omega) _).setk (by omega) _).setk (by omega) _).setk (by omega) _).setk (by omega) _)
end Go.Proofs.YtdgkmaamjdglmaaDoor

/-
  The corners of a side: walk over the program.
-/
namespace Go.Proofs.YtdgkmaamjdglmaaDoor
open Go.RowKit Tf Cu
attribute [local go_sem] run_bits run_from raw_feq raw_fne raw_flt raw_fgt run_neg run_store_float
theorem ends8_at (n c s : Nat) (w : World) (hn : 1 ≤ n ∧ n ≤ 32) (hc : c < 6 * n * n) (hs : s < 4) :
    Calls Tryd.prog 10 #[.int .i64 n, .int .i64 c, .int .i64 s] w fun e w' => e = .returned (.tuple #[.agg #[.float .f64 (px n (C1 n c s)), .float .f64 (py n (C1 n c s)), .float .f64 (pz n (C1 n c s))], .agg #[.float .f64 (px n (C2 n c s)), .float .f64 (py n (C2 n c s)), .float .f64 (pz n (C2 n c s))]]) ∧ Below w.heap.size w w' := by
  rcases Cu.four hs with rfl | rfl | rfl | rfl
  · exact ends8_0 n c 0 w hn hc hs rfl
  · exact ends8_1 n c 1 w hn hc hs rfl
  · exact ends8_2 n c 2 w hn hc hs rfl
  · exact ends8_3 n c 3 w hn hc hs rfl
end Go.Proofs.YtdgkmaamjdglmaaDoor
