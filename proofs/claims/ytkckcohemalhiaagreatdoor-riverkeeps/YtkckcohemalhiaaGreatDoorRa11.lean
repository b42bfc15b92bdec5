/-
  Some of the texts of this proof, one behind the other.
-/
import Derived.Deep.QuietTactic
import Derived.Test.YtkckcohemalhiaaGreatDoorRa10
namespace Go.Proofs.YtkckcohemalhiaaGreatDoor
open Go.RowKit Tf Cu
attribute [local go_sem] run_bits run_from raw_feq raw_fne raw_flt raw_fgt run_neg run_store_float
set_option maxRecDepth 100000 in
set_option maxHeartbeats 8000000 in
theorem copied19_at (pb pw pt ps : Option Addr) (lb cb lw cw lt ct ls cs : Nat) (B : Nat → Nat) (Wt Tr : Nat → Int) (Sp : Nat → Nat) (sky st : Int) (w : World)
    (hB : IsFl w pb lb B) (hW : IsIn w pw lw Wt) (hT : IsIn w pt lt Tr) (hS : IsFl w ps ls Sp)
    (hl : lb ≤ 65536 ∧ lw ≤ 65536 ∧ lt ≤ 65536 ∧ ls ≤ 65536) :
    Calls Tryz.prog 21 #[.agg #[.slice pb lb cb, .slice pw lw cw, .slice pt lt ct, .slice ps ls cs, .int .i64 sky, .int .i64 st]] w fun e w' => ∃ bb bw bt bs, e = .returned (.agg #[.slice (some ⟨bb, 0, none⟩) lb (lb + 9), .slice (some ⟨bw, 0, none⟩) lw (lw + 9), .slice (some ⟨bt, 0, none⟩) lt (lt + 9), .slice (some ⟨bs, 0, none⟩) ls (ls + 9), .int .i64 sky, .int .i64 st]) ∧ Below w.heap.size w w' ∧ w'.rowIs bb 40 (lb + 9) (mkF lb (fun k => .float .f64 (B k)) (.float .f64 4635118810238550016) (.float .f64 0)) ∧ w'.rowIs bw 2 (lw + 9) (mkF lw (fun k => .int .i64 (Wt k)) (.int .i64 77) (.int .i64 0)) ∧ w'.rowIs bt 2 (lt + 9) (mkF lt (fun k => .int .i64 (Tr k)) (.int .i64 77) (.int .i64 0)) ∧ w'.rowIs bs 40 (ls + 9) (mkF ls (fun k => .float .f64 (Sp k)) (.float .f64 4635118810238550016) (.float .f64 0)) ∧ (w.heap.size ≤ bb ∧ w.heap.size ≤ bw ∧ w.heap.size ≤ bt ∧ w.heap.size ≤ bs ∧ bb ≠ bw ∧ bb ≠ bt ∧ bb ≠ bs ∧ bw ≠ bt ∧ bw ≠ bs ∧ bt ≠ bs) := by
  have A0 : Hid (Ab w (((w.alloc (.cells #[.slice pb lb cb, .slice pw lw cw, .slice pt lt ct, .slice ps ls cs, .int .i64 sky, .int .i64 st] 25)).alloc (.cells #[.slice none 0 0, .slice none 0 0, .slice none 0 0, .slice none 0 0, .int .i64 0, .int .i64 0] 25)).alloc (.cells #[.slice pb lb cb, .slice pw lw cw, .slice pt lt ct, .slice ps ls cs, .int .i64 sky, .int .i64 st] 25))) := bl3 _ _ _ _
  have GS : Hid ((((w.alloc (.cells #[.slice pb lb cb, .slice pw lw cw, .slice pt lt ct, .slice ps ls cs, .int .i64 sky, .int .i64 st] 25)).alloc (.cells #[.slice none 0 0, .slice none 0 0, .slice none 0 0, .slice none 0 0, .int .i64 0, .int .i64 0] 25)).alloc (.cells #[.slice pb lb cb, .slice pw lw cw, .slice pt lt ct, .slice ps ls cs, .int .i64 sky, .int .i64 st] 25)).heap[w.heap.size]? = some (.cells #[.slice pb lb cb, .slice pw lw cw, .slice pt lt ct, .slice ps ls cs, .int .i64 sky, .int .i64 st] 25)) := Ab.heap (bl2 _ _ _) (heap_alloc_new _ _)
  have GR : Hid ((((w.alloc (.cells #[.slice pb lb cb, .slice pw lw cw, .slice pt lt ct, .slice ps ls cs, .int .i64 sky, .int .i64 st] 25)).alloc (.cells #[.slice none 0 0, .slice none 0 0, .slice none 0 0, .slice none 0 0, .int .i64 0, .int .i64 0] 25)).alloc (.cells #[.slice pb lb cb, .slice pw lw cw, .slice pt lt ct, .slice ps ls cs, .int .i64 sky, .int .i64 st] 25)).heap[w.heap.size + 1]? = some (.cells #[.slice none 0 0, .slice none 0 0, .slice none 0 0, .slice none 0 0, .int .i64 0, .int .i64 0] 25)) := Ab.heap (bl1 _ _) (heap_alloc2_new _ _ _)
  have GO : Hid ((((w.alloc (.cells #[.slice pb lb cb, .slice pw lw cw, .slice pt lt ct, .slice ps ls cs, .int .i64 sky, .int .i64 st] 25)).alloc (.cells #[.slice none 0 0, .slice none 0 0, .slice none 0 0, .slice none 0 0, .int .i64 0, .int .i64 0] 25)).alloc (.cells #[.slice pb lb cb, .slice pw lw cw, .slice pt lt ct, .slice ps ls cs, .int .i64 sky, .int .i64 st] 25)).heap[w.heap.size + 2]? = some (.cells #[.slice pb lb cb, .slice pw lw cw, .slice pt lt ct, .slice ps ls cs, .int .i64 sky, .int .i64 st] 25)) := heap_alloc3_new _ _ _ _
  have HL := hid hl
  have Hb := hid hB
  have Hw := hid hW
  have Ht := hid hT
  have Hs := hid hS
  clear hl hB hW hT hS
  go_enter Tryz.func21, Tryz.ntmps21
  go_upto_region 2 with fail
  generalize hV : World.alloc (World.alloc (World.alloc w _) _) _ = V at *
  obtain ⟨gs, hgs⟩ : ∃ x, w.heap.size = x := ⟨_, rfl⟩
  obtain ⟨gr, hgr⟩ : ∃ x, w.heap.size + 1 = x := ⟨_, rfl⟩
  obtain ⟨go, hgo⟩ : ∃ x, w.heap.size + 2 = x := ⟨_, rfl⟩
  have GSO : Hid (gs ≠ go) := by intro h; omega
  have GRO : Hid (gr ≠ go ∧ gs ≠ gr) := ⟨by intro h; omega, by intro h; omega⟩
  have GRW : Hid (w.heap.size ≤ gr ∧ gr < go ∧ w.heap.size ≤ go) := ⟨by omega, by omega, by omega⟩
  have GOW : Hid (w.heap.size ≤ go) := by show w.heap.size ≤ go; omega
  rw [hgs] at GS
  rw [hgr] at GR
  rw [hgo] at GO
  rw [hgo, hgr, hgs]
  have AV := A0
  clear hgs hgr hgo hV A0
  go_upto_region 2 with fail
  go_cut [] from 5 to 19 (fun V0 => ∃ bb : Nat, V.heap.size ≤ bb ∧ Abx V go 6 25 V0 ∧ V0.heap[go]? = some (.cells #[.slice (some ⟨bb, 0, none⟩) lb (lb + 9), .slice pw lw cw, .slice pt lt ct, .slice ps ls cs, .int .i64 sky, .int .i64 st] 25) ∧ V0.rowIs bb 40 (lb + 9) (mkF lb (fun k => .float .f64 (B k)) (.float .f64 4635118810238550016) (.float .f64 0)))
  case first =>
    obtain ⟨i0, hi0, hi1⟩ := info_f13
    have IP := hid (And.intro hi0 hi1)
    clear hi0 hi1
    have M1 : ∀ v : World, (Instr.makeSlice 22 (.int .i64 0) (.int .i64 (IntKind.i64.wrap ((lb : Int) + 9)))).run Tryz.prog v = .ok (.slice (some ⟨v.heap.size, 0, none⟩) 0 (lb + 9)) (v.alloc (.cells (madeCells #[.float .f64 0] (lb + 9)) 40)) := fun v => by rw [wrap9 _ HL.out.1]; exact make_f13 lb HL.out.1 v
    have WR : Hid (IntKind.i64.wrap ((lb : Int) + 9) = (lb : Int) + 9) := wrap9 _ HL.out.1
    have lb1 : (lb : Int) ≤ 65536 := by have := HL.out; omega
    have AX0 : Abx V go 6 25 V := (Ab.refl V).x rfl GO.out
    have lb2 : ((lb : Nat) : Int) ≤ ((lb + 9 : Nat) : Int) := by omega
    have lb3 : (lb : Int) ≤ (lb : Int) + 9 := by omega
    have lb4 : (0 : Int) ≤ (lb : Int) := by omega
    have AB0 := hid (Ab.refl V)
    have GX := hid (lt_of_block GO.out)
    have KS : Hid (∀ w', Abx V go 6 25 w' → Abx V go 6 25 w' ∧ w'.cell? ⟨gs, 0, none⟩ = some (.slice pb lb cb) ∧ w'.frozen? ⟨go, 0, none⟩ = false ∧ w'.cell? ⟨go, 0, none⟩ = some (rv w' go 0)) := fun w' h => ⟨h, cell_of_row _ _ 0 _ _ _ (h.heap GSO.out GS.out), h.free 0, h.some (by decide)⟩
    have SR : Hid (∀ v, Abx V go 6 25 v → Src Tryz.prog 1 22 (.slice pb lb cb) lb ((List.range lb).map fun k => Value.float .f64 (B k)) v) := fun v h => src_fl (Hb.out.below (h.ab AV.out GOW.out)) _
    go_region_held3 (fun w' => Abx V go 6 25 w' ∧ w'.cell? ⟨gs, 0, none⟩ = some (.slice pb lb cb) ∧ w'.frozen? ⟨go, 0, none⟩ = false ∧ w'.cell? ⟨go, 0, none⟩ = some (rv w' go 0)) ((refine KS.out _ ?_; (with_reducible (repeat (first | assumption | apply Abx.drew | apply Abx.alloc | apply Abx.set))); done)) (first
      | (have r1 := R1.out; have q1 := HQ.out; refine step_app (by rfl) _ _ 22 (by rfl) 40 i0 Tryz.underlying22 IP.out.1 IP.out.2 _ lb (lb + 9) _ (by rfl) r1 _ 1 _ (by rfl) (src_oneF q1) (by omega) (lb + 1) rfl ?_; intro w5 r5 x5; have AX5 := Abx.far AX4 x5 (by omega) GX.out; have AB5 := hid (Abx.ab x5 AB4.out (by omega)); have R2 := hid r5; clear r5 x5; clear r1 q1)
      | (have r1 := R1.out; refine step_app (by rfl) _ _ 22 (by rfl) 40 i0 Tryz.underlying22 IP.out.1 IP.out.2 _ lb (lb + 9) _ (by rfl) (r1.alloc _) _ 1 _ (by rfl) (src_oneF (heap_alloc_new w4 _)) (by omega) (lb + 1) rfl ?_; intro w5 r5 x5; have AX5 := Abx.far (AX4.alloc _) x5 (by omega) GX.out; have AB5 := hid (Abx.ab x5 (AB4.out.alloc _) (by omega)); have R2 := hid r5; clear r5 x5; clear r1)
      | (refine step_app (by rfl) _ _ 22 (by rfl) 40 i0 Tryz.underlying22 IP.out.1 IP.out.2 (V.heap.size + 1) 0 (lb + 9) (fun _ => .float .f64 0) (by rfl) (row_m3 V (.float .f64 0) (lb + 9) 40 (.cells #[.float .f64 4635118810238550016] 40)) (.slice pb lb cb) lb _ (by rfl) (SR.out _ ((AX0.drew.alloc (.cells #[.float .f64 4635118810238550016] 40)).alloc (.cells (madeCells #[.float .f64 0] (lb + 9)) 40))) (by omega) lb (by omega) ?_; intro w4 r4 x4; have AX4 := Abx.far ((AX0.drew.alloc (.cells #[.float .f64 4635118810238550016] 40)).alloc (.cells (madeCells #[.float .f64 0] (lb + 9)) 40)) x4 (by omega) GX.out; have AB4 := hid (Abx.ab x4 ((AB0.out.drew.alloc (.cells #[.float .f64 4635118810238550016] 40)).alloc (.cells (madeCells #[.float .f64 0] (lb + 9)) 40)) (by omega)); have R1 := hid r4; have HQ := hid (abx_other x4 (blk_m3 V _ (.cells #[.float .f64 4635118810238550016] 40)) (by omega)); clear r4 x4)
      | (refine step_app (by rfl) _ _ 22 (by rfl) 40 i0 Tryz.underlying22 IP.out.1 IP.out.2 V.heap.size 0 (lb + 9) (fun _ => .float .f64 0) (by rfl) (row_m2 V (.float .f64 0) (lb + 9) 40 (.cells #[.float .f64 4635118810238550016] 40)) (.slice pb lb cb) lb _ (by rfl) (SR.out _ ((AX0.drew.alloc (.cells (madeCells #[.float .f64 0] (lb + 9)) 40)).alloc (.cells #[.float .f64 4635118810238550016] 40))) (by omega) lb (by omega) ?_; intro w4 r4 x4; have AX4 := Abx.far ((AX0.drew.alloc (.cells (madeCells #[.float .f64 0] (lb + 9)) 40)).alloc (.cells #[.float .f64 4635118810238550016] 40)) x4 (by omega) GX.out; have AB4 := hid (Abx.ab x4 ((AB0.out.drew.alloc (.cells (madeCells #[.float .f64 0] (lb + 9)) 40)).alloc (.cells #[.float .f64 4635118810238550016] 40)) (by omega)); have R1 := hid r4; have HQ := hid (abx_other x4 (blk_m2 V _ (.cells #[.float .f64 4635118810238550016] 40)) (by omega)); clear r4 x4)
      | (refine step_app (by rfl) _ _ 22 (by rfl) 40 i0 Tryz.underlying22 IP.out.1 IP.out.2 V.heap.size 0 (lb + 9) (fun _ => .float .f64 0) (by rfl) (row_m1 V (.float .f64 0) (lb + 9) 40) (.slice pb lb cb) lb _ (by rfl) (SR.out _ (AX0.drew.alloc (.cells (madeCells #[.float .f64 0] (lb + 9)) 40))) (by omega) lb (by omega) ?_; intro w4 r4 x4; have AX4 := Abx.far (AX0.drew.alloc (.cells (madeCells #[.float .f64 0] (lb + 9)) 40)) x4 (by omega) GX.out; have AB4 := hid (Abx.ab x4 (AB0.out.drew.alloc (.cells (madeCells #[.float .f64 0] (lb + 9)) 40)) (by omega)); have R1 := hid r4; clear r4 x4))
    all_goals
      go_wp2_with fail
      go_meet
      exact ⟨_, by omega, AX5.set _ _, one_set (AB5.out.heap GO.out), (R2.out.setOther (Ne.symm (Nat.ne_of_lt (Nat.lt_of_lt_of_le GX.out (by omega)))) _).congr (fun j _ => mk_two _ _ _ _ _)⟩
  case rest =>
    rename World => V0
    obtain ⟨bb, h1, h2, h3, h4⟩ := hcut
    have LTb : Hid (V.heap.size ≤ bb ∧ bb < V0.heap.size ∧ go < V.heap.size) := ⟨h1, h4.lt, lt_of_block GO.out⟩
    have AV2 : Hid (Ab w V0) := h2.ab AV.out GOW.out
    have GS2 := hid (h2.heap GSO.out GS.out)
    have GR2 := hid (h2.heap GRO.out.1 GR.out)
    have Rb := hid h4
    clear AV GS GR GO 
    have AV := AV2
    have GS := GS2
    have GR := GR2
    have GO := hid h3
    clear AV2 GS2 GR2 h1 h2 h3 h4
    go_upto_region 3 with fail
    go_cut [] from 20 to 34 (fun V1 => ∃ bs : Nat, V0.heap.size ≤ bs ∧ Abx V0 go 6 25 V1 ∧ V1.heap[go]? = some (.cells #[.slice (some ⟨bb, 0, none⟩) lb (lb + 9), .slice pw lw cw, .slice pt lt ct, .slice (some ⟨bs, 0, none⟩) ls (ls + 9), .int .i64 sky, .int .i64 st] 25) ∧ V1.rowIs bs 40 (ls + 9) (mkF ls (fun k => .float .f64 (Sp k)) (.float .f64 4635118810238550016) (.float .f64 0)))
    case first =>
      obtain ⟨i0, hi0, hi1⟩ := info_f13
      have IP := hid (And.intro hi0 hi1)
      clear hi0 hi1
      have M1 : ∀ v : World, (Instr.makeSlice 22 (.int .i64 0) (.int .i64 (IntKind.i64.wrap ((ls : Int) + 9)))).run Tryz.prog v = .ok (.slice (some ⟨v.heap.size, 0, none⟩) 0 (ls + 9)) (v.alloc (.cells (madeCells #[.float .f64 0] (ls + 9)) 40)) := fun v => by rw [wrap9 _ HL.out.2.2.2]; exact make_f13 ls HL.out.2.2.2 v
      have WR : Hid (IntKind.i64.wrap ((ls : Int) + 9) = (ls : Int) + 9) := wrap9 _ HL.out.2.2.2
      have lb1 : (ls : Int) ≤ 65536 := by have := HL.out; omega
      have AX0 : Abx V0 go 6 25 V0 := (Ab.refl V0).x rfl GO.out
      have lb2 : ((ls : Nat) : Int) ≤ ((ls + 9 : Nat) : Int) := by omega
      have lb3 : (ls : Int) ≤ (ls : Int) + 9 := by omega
      have lb4 : (0 : Int) ≤ (ls : Int) := by omega
      have AB0 := hid (Ab.refl V0)
      have GX := hid (lt_of_block GO.out)
      have KS : Hid (∀ w', Abx V0 go 6 25 w' → Abx V0 go 6 25 w' ∧ w'.cell? ⟨gs, 3, none⟩ = some (.slice ps ls cs) ∧ w'.frozen? ⟨go, 3, none⟩ = false ∧ w'.cell? ⟨go, 3, none⟩ = some (rv w' go 3)) := fun w' h => ⟨h, cell_of_row _ _ 3 _ _ _ (h.heap GSO.out GS.out), h.free 3, h.some (by decide)⟩
      have SR : Hid (∀ v, Abx V0 go 6 25 v → Src Tryz.prog 1 22 (.slice ps ls cs) ls ((List.range ls).map fun k => Value.float .f64 (Sp k)) v) := fun v h => src_fl (Hs.out.below (h.ab AV.out GOW.out)) _
      go_region_held3 (fun w' => Abx V0 go 6 25 w' ∧ w'.cell? ⟨gs, 3, none⟩ = some (.slice ps ls cs) ∧ w'.frozen? ⟨go, 3, none⟩ = false ∧ w'.cell? ⟨go, 3, none⟩ = some (rv w' go 3)) ((refine KS.out _ ?_; (with_reducible (repeat (first | assumption | apply Abx.drew | apply Abx.alloc | apply Abx.set))); done)) (first
        | (have r1 := R1.out; have q1 := HQ.out; refine step_app (by rfl) _ _ 22 (by rfl) 40 i0 Tryz.underlying22 IP.out.1 IP.out.2 _ ls (ls + 9) _ (by rfl) r1 _ 1 _ (by rfl) (src_oneF q1) (by omega) (ls + 1) rfl ?_; intro w5 r5 x5; have AX5 := Abx.far AX4 x5 (by omega) GX.out; have AB5 := hid (Abx.ab x5 AB4.out (by omega)); have R2 := hid r5; clear r5 x5; clear r1 q1)
        | (have r1 := R1.out; refine step_app (by rfl) _ _ 22 (by rfl) 40 i0 Tryz.underlying22 IP.out.1 IP.out.2 _ ls (ls + 9) _ (by rfl) (r1.alloc _) _ 1 _ (by rfl) (src_oneF (heap_alloc_new w4 _)) (by omega) (ls + 1) rfl ?_; intro w5 r5 x5; have AX5 := Abx.far (AX4.alloc _) x5 (by omega) GX.out; have AB5 := hid (Abx.ab x5 (AB4.out.alloc _) (by omega)); have R2 := hid r5; clear r5 x5; clear r1)
        | (refine step_app (by rfl) _ _ 22 (by rfl) 40 i0 Tryz.underlying22 IP.out.1 IP.out.2 (V0.heap.size + 1) 0 (ls + 9) (fun _ => .float .f64 0) (by rfl) (row_m3 V0 (.float .f64 0) (ls + 9) 40 (.cells #[.float .f64 4635118810238550016] 40)) (.slice ps ls cs) ls _ (by rfl) (SR.out _ ((AX0.drew.alloc (.cells #[.float .f64 4635118810238550016] 40)).alloc (.cells (madeCells #[.float .f64 0] (ls + 9)) 40))) (by omega) ls (by omega) ?_; intro w4 r4 x4; have AX4 := Abx.far ((AX0.drew.alloc (.cells #[.float .f64 4635118810238550016] 40)).alloc (.cells (madeCells #[.float .f64 0] (ls + 9)) 40)) x4 (by omega) GX.out; have AB4 := hid (Abx.ab x4 ((AB0.out.drew.alloc (.cells #[.float .f64 4635118810238550016] 40)).alloc (.cells (madeCells #[.float .f64 0] (ls + 9)) 40)) (by omega)); have R1 := hid r4; have HQ := hid (abx_other x4 (blk_m3 V0 _ (.cells #[.float .f64 4635118810238550016] 40)) (by omega)); clear r4 x4)
        | (refine step_app (by rfl) _ _ 22 (by rfl) 40 i0 Tryz.underlying22 IP.out.1 IP.out.2 V0.heap.size 0 (ls + 9) (fun _ => .float .f64 0) (by rfl) (row_m2 V0 (.float .f64 0) (ls + 9) 40 (.cells #[.float .f64 4635118810238550016] 40)) (.slice ps ls cs) ls _ (by rfl) (SR.out _ ((AX0.drew.alloc (.cells (madeCells #[.float .f64 0] (ls + 9)) 40)).alloc (.cells #[.float .f64 4635118810238550016] 40))) (by omega) ls (by omega) ?_; intro w4 r4 x4; have AX4 := Abx.far ((AX0.drew.alloc (.cells (madeCells #[.float .f64 0] (ls + 9)) 40)).alloc (.cells #[.float .f64 4635118810238550016] 40)) x4 (by omega) GX.out; have AB4 := hid (Abx.ab x4 ((AB0.out.drew.alloc (.cells (madeCells #[.float .f64 0] (ls + 9)) 40)).alloc (.cells #[.float .f64 4635118810238550016] 40)) (by omega)); have R1 := hid r4; have HQ := hid (abx_other x4 (blk_m2 V0 _ (.cells #[.float .f64 4635118810238550016] 40)) (by omega)); clear r4 x4)
        | (refine step_app (by rfl) _ _ 22 (by rfl) 40 i0 Tryz.underlying22 IP.out.1 IP.out.2 V0.heap.size 0 (ls + 9) (fun _ => .float .f64 0) (by rfl) (row_m1 V0 (.float .f64 0) (ls + 9) 40) (.slice ps ls cs) ls _ (by rfl) (SR.out _ (AX0.drew.alloc (.cells (madeCells #[.float .f64 0] (ls + 9)) 40))) (by omega) ls (by omega) ?_; intro w4 r4 x4; have AX4 := Abx.far (AX0.drew.alloc (.cells (madeCells #[.float .f64 0] (ls + 9)) 40)) x4 (by omega) GX.out; have AB4 := hid (Abx.ab x4 (AB0.out.drew.alloc (.cells (madeCells #[.float .f64 0] (ls + 9)) 40)) (by omega)); have R1 := hid r4; clear r4 x4))
      all_goals
        go_wp2_with fail
        go_meet
        exact ⟨_, by omega, AX5.set _ _, one_set (AB5.out.heap GO.out), (R2.out.setOther (Ne.symm (Nat.ne_of_lt (Nat.lt_of_lt_of_le GX.out (by omega)))) _).congr (fun j _ => mk_two _ _ _ _ _)⟩
    case rest =>
      rename World => V1
      obtain ⟨bs, h1, h2, h3, h4⟩ := hcut
      have LTs : Hid (V0.heap.size ≤ bs ∧ bs < V1.heap.size ∧ go < V0.heap.size) := ⟨h1, h4.lt, lt_of_block GO.out⟩
      have AV2 : Hid (Ab w V1) := h2.ab AV.out GOW.out
      have GS2 := hid (h2.heap GSO.out GS.out)
      have GR2 := hid (h2.heap GRO.out.1 GR.out)
      have Rs := hid h4
      have Qb := hid (rowIs_abx Rb.out h2 (by have := LTb.out; omega))
      clear AV GS GR GO Rb
      have Rb := Qb
      clear Qb
      have AV := AV2
      have GS := GS2
      have GR := GR2
      have GO := hid h3
      clear AV2 GS2 GR2 h1 h2 h3 h4
      go_upto_region 4 with fail
      go_cut [] from 35 to 49 (fun V2 => ∃ bw : Nat, V1.heap.size ≤ bw ∧ Abx V1 go 6 25 V2 ∧ V2.heap[go]? = some (.cells #[.slice (some ⟨bb, 0, none⟩) lb (lb + 9), .slice (some ⟨bw, 0, none⟩) lw (lw + 9), .slice pt lt ct, .slice (some ⟨bs, 0, none⟩) ls (ls + 9), .int .i64 sky, .int .i64 st] 25) ∧ V2.rowIs bw 2 (lw + 9) (mkF lw (fun k => .int .i64 (Wt k)) (.int .i64 77) (.int .i64 0)))
      case first =>
        obtain ⟨i0, hi0, hi1⟩ := info_i13
        have IP := hid (And.intro hi0 hi1)
        clear hi0 hi1
        have M1 : ∀ v : World, (Instr.makeSlice 23 (.int .i64 0) (.int .i64 (IntKind.i64.wrap ((lw : Int) + 9)))).run Tryz.prog v = .ok (.slice (some ⟨v.heap.size, 0, none⟩) 0 (lw + 9)) (v.alloc (.cells (madeCells #[.int .i64 0] (lw + 9)) 2)) := fun v => by rw [wrap9 _ HL.out.2.1]; exact make_i13 lw HL.out.2.1 v
        have WR : Hid (IntKind.i64.wrap ((lw : Int) + 9) = (lw : Int) + 9) := wrap9 _ HL.out.2.1
        have lb1 : (lw : Int) ≤ 65536 := by have := HL.out; omega
        have AX0 : Abx V1 go 6 25 V1 := (Ab.refl V1).x rfl GO.out
        have lb2 : ((lw : Nat) : Int) ≤ ((lw + 9 : Nat) : Int) := by omega
        have lb3 : (lw : Int) ≤ (lw : Int) + 9 := by omega
        have lb4 : (0 : Int) ≤ (lw : Int) := by omega
        have AB0 := hid (Ab.refl V1)
        have GX := hid (lt_of_block GO.out)
        have KS : Hid (∀ w', Abx V1 go 6 25 w' → Abx V1 go 6 25 w' ∧ w'.cell? ⟨gs, 1, none⟩ = some (.slice pw lw cw) ∧ w'.frozen? ⟨go, 1, none⟩ = false ∧ w'.cell? ⟨go, 1, none⟩ = some (rv w' go 1)) := fun w' h => ⟨h, cell_of_row _ _ 1 _ _ _ (h.heap GSO.out GS.out), h.free 1, h.some (by decide)⟩
        have SR : Hid (∀ v, Abx V1 go 6 25 v → Src Tryz.prog 1 23 (.slice pw lw cw) lw ((List.range lw).map fun k => Value.int .i64 (Wt k)) v) := fun v h => src_in (Hw.out.below (h.ab AV.out GOW.out)) _
        go_region_held3 (fun w' => Abx V1 go 6 25 w' ∧ w'.cell? ⟨gs, 1, none⟩ = some (.slice pw lw cw) ∧ w'.frozen? ⟨go, 1, none⟩ = false ∧ w'.cell? ⟨go, 1, none⟩ = some (rv w' go 1)) ((refine KS.out _ ?_; (with_reducible (repeat (first | assumption | apply Abx.drew | apply Abx.alloc | apply Abx.set))); done)) (first
          | (have r1 := R1.out; have q1 := HQ.out; refine step_app (by rfl) _ _ 23 (by rfl) 2 i0 Tryz.underlying23 IP.out.1 IP.out.2 _ lw (lw + 9) _ (by rfl) r1 _ 1 _ (by rfl) (src_oneI q1) (by omega) (lw + 1) rfl ?_; intro w5 r5 x5; have AX5 := Abx.far AX4 x5 (by omega) GX.out; have AB5 := hid (Abx.ab x5 AB4.out (by omega)); have R2 := hid r5; clear r5 x5; clear r1 q1)
          | (have r1 := R1.out; refine step_app (by rfl) _ _ 23 (by rfl) 2 i0 Tryz.underlying23 IP.out.1 IP.out.2 _ lw (lw + 9) _ (by rfl) (r1.alloc _) _ 1 _ (by rfl) (src_oneI (heap_alloc_new w4 _)) (by omega) (lw + 1) rfl ?_; intro w5 r5 x5; have AX5 := Abx.far (AX4.alloc _) x5 (by omega) GX.out; have AB5 := hid (Abx.ab x5 (AB4.out.alloc _) (by omega)); have R2 := hid r5; clear r5 x5; clear r1)
          | (refine step_app (by rfl) _ _ 23 (by rfl) 2 i0 Tryz.underlying23 IP.out.1 IP.out.2 (V1.heap.size + 1) 0 (lw + 9) (fun _ => .int .i64 0) (by rfl) (row_m3 V1 (.int .i64 0) (lw + 9) 2 (.cells #[.int .i64 77] 2)) (.slice pw lw cw) lw _ (by rfl) (SR.out _ ((AX0.drew.alloc (.cells #[.int .i64 77] 2)).alloc (.cells (madeCells #[.int .i64 0] (lw + 9)) 2))) (by omega) lw (by omega) ?_; intro w4 r4 x4; have AX4 := Abx.far ((AX0.drew.alloc (.cells #[.int .i64 77] 2)).alloc (.cells (madeCells #[.int .i64 0] (lw + 9)) 2)) x4 (by omega) GX.out; have AB4 := hid (Abx.ab x4 ((AB0.out.drew.alloc (.cells #[.int .i64 77] 2)).alloc (.cells (madeCells #[.int .i64 0] (lw + 9)) 2)) (by omega)); have R1 := hid r4; have HQ := hid (abx_other x4 (blk_m3 V1 _ (.cells #[.int .i64 77] 2)) (by omega)); clear r4 x4)
          | (refine step_app (by rfl) _ _ 23 (by rfl) 2 i0 Tryz.underlying23 IP.out.1 IP.out.2 V1.heap.size 0 (lw + 9) (fun _ => .int .i64 0) (by rfl) (row_m2 V1 (.int .i64 0) (lw + 9) 2 (.cells #[.int .i64 77] 2)) (.slice pw lw cw) lw _ (by rfl) (SR.out _ ((AX0.drew.alloc (.cells (madeCells #[.int .i64 0] (lw + 9)) 2)).alloc (.cells #[.int .i64 77] 2))) (by omega) lw (by omega) ?_; intro w4 r4 x4; have AX4 := Abx.far ((AX0.drew.alloc (.cells (madeCells #[.int .i64 0] (lw + 9)) 2)).alloc (.cells #[.int .i64 77] 2)) x4 (by omega) GX.out; have AB4 := hid (Abx.ab x4 ((AB0.out.drew.alloc (.cells (madeCells #[.int .i64 0] (lw + 9)) 2)).alloc (.cells #[.int .i64 77] 2)) (by omega)); have R1 := hid r4; have HQ := hid (abx_other x4 (blk_m2 V1 _ (.cells #[.int .i64 77] 2)) (by omega)); clear r4 x4)
          | (refine step_app (by rfl) _ _ 23 (by rfl) 2 i0 Tryz.underlying23 IP.out.1 IP.out.2 V1.heap.size 0 (lw + 9) (fun _ => .int .i64 0) (by rfl) (row_m1 V1 (.int .i64 0) (lw + 9) 2) (.slice pw lw cw) lw _ (by rfl) (SR.out _ (AX0.drew.alloc (.cells (madeCells #[.int .i64 0] (lw + 9)) 2))) (by omega) lw (by omega) ?_; intro w4 r4 x4; have AX4 := Abx.far (AX0.drew.alloc (.cells (madeCells #[.int .i64 0] (lw + 9)) 2)) x4 (by omega) GX.out; have AB4 := hid (Abx.ab x4 (AB0.out.drew.alloc (.cells (madeCells #[.int .i64 0] (lw + 9)) 2)) (by omega)); have R1 := hid r4; clear r4 x4))
        all_goals
          go_wp2_with fail
          go_meet
          exact ⟨_, by omega, AX5.set _ _, one_set (AB5.out.heap GO.out), (R2.out.setOther (Ne.symm (Nat.ne_of_lt (Nat.lt_of_lt_of_le GX.out (by omega)))) _).congr (fun j _ => mk_two _ _ _ _ _)⟩
      case rest =>
        rename World => V2
        obtain ⟨bw, h1, h2, h3, h4⟩ := hcut
        have LTw : Hid (V1.heap.size ≤ bw ∧ bw < V2.heap.size ∧ go < V1.heap.size) := ⟨h1, h4.lt, lt_of_block GO.out⟩
        have AV2 : Hid (Ab w V2) := h2.ab AV.out GOW.out
        have GS2 := hid (h2.heap GSO.out GS.out)
        have GR2 := hid (h2.heap GRO.out.1 GR.out)
        have Rw := hid h4
        have Qb := hid (rowIs_abx Rb.out h2 (by have := LTb.out; omega))
        have Qs := hid (rowIs_abx Rs.out h2 (by have := LTs.out; omega))
        clear AV GS GR GO Rb Rs
        have Rb := Qb
        clear Qb
        have Rs := Qs
        clear Qs
        have AV := AV2
        have GS := GS2
        have GR := GR2
        have GO := hid h3
        clear AV2 GS2 GR2 h1 h2 h3 h4
        go_upto_region 5 with fail
        go_cut [] from 50 to 64 (fun V3 => ∃ bt : Nat, V2.heap.size ≤ bt ∧ Abx V2 go 6 25 V3 ∧ V3.heap[go]? = some (.cells #[.slice (some ⟨bb, 0, none⟩) lb (lb + 9), .slice (some ⟨bw, 0, none⟩) lw (lw + 9), .slice (some ⟨bt, 0, none⟩) lt (lt + 9), .slice (some ⟨bs, 0, none⟩) ls (ls + 9), .int .i64 sky, .int .i64 st] 25) ∧ V3.rowIs bt 2 (lt + 9) (mkF lt (fun k => .int .i64 (Tr k)) (.int .i64 77) (.int .i64 0)))
        case first =>
          obtain ⟨i0, hi0, hi1⟩ := info_i13
          have IP := hid (And.intro hi0 hi1)
          clear hi0 hi1
          have M1 : ∀ v : World, (Instr.makeSlice 23 (.int .i64 0) (.int .i64 (IntKind.i64.wrap ((lt : Int) + 9)))).run Tryz.prog v = .ok (.slice (some ⟨v.heap.size, 0, none⟩) 0 (lt + 9)) (v.alloc (.cells (madeCells #[.int .i64 0] (lt + 9)) 2)) := fun v => by rw [wrap9 _ HL.out.2.2.1]; exact make_i13 lt HL.out.2.2.1 v
          have WR : Hid (IntKind.i64.wrap ((lt : Int) + 9) = (lt : Int) + 9) := wrap9 _ HL.out.2.2.1
          have lb1 : (lt : Int) ≤ 65536 := by have := HL.out; omega
          have AX0 : Abx V2 go 6 25 V2 := (Ab.refl V2).x rfl GO.out
          have lb2 : ((lt : Nat) : Int) ≤ ((lt + 9 : Nat) : Int) := by omega
          have lb3 : (lt : Int) ≤ (lt : Int) + 9 := by omega
          have lb4 : (0 : Int) ≤ (lt : Int) := by omega
          have AB0 := hid (Ab.refl V2)
          have GX := hid (lt_of_block GO.out)
          have KS : Hid (∀ w', Abx V2 go 6 25 w' → Abx V2 go 6 25 w' ∧ w'.cell? ⟨gs, 2, none⟩ = some (.slice pt lt ct) ∧ w'.frozen? ⟨go, 2, none⟩ = false ∧ w'.cell? ⟨go, 2, none⟩ = some (rv w' go 2)) := fun w' h => ⟨h, cell_of_row _ _ 2 _ _ _ (h.heap GSO.out GS.out), h.free 2, h.some (by decide)⟩
          have SR : Hid (∀ v, Abx V2 go 6 25 v → Src Tryz.prog 1 23 (.slice pt lt ct) lt ((List.range lt).map fun k => Value.int .i64 (Tr k)) v) := fun v h => src_in (Ht.out.below (h.ab AV.out GOW.out)) _
          go_region_held3 (fun w' => Abx V2 go 6 25 w' ∧ w'.cell? ⟨gs, 2, none⟩ = some (.slice pt lt ct) ∧ w'.frozen? ⟨go, 2, none⟩ = false ∧ w'.cell? ⟨go, 2, none⟩ = some (rv w' go 2)) ((refine KS.out _ ?_; (with_reducible (repeat (first | assumption | apply Abx.drew | apply Abx.alloc | apply Abx.set))); done)) (first
            | (have r1 := R1.out; have q1 := HQ.out; refine step_app (by rfl) _ _ 23 (by rfl) 2 i0 Tryz.underlying23 IP.out.1 IP.out.2 _ lt (lt + 9) _ (by rfl) r1 _ 1 _ (by rfl) (src_oneI q1) (by omega) (lt + 1) rfl ?_; intro w5 r5 x5; have AX5 := Abx.far AX4 x5 (by omega) GX.out; have AB5 := hid (Abx.ab x5 AB4.out (by omega)); have R2 := hid r5; clear r5 x5; clear r1 q1)
            | (have r1 := R1.out; refine step_app (by rfl) _ _ 23 (by rfl) 2 i0 Tryz.underlying23 IP.out.1 IP.out.2 _ lt (lt + 9) _ (by rfl) (r1.alloc _) _ 1 _ (by rfl) (src_oneI (heap_alloc_new w4 _)) (by omega) (lt + 1) rfl ?_; intro w5 r5 x5; have AX5 := Abx.far (AX4.alloc _) x5 (by omega) GX.out; have AB5 := hid (Abx.ab x5 (AB4.out.alloc _) (by omega)); have R2 := hid r5; clear r5 x5; clear r1)
            | (refine step_app (by rfl) _ _ 23 (by rfl) 2 i0 Tryz.underlying23 IP.out.1 IP.out.2 (V2.heap.size + 1) 0 (lt + 9) (fun _ => .int .i64 0) (by rfl) (row_m3 V2 (.int .i64 0) (lt + 9) 2 (.cells #[.int .i64 77] 2)) (.slice pt lt ct) lt _ (by rfl) (SR.out _ ((AX0.drew.alloc (.cells #[.int .i64 77] 2)).alloc (.cells (madeCells #[.int .i64 0] (lt + 9)) 2))) (by omega) lt (by omega) ?_; intro w4 r4 x4; have AX4 := Abx.far ((AX0.drew.alloc (.cells #[.int .i64 77] 2)).alloc (.cells (madeCells #[.int .i64 0] (lt + 9)) 2)) x4 (by omega) GX.out; have AB4 := hid (Abx.ab x4 ((AB0.out.drew.alloc (.cells #[.int .i64 77] 2)).alloc (.cells (madeCells #[.int .i64 0] (lt + 9)) 2)) (by omega)); have R1 := hid r4; have HQ := hid (abx_other x4 (blk_m3 V2 _ (.cells #[.int .i64 77] 2)) (by omega)); clear r4 x4)
            | (refine step_app (by rfl) _ _ 23 (by rfl) 2 i0 Tryz.underlying23 IP.out.1 IP.out.2 V2.heap.size 0 (lt + 9) (fun _ => .int .i64 0) (by rfl) (row_m2 V2 (.int .i64 0) (lt + 9) 2 (.cells #[.int .i64 77] 2)) (.slice pt lt ct) lt _ (by rfl) (SR.out _ ((AX0.drew.alloc (.cells (madeCells #[.int .i64 0] (lt + 9)) 2)).alloc (.cells #[.int .i64 77] 2))) (by omega) lt (by omega) ?_; intro w4 r4 x4; have AX4 := Abx.far ((AX0.drew.alloc (.cells (madeCells #[.int .i64 0] (lt + 9)) 2)).alloc (.cells #[.int .i64 77] 2)) x4 (by omega) GX.out; have AB4 := hid (Abx.ab x4 ((AB0.out.drew.alloc (.cells (madeCells #[.int .i64 0] (lt + 9)) 2)).alloc (.cells #[.int .i64 77] 2)) (by omega)); have R1 := hid r4; have HQ := hid (abx_other x4 (blk_m2 V2 _ (.cells #[.int .i64 77] 2)) (by omega)); clear r4 x4)
            | (refine step_app (by rfl) _ _ 23 (by rfl) 2 i0 Tryz.underlying23 IP.out.1 IP.out.2 V2.heap.size 0 (lt + 9) (fun _ => .int .i64 0) (by rfl) (row_m1 V2 (.int .i64 0) (lt + 9) 2) (.slice pt lt ct) lt _ (by rfl) (SR.out _ (AX0.drew.alloc (.cells (madeCells #[.int .i64 0] (lt + 9)) 2))) (by omega) lt (by omega) ?_; intro w4 r4 x4; have AX4 := Abx.far (AX0.drew.alloc (.cells (madeCells #[.int .i64 0] (lt + 9)) 2)) x4 (by omega) GX.out; have AB4 := hid (Abx.ab x4 (AB0.out.drew.alloc (.cells (madeCells #[.int .i64 0] (lt + 9)) 2)) (by omega)); have R1 := hid r4; clear r4 x4))
          all_goals
            go_wp2_with fail
            go_meet
            exact ⟨_, by omega, AX5.set _ _, one_set (AB5.out.heap GO.out), (R2.out.setOther (Ne.symm (Nat.ne_of_lt (Nat.lt_of_lt_of_le GX.out (by omega)))) _).congr (fun j _ => mk_two _ _ _ _ _)⟩
        case rest =>
          rename World => V3
          obtain ⟨bt, h1, h2, h3, h4⟩ := hcut
          have LTt : Hid (V2.heap.size ≤ bt ∧ bt < V3.heap.size ∧ go < V2.heap.size) := ⟨h1, h4.lt, lt_of_block GO.out⟩
          have AV2 : Hid (Ab w V3) := h2.ab AV.out GOW.out
          have GS2 := hid (h2.heap GSO.out GS.out)
          have GR2 := hid (h2.heap GRO.out.1 GR.out)
          have Rt := hid h4
          have Qb := hid (rowIs_abx Rb.out h2 (by have := LTb.out; omega))
          have Qs := hid (rowIs_abx Rs.out h2 (by have := LTs.out; omega))
          have Qw := hid (rowIs_abx Rw.out h2 (by have := LTw.out; omega))
          clear AV GS GR GO Rb Rs Rw
          have Rb := Qb
          clear Qb
          have Rs := Qs
          clear Qs
          have Rw := Qw
          clear Qw
          have AV := AV2
          have GS := GS2
          have GR := GR2
          have GO := hid h3
          clear AV2 GS2 GR2 h1 h2 h3 h4
          have o0 := cell_of_row _ _ 0 _ _ _ GO.out
          have r0 := cell_of_row _ _ 0 _ _ _ GR.out
          have f0 := free_row GR.out 0
          have o1 := cell_of_row _ _ 1 _ _ _ GO.out
          have r1 := cell_of_row _ _ 1 _ _ _ GR.out
          have f1 := free_row GR.out 1
          have o2 := cell_of_row _ _ 2 _ _ _ GO.out
          have r2 := cell_of_row _ _ 2 _ _ _ GR.out
          have f2 := free_row GR.out 2
          have o3 := cell_of_row _ _ 3 _ _ _ GO.out
          have r3 := cell_of_row _ _ 3 _ _ _ GR.out
          have f3 := free_row GR.out 3
          have o4 := cell_of_row _ _ 4 _ _ _ GO.out
          have r4 := cell_of_row _ _ 4 _ _ _ GR.out
          have f4 := free_row GR.out 4
          have o5 := cell_of_row _ _ 5 _ _ _ GO.out
          have r5 := cell_of_row _ _ 5 _ _ _ GR.out
          have f5 := free_row GR.out 5
          have ROW := hid (row6 (x := .slice (some ⟨bb, 0, none⟩) lb (lb + 9)) (y := .slice (some ⟨bw, 0, none⟩) lw (lw + 9)) (z := .slice (some ⟨bt, 0, none⟩) lt (lt + 9)) (p := .slice (some ⟨bs, 0, none⟩) ls (ls + 9)) (q := .int .i64 sky) (r := .int .i64 st) GR.out)
          go_wp2
          have LL : Hid (w.heap.size ≤ bb ∧ gr < bb ∧ bb < bs ∧ bs < bw ∧ bw < bt) := by
            have h1 := LTb.out
            have h2 := LTs.out
            have h3 := LTw.out
            have h4 := LTt.out
            have h5 := GRW.out
            exact ⟨by omega, by omega, by omega, by omega, by omega⟩
          have NB : Hid (bb ≠ gr ∧ bw ≠ gr ∧ bt ≠ gr ∧ bs ≠ gr) := by
            have := LL.out
            exact ⟨by omega, by omega, by omega, by omega⟩
          refine bodyPost_ret ?_ rfl ⟨bb, bw, bt, bs, rfl, ?_, ?_, ?_, ?_, ?_, ?_⟩
          · exact results_cell_row Tryz.results21 _ _ gr _ _ (0, 0) _ rfl ROW.out Tryz.underlying25 rfl (by kernel_rfl)
          · exact (((((AV.out.setk GRW.out.1 _).setk GRW.out.1 _).setk GRW.out.1 _).setk GRW.out.1 _).setk GRW.out.1 _).setk GRW.out.1 _
          · exact (((((Rb.out.setOther NB.out.1 _).setOther NB.out.1 _).setOther NB.out.1 _).setOther NB.out.1 _).setOther NB.out.1 _).setOther NB.out.1 _
          · exact (((((Rw.out.setOther NB.out.2.1 _).setOther NB.out.2.1 _).setOther NB.out.2.1 _).setOther NB.out.2.1 _).setOther NB.out.2.1 _).setOther NB.out.2.1 _
          · exact (((((Rt.out.setOther NB.out.2.2.1 _).setOther NB.out.2.2.1 _).setOther NB.out.2.2.1 _).setOther NB.out.2.2.1 _).setOther NB.out.2.2.1 _).setOther NB.out.2.2.1 _
          · exact (((((Rs.out.setOther NB.out.2.2.2 _).setOther NB.out.2.2.2 _).setOther NB.out.2.2.2 _).setOther NB.out.2.2.2 _).setOther NB.out.2.2.2 _).setOther NB.out.2.2.2 _
          · have := LL.out
            exact ⟨by omega, by omega, by omega, by omega, by omega, by omega, by omega, by omega, by omega, by omega⟩
end Go.Proofs.YtkckcohemalhiaaGreatDoor

namespace Go.Proofs.YtkckcohemalhiaaGreatDoor
open Go.RowKit Tf Cu Go.Deep
attribute [local go_sem] run_bits run_from raw_feq raw_fne raw_flt raw_fgt run_neg run_store_float
set_option maxRecDepth 100000 in
set_option maxHeartbeats 4000000 in
theorem all12_at (pa pb : Option Addr) (len ca cb : Nat) (xs : Nat → Nat) (w : World) (hl : len ≤ 281474976710656) (hA : IsFl w pa len xs) (hB : IsFl w pb len xs) :
    Calls Tryz.prog 24 #[.slice pa len ca, .slice pb len cb] w fun e w' => e = .returned (.bool true) ∧ Below w.heap.size w w' := by
  have SS : Hid (∀ (x : Nat) (v : World), Calls Tryz.prog 60 #[.float .f64 x, .float .f64 x] v fun e w' => e = .returned (.bool true) ∧ Below v.heap.size v w') := fun x v => by
    have h := rawSame_any x x v
    rw [show sameB x x = true by unfold sameB; exact decide_eq_true rfl] at h
    exact h.mono fun _ _ ⟨he, hw⟩ => ⟨he, by rw [hw]; exact Below.refl _ _⟩
  have HA := hid hA
  have HB := hid hB
  have HL := hid hl
  clear hA hB hl
  go_enter Tryz.func24, Tryz.ntmps24
  go_wp2
  go_loopw [5] (fun iv wr => ∃ c : Nat, c ≤ len ∧ iv = .int .i64 (c : Nat) ∧ Ab w wr) (fun iv _ => len - (intOf iv).toNat)
  case atStart => exact ⟨0, by omega, rfl, Ab.refl w⟩
  case round =>
    obtain ⟨c, hc, rfl, ar⟩ := hrel
    have AR := hid ar
    clear ar
    by_cases h : c < len
    · have HC := hid h
      obtain ⟨x, hx⟩ : ∃ x, xs c = x := ⟨_, rfl⟩
      obtain ⟨-, b1, o1, e1, l1, c1⟩ := HA.out c h
      obtain ⟨-, b2, o2, e2, l2, c2⟩ := HB.out c h
      rw [hx] at c1 c2
      have C1 := hid c1
      have C2 := hid c2
      have L1 := hid l1
      have L2 := hid l2
      have hcI : (c : Int) < len := by omega
      have hcB : (c : Int) ≤ 281474976710656 := by have := HL.out; omega
      clear c1 c2 l1 l2 hx h
      subst e1 e2
      go_upto_region 6 with fail
      obtain ⟨UU, E, hF1, hF2⟩ := cls wr
      have HU := hid hF2
      have HU1 := hid hF1
      have x1 : ∀ u, (E u).cell? ⟨b1, o1 + c, none⟩ = some (.float .f64 x) := fun u => (Below.cell (AR.out.trans (hF1 u)) L1.out).trans C1.out
      have x2 : ∀ u, (E u).cell? ⟨b2, o2 + c, none⟩ = some (.float .f64 x) := fun u => (Below.cell (AR.out.trans (hF1 u)) L2.out).trans C2.out
      have DD0 := HU.out _ (Ab.refl wr).drew
      clear hF1 hF2
      refine region_cls E (by kernel_rfl) (by kernel_rfl) DD0 ?_
      repeat (go_big_quiet_step (first
        | (with_reducible rfl)
        | (go_at_call 60; exact calls_cls HU HU1 (SS.out _ _))))
      refine wpQuiet_nil ?_
      intro z hwz
      obtain ⟨u0, hu⟩ := hwz
      have AZ : Hid (Ab w z) := by rw [hu]; exact AR.out.trans (HU1.out u0)
      clear hu u0
      clear HU HU1 DD0 x1 x2
      clear E UU
      go_wp2
      go_roundw
      case rel => exact ⟨c + 1, by have := HC.out; omega, by simp, AZ.out⟩
      case measure => simp [intOf]; have := HC.out; omega
    · have e : len = c := by omega
      subst e
      go_wp2
      go_ret
      exact ⟨rfl, AR.out⟩
end Go.Proofs.YtkckcohemalhiaaGreatDoor

namespace Go.Proofs.YtkckcohemalhiaaGreatDoor
open Go.RowKit Tf Cu Go.Deep
attribute [local go_sem] run_bits run_from raw_feq raw_fne raw_flt raw_fgt run_neg run_store_float
section
variable {n : Nat} {lim : Int} {B : Nat → Nat} {Wt : Nat → Int} {Sp : Nat → Nat} {dt : Nat} {pb pw ps : Option Addr} {w : World}
end
theorem mk_fl {w : World} {b L : Nat} {B : Nat → Nat} {m z : Value} (h : w.rowIs b 40 (L + 9) (mkF L (fun k => .float .f64 (B k)) m z)) (hB : ∀ k, k < L → B k < 18446744073709551616) : IsFl w (some ⟨b, 0, none⟩) L B := fun k hk => ⟨hB k hk, b, 0, rfl, h.lt, by
  rw [Nat.zero_add, h.cell (show k < L + 9 by omega)]
  unfold mkF
  rw [if_pos hk]⟩
theorem mk_in {w : World} {b L : Nat} {B : Nat → Int} {m z : Value} (h : w.rowIs b 2 (L + 9) (mkF L (fun k => .int .i64 (B k)) m z)) (hB : ∀ k, k < L → -9223372036854775808 ≤ B k ∧ B k ≤ 9223372036854775807) : IsIn w (some ⟨b, 0, none⟩) L B := fun k hk => ⟨hB k hk, b, 0, rfl, h.lt, by
  rw [Nat.zero_add, h.cell (show k < L + 9 by omega)]
  unfold mkF
  rw [if_pos hk]⟩
end Go.Proofs.YtkckcohemalhiaaGreatDoor

namespace Go.Proofs.YtkckcohemalhiaaGreatDoor
open Go.RowKit Tf Cu
attribute [local go_sem] run_bits run_from raw_feq raw_fne raw_flt raw_fgt run_neg run_store_float
set_option maxRecDepth 100000 in
set_option maxHeartbeats 16000000 in
theorem still19_go (bb bw bt bs : Nat) (pb pw pt ps : Option Addr) (lb cb lw cw lt ct ls cs : Nat) {B : Nat → Nat} {Wt Tr : Nat → Int} {Sp : Nat → Nat} (sky st : Int) (w : World)
    (Rb : Hid (w.rowIs bb 40 (lb + 9) (mkF lb (fun k => .float .f64 (B k)) (.float .f64 4635118810238550016) (.float .f64 0))))
    (Rw : Hid (w.rowIs bw 2 (lw + 9) (mkF lw (fun k => .int .i64 (Wt k)) (.int .i64 77) (.int .i64 0))))
    (Rt : Hid (w.rowIs bt 2 (lt + 9) (mkF lt (fun k => .int .i64 (Tr k)) (.int .i64 77) (.int .i64 0))))
    (Rs : Hid (w.rowIs bs 40 (ls + 9) (mkF ls (fun k => .float .f64 (Sp k)) (.float .f64 4635118810238550016) (.float .f64 0))))
    (hl : lb ≤ 65536 ∧ lw ≤ 65536 ∧ lt ≤ 65536 ∧ ls ≤ 65536)
    (CB : Hid (∀ v, Ab w v → Calls Tryz.prog 24 #[.slice (some ⟨bb, 0, none⟩) lb (lb + 9), .slice pb lb cb] v fun e w' => e = .returned (.bool true) ∧ Below v.heap.size v w'))
    (CS : Hid (∀ v, Ab w v → Calls Tryz.prog 24 #[.slice (some ⟨bs, 0, none⟩) ls (ls + 9), .slice ps ls cs] v fun e w' => e = .returned (.bool true) ∧ Below v.heap.size v w'))
    (CW : Hid (∀ v, Ab w v → Calls Tryz.prog 19 #[.slice (some ⟨bw, 0, none⟩) lw (lw + 9), .slice pw lw cw] v fun e w' => e = .returned (.bool true) ∧ Below v.heap.size v w'))
    (CT : Hid (∀ v, Ab w v → Calls Tryz.prog 19 #[.slice (some ⟨bt, 0, none⟩) lt (lt + 9), .slice pt lt ct] v fun e w' => e = .returned (.bool true) ∧ Below v.heap.size v w')) :
    Calls Tryz.prog 22 #[.agg #[.slice (some ⟨bb, 0, none⟩) lb (lb + 9), .slice (some ⟨bw, 0, none⟩) lw (lw + 9), .slice (some ⟨bt, 0, none⟩) lt (lt + 9), .slice (some ⟨bs, 0, none⟩) ls (ls + 9), .int .i64 sky, .int .i64 st], .agg #[.slice pb lb cb, .slice pw lw cw, .slice pt lt ct, .slice ps ls cs, .int .i64 sky, .int .i64 st]] w fun e w' => e = .returned (.bool true) ∧ Below w.heap.size w w' := by
  have A0 : Hid (Ab w ((w.alloc (.cells #[.slice (some ⟨bb, 0, none⟩) lb (lb + 9), .slice (some ⟨bw, 0, none⟩) lw (lw + 9), .slice (some ⟨bt, 0, none⟩) lt (lt + 9), .slice (some ⟨bs, 0, none⟩) ls (ls + 9), .int .i64 sky, .int .i64 st] 25)).alloc (.cells #[.slice pb lb cb, .slice pw lw cw, .slice pt lt ct, .slice ps ls cs, .int .i64 sky, .int .i64 st] 25))) := bl2 _ _ _
  have RO : Hid (((w.alloc (.cells #[.slice (some ⟨bb, 0, none⟩) lb (lb + 9), .slice (some ⟨bw, 0, none⟩) lw (lw + 9), .slice (some ⟨bt, 0, none⟩) lt (lt + 9), .slice (some ⟨bs, 0, none⟩) ls (ls + 9), .int .i64 sky, .int .i64 st] 25)).alloc (.cells #[.slice pb lb cb, .slice pw lw cw, .slice pt lt ct, .slice ps ls cs, .int .i64 sky, .int .i64 st] 25)).heap[w.heap.size]? = some (.cells #[.slice (some ⟨bb, 0, none⟩) lb (lb + 9), .slice (some ⟨bw, 0, none⟩) lw (lw + 9), .slice (some ⟨bt, 0, none⟩) lt (lt + 9), .slice (some ⟨bs, 0, none⟩) ls (ls + 9), .int .i64 sky, .int .i64 st] 25)) := heap_alloc2_old _ _ _
  have RD : Hid (((w.alloc (.cells #[.slice (some ⟨bb, 0, none⟩) lb (lb + 9), .slice (some ⟨bw, 0, none⟩) lw (lw + 9), .slice (some ⟨bt, 0, none⟩) lt (lt + 9), .slice (some ⟨bs, 0, none⟩) ls (ls + 9), .int .i64 sky, .int .i64 st] 25)).alloc (.cells #[.slice pb lb cb, .slice pw lw cw, .slice pt lt ct, .slice ps ls cs, .int .i64 sky, .int .i64 st] 25)).heap[w.heap.size + 1]? = some (.cells #[.slice pb lb cb, .slice pw lw cw, .slice pt lt ct, .slice ps ls cs, .int .i64 sky, .int .i64 st] 25)) := heap_alloc2_new _ _ _
  have HL := hid hl
  clear hl
  go_enter Tryz.func22, Tryz.ntmps22
  go_upto_region 1 with fail
  generalize hW : World.alloc (World.alloc w _) _ = W at *
  obtain ⟨ga, hga⟩ : ∃ g, w.heap.size = g := ⟨_, rfl⟩
  obtain ⟨gs, hgs⟩ : ∃ g, w.heap.size + 1 = g := ⟨_, rfl⟩
  rw [hga] at RO
  rw [hgs] at RD
  rw [hgs, hga]
  clear hgs hga hW
  have fe : feq 4635118810238550016 4635118810238550016 = true := by decide
  have lb1 : IntKind.i64.wrap ((lb : Int) + 1) = (lb : Int) + 1 := by rw [IntKind.wrap_i64]; have := HL.out; omega
  have lb2 : (lb : Int) + 1 ≤ (lb : Int) + 9 := by omega
  have lb3 : (lb : Int) < (lb : Int) + 1 := by omega
  have lb4 : (0 : Int) ≤ (lb : Int) + 1 := by omega
  have lb5 : ((lb : Int) + 1).toNat = lb + 1 := by omega
  have lb6 : (lb : Int) ≤ 65536 := by have := HL.out; omega
  have lw1 : IntKind.i64.wrap ((lw : Int) + 1) = (lw : Int) + 1 := by rw [IntKind.wrap_i64]; have := HL.out; omega
  have lw2 : (lw : Int) + 1 ≤ (lw : Int) + 9 := by omega
  have lw3 : (lw : Int) < (lw : Int) + 1 := by omega
  have lw4 : (0 : Int) ≤ (lw : Int) + 1 := by omega
  have lw5 : ((lw : Int) + 1).toNat = lw + 1 := by omega
  have lw6 : (lw : Int) ≤ 65536 := by have := HL.out; omega
  have lt1 : IntKind.i64.wrap ((lt : Int) + 1) = (lt : Int) + 1 := by rw [IntKind.wrap_i64]; have := HL.out; omega
  have lt2 : (lt : Int) + 1 ≤ (lt : Int) + 9 := by omega
  have lt3 : (lt : Int) < (lt : Int) + 1 := by omega
  have lt4 : (0 : Int) ≤ (lt : Int) + 1 := by omega
  have lt5 : ((lt : Int) + 1).toNat = lt + 1 := by omega
  have lt6 : (lt : Int) ≤ 65536 := by have := HL.out; omega
  have ls1 : IntKind.i64.wrap ((ls : Int) + 1) = (ls : Int) + 1 := by rw [IntKind.wrap_i64]; have := HL.out; omega
  have ls2 : (ls : Int) + 1 ≤ (ls : Int) + 9 := by omega
  have ls3 : (ls : Int) < (ls : Int) + 1 := by omega
  have ls4 : (0 : Int) ≤ (ls : Int) + 1 := by omega
  have ls5 : ((ls : Int) + 1).toNat = ls + 1 := by omega
  have ls6 : (ls : Int) ≤ 65536 := by have := HL.out; omega
  obtain ⟨UU, E, hF1, hF2⟩ := cls W
  have HU := hid hF2
  have HU1 := hid hF1
  have HX : Hid (∀ u, Ab W (E u)) := fun u => Ab.trans (Ab.refl W) (hF1 u)
  have a0 : ∀ u, (E u).cell? ⟨ga, 0, none⟩ = some (.slice (some ⟨bb, 0, none⟩) lb (lb + 9)) := fun u => cell_of_row _ _ 0 _ _ _ ((hF1 u).heap RO.out)
  have a1 : ∀ u, (E u).cell? ⟨ga, 1, none⟩ = some (.slice (some ⟨bw, 0, none⟩) lw (lw + 9)) := fun u => cell_of_row _ _ 1 _ _ _ ((hF1 u).heap RO.out)
  have a2 : ∀ u, (E u).cell? ⟨ga, 2, none⟩ = some (.slice (some ⟨bt, 0, none⟩) lt (lt + 9)) := fun u => cell_of_row _ _ 2 _ _ _ ((hF1 u).heap RO.out)
  have a3 : ∀ u, (E u).cell? ⟨ga, 3, none⟩ = some (.slice (some ⟨bs, 0, none⟩) ls (ls + 9)) := fun u => cell_of_row _ _ 3 _ _ _ ((hF1 u).heap RO.out)
  have a4 : ∀ u, (E u).cell? ⟨ga, 4, none⟩ = some (.int .i64 sky) := fun u => cell_of_row _ _ 4 _ _ _ ((hF1 u).heap RO.out)
  have a5 : ∀ u, (E u).cell? ⟨ga, 5, none⟩ = some (.int .i64 st) := fun u => cell_of_row _ _ 5 _ _ _ ((hF1 u).heap RO.out)
  have s0 : ∀ u, (E u).cell? ⟨gs, 0, none⟩ = some (.slice pb lb cb) := fun u => cell_of_row _ _ 0 _ _ _ ((hF1 u).heap RD.out)
  have s1 : ∀ u, (E u).cell? ⟨gs, 1, none⟩ = some (.slice pw lw cw) := fun u => cell_of_row _ _ 1 _ _ _ ((hF1 u).heap RD.out)
  have s2 : ∀ u, (E u).cell? ⟨gs, 2, none⟩ = some (.slice pt lt ct) := fun u => cell_of_row _ _ 2 _ _ _ ((hF1 u).heap RD.out)
  have s3 : ∀ u, (E u).cell? ⟨gs, 3, none⟩ = some (.slice ps ls cs) := fun u => cell_of_row _ _ 3 _ _ _ ((hF1 u).heap RD.out)
  have s4 : ∀ u, (E u).cell? ⟨gs, 4, none⟩ = some (.int .i64 sky) := fun u => cell_of_row _ _ 4 _ _ _ ((hF1 u).heap RD.out)
  have s5 : ∀ u, (E u).cell? ⟨gs, 5, none⟩ = some (.int .i64 st) := fun u => cell_of_row _ _ 5 _ _ _ ((hF1 u).heap RD.out)
  have mb : ∀ u, (E u).cell? ⟨bb, lb, none⟩ = some (.float .f64 4635118810238550016) := fun u => ((rowIs.ab Rb.out (A0.out.trans (hF1 u))).cell (show lb < lb + 9 by omega)).trans (by unfold mkF; simp)
  have mw : ∀ u, (E u).cell? ⟨bw, lw, none⟩ = some (.int .i64 77) := fun u => ((rowIs.ab Rw.out (A0.out.trans (hF1 u))).cell (show lw < lw + 9 by omega)).trans (by unfold mkF; simp)
  have mt : ∀ u, (E u).cell? ⟨bt, lt, none⟩ = some (.int .i64 77) := fun u => ((rowIs.ab Rt.out (A0.out.trans (hF1 u))).cell (show lt < lt + 9 by omega)).trans (by unfold mkF; simp)
  have ms : ∀ u, (E u).cell? ⟨bs, ls, none⟩ = some (.float .f64 4635118810238550016) := fun u => ((rowIs.ab Rs.out (A0.out.trans (hF1 u))).cell (show ls < ls + 9 by omega)).trans (by unfold mkF; simp)
  have DD0 := HU.out _ (Ab.refl W).drew
  clear hF1 hF2
  refine region_cls E (by kernel_rfl) (by kernel_rfl) DD0 ?_
  repeat (go_big_quiet_step (first
    | (with_reducible rfl)
  ))
  refine wpQuiet_nil ?_
  intro z hwz
  obtain ⟨u0, hu⟩ := hwz
  have AZ : Hid (Ab W z) := by rw [hu]; exact HX.out u0
  clear hu u0
  clear HU HU1 HX DD0 a0 a1 a2 a3 a4 a5 s0 s1 s2 s3 s4 s5 mb mw mt ms
  clear E UU
  clear lb1 lb2 lb3 lb4 lb5 lb6 lw1 lw2 lw3 lw4 lw5 lw6 lt1 lt2 lt3 lt4 lt5 lt6 ls1 ls2 ls3 ls4 ls5 ls6 fe
  have a0 := cell_of_row _ _ 0 _ _ _ (AZ.out.heap RO.out)
  have s0 := cell_of_row _ _ 0 _ _ _ (AZ.out.heap RD.out)
  have a1 := cell_of_row _ _ 1 _ _ _ (AZ.out.heap RO.out)
  have s1 := cell_of_row _ _ 1 _ _ _ (AZ.out.heap RD.out)
  have a2 := cell_of_row _ _ 2 _ _ _ (AZ.out.heap RO.out)
  have s2 := cell_of_row _ _ 2 _ _ _ (AZ.out.heap RD.out)
  have a3 := cell_of_row _ _ 3 _ _ _ (AZ.out.heap RO.out)
  have s3 := cell_of_row _ _ 3 _ _ _ (AZ.out.heap RD.out)
  have a4 := cell_of_row _ _ 4 _ _ _ (AZ.out.heap RO.out)
  have s4 := cell_of_row _ _ 4 _ _ _ (AZ.out.heap RD.out)
  have a5 := cell_of_row _ _ 5 _ _ _ (AZ.out.heap RO.out)
  have s5 := cell_of_row _ _ 5 _ _ _ (AZ.out.heap RD.out)
  go_wp2_with fail
  refine (CB.out z (A0.out.trans AZ.out)).mono ?_
  rintro e9 y0 ⟨rfl, b0⟩
  have AZ0 : Hid (Ab W y0) := AZ.out.trans b0
  clear b0 a0 s0 a1 s1 a2 s2 a3 s3 a4 s4 a5 s5
  have a0 := cell_of_row _ _ 0 _ _ _ (AZ0.out.heap RO.out)
  have s0 := cell_of_row _ _ 0 _ _ _ (AZ0.out.heap RD.out)
  have a1 := cell_of_row _ _ 1 _ _ _ (AZ0.out.heap RO.out)
  have s1 := cell_of_row _ _ 1 _ _ _ (AZ0.out.heap RD.out)
  have a2 := cell_of_row _ _ 2 _ _ _ (AZ0.out.heap RO.out)
  have s2 := cell_of_row _ _ 2 _ _ _ (AZ0.out.heap RD.out)
  have a3 := cell_of_row _ _ 3 _ _ _ (AZ0.out.heap RO.out)
  have s3 := cell_of_row _ _ 3 _ _ _ (AZ0.out.heap RD.out)
  have a4 := cell_of_row _ _ 4 _ _ _ (AZ0.out.heap RO.out)
  have s4 := cell_of_row _ _ 4 _ _ _ (AZ0.out.heap RD.out)
  have a5 := cell_of_row _ _ 5 _ _ _ (AZ0.out.heap RO.out)
  have s5 := cell_of_row _ _ 5 _ _ _ (AZ0.out.heap RD.out)
  go_wp2_with fail
  refine (CS.out y0 (A0.out.trans AZ0.out)).mono ?_
  rintro e9 y1 ⟨rfl, b1⟩
  have AZ1 : Hid (Ab W y1) := AZ0.out.trans b1
  clear b1 a0 s0 a1 s1 a2 s2 a3 s3 a4 s4 a5 s5
  have a0 := cell_of_row _ _ 0 _ _ _ (AZ1.out.heap RO.out)
  have s0 := cell_of_row _ _ 0 _ _ _ (AZ1.out.heap RD.out)
  have a1 := cell_of_row _ _ 1 _ _ _ (AZ1.out.heap RO.out)
  have s1 := cell_of_row _ _ 1 _ _ _ (AZ1.out.heap RD.out)
  have a2 := cell_of_row _ _ 2 _ _ _ (AZ1.out.heap RO.out)
  have s2 := cell_of_row _ _ 2 _ _ _ (AZ1.out.heap RD.out)
  have a3 := cell_of_row _ _ 3 _ _ _ (AZ1.out.heap RO.out)
  have s3 := cell_of_row _ _ 3 _ _ _ (AZ1.out.heap RD.out)
  have a4 := cell_of_row _ _ 4 _ _ _ (AZ1.out.heap RO.out)
  have s4 := cell_of_row _ _ 4 _ _ _ (AZ1.out.heap RD.out)
  have a5 := cell_of_row _ _ 5 _ _ _ (AZ1.out.heap RO.out)
  have s5 := cell_of_row _ _ 5 _ _ _ (AZ1.out.heap RD.out)
  go_wp2_with fail
  refine (CW.out y1 (A0.out.trans AZ1.out)).mono ?_
  rintro e9 y2 ⟨rfl, b2⟩
  have AZ2 : Hid (Ab W y2) := AZ1.out.trans b2
  clear b2 a0 s0 a1 s1 a2 s2 a3 s3 a4 s4 a5 s5
  have a0 := cell_of_row _ _ 0 _ _ _ (AZ2.out.heap RO.out)
  have s0 := cell_of_row _ _ 0 _ _ _ (AZ2.out.heap RD.out)
  have a1 := cell_of_row _ _ 1 _ _ _ (AZ2.out.heap RO.out)
  have s1 := cell_of_row _ _ 1 _ _ _ (AZ2.out.heap RD.out)
  have a2 := cell_of_row _ _ 2 _ _ _ (AZ2.out.heap RO.out)
  have s2 := cell_of_row _ _ 2 _ _ _ (AZ2.out.heap RD.out)
  have a3 := cell_of_row _ _ 3 _ _ _ (AZ2.out.heap RO.out)
  have s3 := cell_of_row _ _ 3 _ _ _ (AZ2.out.heap RD.out)
  have a4 := cell_of_row _ _ 4 _ _ _ (AZ2.out.heap RO.out)
  have s4 := cell_of_row _ _ 4 _ _ _ (AZ2.out.heap RD.out)
  have a5 := cell_of_row _ _ 5 _ _ _ (AZ2.out.heap RO.out)
  have s5 := cell_of_row _ _ 5 _ _ _ (AZ2.out.heap RD.out)
  go_wp2_with fail
  refine (CT.out y2 (A0.out.trans AZ2.out)).mono ?_
  rintro e9 y3 ⟨rfl, b3⟩
  have AZ3 : Hid (Ab W y3) := AZ2.out.trans b3
  clear b3 a0 s0 a1 s1 a2 s2 a3 s3 a4 s4 a5 s5
  have a0 := cell_of_row _ _ 0 _ _ _ (AZ3.out.heap RO.out)
  have s0 := cell_of_row _ _ 0 _ _ _ (AZ3.out.heap RD.out)
  have a1 := cell_of_row _ _ 1 _ _ _ (AZ3.out.heap RO.out)
  have s1 := cell_of_row _ _ 1 _ _ _ (AZ3.out.heap RD.out)
  have a2 := cell_of_row _ _ 2 _ _ _ (AZ3.out.heap RO.out)
  have s2 := cell_of_row _ _ 2 _ _ _ (AZ3.out.heap RD.out)
  have a3 := cell_of_row _ _ 3 _ _ _ (AZ3.out.heap RO.out)
  have s3 := cell_of_row _ _ 3 _ _ _ (AZ3.out.heap RD.out)
  have a4 := cell_of_row _ _ 4 _ _ _ (AZ3.out.heap RO.out)
  have s4 := cell_of_row _ _ 4 _ _ _ (AZ3.out.heap RD.out)
  have a5 := cell_of_row _ _ 5 _ _ _ (AZ3.out.heap RO.out)
  have s5 := cell_of_row _ _ 5 _ _ _ (AZ3.out.heap RD.out)
  have k1 : ((sky : Int) == sky) = true := by simp
  have k2 : ((st : Int) == st) = true := by simp
  go_wp2
  go_ret
  exact ⟨rfl, A0.out.trans AZ3.out⟩
theorem still19_at (bb bw bt bs : Nat) (pb pw pt ps : Option Addr) (lb cb lw cw lt ct ls cs : Nat) {B : Nat → Nat} {Wt Tr : Nat → Int} {Sp : Nat → Nat} (sky st : Int) (w : World) (Rb : w.rowIs bb 40 (lb + 9) (mkF lb (fun k => .float .f64 (B k)) (.float .f64 4635118810238550016) (.float .f64 0))) (Rw : w.rowIs bw 2 (lw + 9) (mkF lw (fun k => .int .i64 (Wt k)) (.int .i64 77) (.int .i64 0))) (Rt : w.rowIs bt 2 (lt + 9) (mkF lt (fun k => .int .i64 (Tr k)) (.int .i64 77) (.int .i64 0))) (Rs : w.rowIs bs 40 (ls + 9) (mkF ls (fun k => .float .f64 (Sp k)) (.float .f64 4635118810238550016) (.float .f64 0))) (hl : lb ≤ 65536 ∧ lw ≤ 65536 ∧ lt ≤ 65536 ∧ ls ≤ 65536) (HB : IsFl w pb lb B) (HW : IsIn w pw lw Wt) (HT : IsIn w pt lt Tr) (HS : IsFl w ps ls Sp) :
    Calls Tryz.prog 22 #[.agg #[.slice (some ⟨bb, 0, none⟩) lb (lb + 9), .slice (some ⟨bw, 0, none⟩) lw (lw + 9), .slice (some ⟨bt, 0, none⟩) lt (lt + 9), .slice (some ⟨bs, 0, none⟩) ls (ls + 9), .int .i64 sky, .int .i64 st], .agg #[.slice pb lb cb, .slice pw lw cw, .slice pt lt ct, .slice ps ls cs, .int .i64 sky, .int .i64 st]] w fun e w' => e = .returned (.bool true) ∧ Below w.heap.size w w' := by
  have IB := mk_fl Rb (fun k hk => (HB k hk).1)
  have IW := mk_in Rw (fun k hk => (HW k hk).1)
  have IT := mk_in Rt (fun k hk => (HT k hk).1)
  have IS := mk_fl Rs (fun k hk => (HS k hk).1)
  exact still19_go bb bw bt bs pb pw pt ps lb cb lw cw lt ct ls cs sky st w Rb Rw Rt Rs hl
    (fun v a => all12_at _ _ _ _ _ B v (by omega) (IB.below a) (HB.below a)) (fun v a => all12_at _ _ _ _ _ Sp v (by omega) (IS.below a) (HS.below a))
    (fun v a => ints19_at _ _ _ _ _ Wt v (by omega) (IW.below a) (HW.below a)) (fun v a => ints19_at _ _ _ _ _ Tr v (by omega) (IT.below a) (HT.below a))
end Go.Proofs.YtkckcohemalhiaaGreatDoor
