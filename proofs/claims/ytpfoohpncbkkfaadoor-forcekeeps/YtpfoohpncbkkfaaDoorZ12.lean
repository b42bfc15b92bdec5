/-
  Some of the texts of this proof, one behind the other.
-/
import Derived.Deep.QuietTactic
import Derived.Laws.CopyOwn
import Derived.Deep.AppendLies
import Derived.OwnWalk
import Derived.Test.YtpfoohpncbkkfaaDoorZ11
namespace Go.Proofs.YtpfoohpncbkkfaaDoor
open Go.RowKit Tf Cu
attribute [local go_sem] run_bits run_from raw_feq raw_fne raw_flt raw_fgt run_neg run_store_float
set_option maxRecDepth 100000 in
set_option maxHeartbeats 16000000 in
theorem still16_go (bb bw bt bs : Nat) (pb pw pt ps : Option Addr) (lb cb lw cw lt ct ls cs : Nat) {B : Nat → Nat} {Wt Tr : Nat → Int} {Sp : Nat → Nat} (sky st : Int) (w : World)
    (Rb : Hid (w.rowIs bb 22 (lb + 9) (mkF lb (fun k => .float .f64 (B k)) (.float .f64 4635118810238550016) (.float .f64 0))))
    (Rw : Hid (w.rowIs bw 2 (lw + 9) (mkF lw (fun k => .int .i64 (Wt k)) (.int .i64 77) (.int .i64 0))))
    (Rt : Hid (w.rowIs bt 2 (lt + 9) (mkF lt (fun k => .int .i64 (Tr k)) (.int .i64 77) (.int .i64 0))))
    (Rs : Hid (w.rowIs bs 22 (ls + 9) (mkF ls (fun k => .float .f64 (Sp k)) (.float .f64 4635118810238550016) (.float .f64 0))))
    (hl : lb ≤ 65536 ∧ lw ≤ 65536 ∧ lt ≤ 65536 ∧ ls ≤ 65536)
    (CB : Hid (∀ v, Ab w v → Calls Tryd.prog 22 #[.slice (some ⟨bb, 0, none⟩) lb (lb + 9), .slice pb lb cb] v fun e w' => e = .returned (.bool true) ∧ Below v.heap.size v w'))
    (CS : Hid (∀ v, Ab w v → Calls Tryd.prog 22 #[.slice (some ⟨bs, 0, none⟩) ls (ls + 9), .slice ps ls cs] v fun e w' => e = .returned (.bool true) ∧ Below v.heap.size v w'))
    (CW : Hid (∀ v, Ab w v → Calls Tryd.prog 49 #[.slice (some ⟨bw, 0, none⟩) lw (lw + 9), .slice pw lw cw] v fun e w' => e = .returned (.bool true) ∧ Below v.heap.size v w'))
    (CT : Hid (∀ v, Ab w v → Calls Tryd.prog 49 #[.slice (some ⟨bt, 0, none⟩) lt (lt + 9), .slice pt lt ct] v fun e w' => e = .returned (.bool true) ∧ Below v.heap.size v w')) :
    Calls Tryd.prog 23 #[.agg #[.slice (some ⟨bb, 0, none⟩) lb (lb + 9), .slice (some ⟨bw, 0, none⟩) lw (lw + 9), .slice (some ⟨bt, 0, none⟩) lt (lt + 9), .slice (some ⟨bs, 0, none⟩) ls (ls + 9), .int .i64 sky, .int .i64 st], .agg #[.slice pb lb cb, .slice pw lw cw, .slice pt lt ct, .slice ps ls cs, .int .i64 sky, .int .i64 st]] w fun e w' => e = .returned (.bool true) ∧ Below w.heap.size w w' := by
  have A0 : Hid (Ab w ((w.alloc (.cells #[.slice (some ⟨bb, 0, none⟩) lb (lb + 9), .slice (some ⟨bw, 0, none⟩) lw (lw + 9), .slice (some ⟨bt, 0, none⟩) lt (lt + 9), .slice (some ⟨bs, 0, none⟩) ls (ls + 9), .int .i64 sky, .int .i64 st] 29)).alloc (.cells #[.slice pb lb cb, .slice pw lw cw, .slice pt lt ct, .slice ps ls cs, .int .i64 sky, .int .i64 st] 29))) := bl2 _ _ _
  have RO : Hid (((w.alloc (.cells #[.slice (some ⟨bb, 0, none⟩) lb (lb + 9), .slice (some ⟨bw, 0, none⟩) lw (lw + 9), .slice (some ⟨bt, 0, none⟩) lt (lt + 9), .slice (some ⟨bs, 0, none⟩) ls (ls + 9), .int .i64 sky, .int .i64 st] 29)).alloc (.cells #[.slice pb lb cb, .slice pw lw cw, .slice pt lt ct, .slice ps ls cs, .int .i64 sky, .int .i64 st] 29)).heap[w.heap.size]? = some (.cells #[.slice (some ⟨bb, 0, none⟩) lb (lb + 9), .slice (some ⟨bw, 0, none⟩) lw (lw + 9), .slice (some ⟨bt, 0, none⟩) lt (lt + 9), .slice (some ⟨bs, 0, none⟩) ls (ls + 9), .int .i64 sky, .int .i64 st] 29)) := heap_alloc2_old _ _ _
  have RD : Hid (((w.alloc (.cells #[.slice (some ⟨bb, 0, none⟩) lb (lb + 9), .slice (some ⟨bw, 0, none⟩) lw (lw + 9), .slice (some ⟨bt, 0, none⟩) lt (lt + 9), .slice (some ⟨bs, 0, none⟩) ls (ls + 9), .int .i64 sky, .int .i64 st] 29)).alloc (.cells #[.slice pb lb cb, .slice pw lw cw, .slice pt lt ct, .slice ps ls cs, .int .i64 sky, .int .i64 st] 29)).heap[w.heap.size + 1]? = some (.cells #[.slice pb lb cb, .slice pw lw cw, .slice pt lt ct, .slice ps ls cs, .int .i64 sky, .int .i64 st] 29)) := heap_alloc2_new _ _ _
  have HL := hid hl
  clear hl
  go_enter Tryd.func23, Tryd.ntmps23
  go_upto_region 1 with fail
  generalize hW : World.alloc (World.alloc w _) _ = W at *
  obtain ⟨ga, hga⟩ : ∃ g, w.heap.size = g := ⟨_, rfl⟩
  obtain ⟨gs, hgs⟩ : ∃ g, w.heap.size + 1 = g := ⟨_, rfl⟩
  rw [hga] at RO
  rw [hgs] at RD
  rw [hgs, hga]
  clear hgs hga hW
  have fe : feq 4635118810238550016 4635118810238550016 = true := by decide
  have lb1 : IntKind.i64.wrap ((lb : Int) + 1) = (lb : Int) + 1 := by rw [IntKind.wrap_i64]; have := HL.out; omega
  have lb2 : (lb : Int) + 1 ≤ (lb : Int) + 9 := by omega
  have lb3 : (lb : Int) < (lb : Int) + 1 := by omega
  have lb4 : (0 : Int) ≤ (lb : Int) + 1 := by omega
  have lb5 : ((lb : Int) + 1).toNat = lb + 1 := by omega
  have lb6 : (lb : Int) ≤ 65536 := by have := HL.out; omega
  have lw1 : IntKind.i64.wrap ((lw : Int) + 1) = (lw : Int) + 1 := by rw [IntKind.wrap_i64]; have := HL.out; omega
  have lw2 : (lw : Int) + 1 ≤ (lw : Int) + 9 := by omega
  have lw3 : (lw : Int) < (lw : Int) + 1 := by omega
  have lw4 : (0 : Int) ≤ (lw : Int) + 1 := by omega
  have lw5 : ((lw : Int) + 1).toNat = lw + 1 := by omega
  have lw6 : (lw : Int) ≤ 65536 := by have := HL.out; omega
  have lt1 : IntKind.i64.wrap ((lt : Int) + 1) = (lt : Int) + 1 := by rw [IntKind.wrap_i64]; have := HL.out; omega
  have lt2 : (lt : Int) + 1 ≤ (lt : Int) + 9 := by omega
  have lt3 : (lt : Int) < (lt : Int) + 1 := by omega
  have lt4 : (0 : Int) ≤ (lt : Int) + 1 := by omega
  have lt5 : ((lt : Int) + 1).toNat = lt + 1 := by omega
  have lt6 : (lt : Int) ≤ 65536 := by have := HL.out; omega
  have ls1 : IntKind.i64.wrap ((ls : Int) + 1) = (ls : Int) + 1 := by rw [IntKind.wrap_i64]; have := HL.out; omega
  have ls2 : (ls : Int) + 1 ≤ (ls : Int) + 9 := by omega
  have ls3 : (ls : Int) < (ls : Int) + 1 := by omega
  have ls4 : (0 : Int) ≤ (ls : Int) + 1 := by omega
  have ls5 : ((ls : Int) + 1).toNat = ls + 1 := by omega
  have ls6 : (ls : Int) ≤ 65536 := by have := HL.out; omega
  obtain ⟨UU, E, hF1, hF2⟩ := cls W
  have HU := hid hF2
  have HU1 := hid hF1
  have HX : Hid (∀ u, Ab W (E u)) := fun u => Ab.trans (Ab.refl W) (hF1 u)
  have a0 : ∀ u, (E u).cell? ⟨ga, 0, none⟩ = some (.slice (some ⟨bb, 0, none⟩) lb (lb + 9)) := fun u => cell_of_row _ _ 0 _ _ _ ((hF1 u).heap RO.out)
  have a1 : ∀ u, (E u).cell? ⟨ga, 1, none⟩ = some (.slice (some ⟨bw, 0, none⟩) lw (lw + 9)) := fun u => cell_of_row _ _ 1 _ _ _ ((hF1 u).heap RO.out)
  have a2 : ∀ u, (E u).cell? ⟨ga, 2, none⟩ = some (.slice (some ⟨bt, 0, none⟩) lt (lt + 9)) := fun u => cell_of_row _ _ 2 _ _ _ ((hF1 u).heap RO.out)
  have a3 : ∀ u, (E u).cell? ⟨ga, 3, none⟩ = some (.slice (some ⟨bs, 0, none⟩) ls (ls + 9)) := fun u => cell_of_row _ _ 3 _ _ _ ((hF1 u).heap RO.out)
  have a4 : ∀ u, (E u).cell? ⟨ga, 4, none⟩ = some (.int .i64 sky) := fun u => cell_of_row _ _ 4 _ _ _ ((hF1 u).heap RO.out)
  have a5 : ∀ u, (E u).cell? ⟨ga, 5, none⟩ = some (.int .i64 st) := fun u => cell_of_row _ _ 5 _ _ _ ((hF1 u).heap RO.out)
  have s0 : ∀ u, (E u).cell? ⟨gs, 0, none⟩ = some (.slice pb lb cb) := fun u => cell_of_row _ _ 0 _ _ _ ((hF1 u).heap RD.out)
  have s1 : ∀ u, (E u).cell? ⟨gs, 1, none⟩ = some (.slice pw lw cw) := fun u => cell_of_row _ _ 1 _ _ _ ((hF1 u).heap RD.out)
  have s2 : ∀ u, (E u).cell? ⟨gs, 2, none⟩ = some (.slice pt lt ct) := fun u => cell_of_row _ _ 2 _ _ _ ((hF1 u).heap RD.out)
  have s3 : ∀ u, (E u).cell? ⟨gs, 3, none⟩ = some (.slice ps ls cs) := fun u => cell_of_row _ _ 3 _ _ _ ((hF1 u).heap RD.out)
  have s4 : ∀ u, (E u).cell? ⟨gs, 4, none⟩ = some (.int .i64 sky) := fun u => cell_of_row _ _ 4 _ _ _ ((hF1 u).heap RD.out)
  have s5 : ∀ u, (E u).cell? ⟨gs, 5, none⟩ = some (.int .i64 st) := fun u => cell_of_row _ _ 5 _ _ _ ((hF1 u).heap RD.out)
  have mb : ∀ u, (E u).cell? ⟨bb, lb, none⟩ = some (.float .f64 4635118810238550016) := fun u => ((rowIs.ab Rb.out (A0.out.trans (hF1 u))).cell (show lb < lb + 9 by omega)).trans (by unfold mkF; simp)
  have mw : ∀ u, (E u).cell? ⟨bw, lw, none⟩ = some (.int .i64 77) := fun u => ((rowIs.ab Rw.out (A0.out.trans (hF1 u))).cell (show lw < lw + 9 by omega)).trans (by unfold mkF; simp)
  have mt : ∀ u, (E u).cell? ⟨bt, lt, none⟩ = some (.int .i64 77) := fun u => ((rowIs.ab Rt.out (A0.out.trans (hF1 u))).cell (show lt < lt + 9 by omega)).trans (by unfold mkF; simp)
  have ms : ∀ u, (E u).cell? ⟨bs, ls, none⟩ = some (.float .f64 4635118810238550016) := fun u => ((rowIs.ab Rs.out (A0.out.trans (hF1 u))).cell (show ls < ls + 9 by omega)).trans (by unfold mkF; simp)
  have DD0 := HU.out _ (Ab.refl W).drew
  clear hF1 hF2
  refine region_cls E (by kernel_rfl) (by kernel_rfl) DD0 ?_
  repeat (go_big_quiet_step (first
    | (with_reducible rfl)
  ))
  refine wpQuiet_nil ?_
  intro z hwz
  obtain ⟨u0, hu⟩ := hwz
  have AZ : Hid (Ab W z) := by rw [hu]; exact HX.out u0
  clear hu u0
  clear HU HU1 HX DD0 a0 a1 a2 a3 a4 a5 s0 s1 s2 s3 s4 s5 mb mw mt ms
  clear E UU
  clear lb1 lb2 lb3 lb4 lb5 lb6 lw1 lw2 lw3 lw4 lw5 lw6 lt1 lt2 lt3 lt4 lt5 lt6 ls1 ls2 ls3 ls4 ls5 ls6 fe
  have a0 := cell_of_row _ _ 0 _ _ _ (AZ.out.heap RO.out)
  have s0 := cell_of_row _ _ 0 _ _ _ (AZ.out.heap RD.out)
  have a1 := cell_of_row _ _ 1 _ _ _ (AZ.out.heap RO.out)
  have s1 := cell_of_row _ _ 1 _ _ _ (AZ.out.heap RD.out)
  have a2 := cell_of_row _ _ 2 _ _ _ (AZ.out.heap RO.out)
  have s2 := cell_of_row _ _ 2 _ _ _ (AZ.out.heap RD.out)
  have a3 := cell_of_row _ _ 3 _ _ _ (AZ.out.heap RO.out)
  have s3 := cell_of_row _ _ 3 _ _ _ (AZ.out.heap RD.out)
  have a4 := cell_of_row _ _ 4 _ _ _ (AZ.out.heap RO.out)
  have s4 := cell_of_row _ _ 4 _ _ _ (AZ.out.heap RD.out)
  have a5 := cell_of_row _ _ 5 _ _ _ (AZ.out.heap RO.out)
  have s5 := cell_of_row _ _ 5 _ _ _ (AZ.out.heap RD.out)
  go_wp2_with fail
  refine (CB.out z (A0.out.trans AZ.out)).mono ?_
  rintro e9 y0 ⟨rfl, b0⟩
  have AZ0 : Hid (Ab W y0) := AZ.out.trans b0
  clear b0 a0 s0 a1 s1 a2 s2 a3 s3 a4 s4 a5 s5
  have a0 := cell_of_row _ _ 0 _ _ _ (AZ0.out.heap RO.out)
  have s0 := cell_of_row _ _ 0 _ _ _ (AZ0.out.heap RD.out)
  have a1 := cell_of_row _ _ 1 _ _ _ (AZ0.out.heap RO.out)
  have s1 := cell_of_row _ _ 1 _ _ _ (AZ0.out.heap RD.out)
  have a2 := cell_of_row _ _ 2 _ _ _ (AZ0.out.heap RO.out)
  have s2 := cell_of_row _ _ 2 _ _ _ (AZ0.out.heap RD.out)
  have a3 := cell_of_row _ _ 3 _ _ _ (AZ0.out.heap RO.out)
  have s3 := cell_of_row _ _ 3 _ _ _ (AZ0.out.heap RD.out)
  have a4 := cell_of_row _ _ 4 _ _ _ (AZ0.out.heap RO.out)
  have s4 := cell_of_row _ _ 4 _ _ _ (AZ0.out.heap RD.out)
  have a5 := cell_of_row _ _ 5 _ _ _ (AZ0.out.heap RO.out)
  have s5 := cell_of_row _ _ 5 _ _ _ (AZ0.out.heap RD.out)
  go_wp2_with fail
  refine (CS.out y0 (A0.out.trans AZ0.out)).mono ?_
  rintro e9 y1 ⟨rfl, b1⟩
  have AZ1 : Hid (Ab W y1) := AZ0.out.trans b1
  clear b1 a0 s0 a1 s1 a2 s2 a3 s3 a4 s4 a5 s5
  have a0 := cell_of_row _ _ 0 _ _ _ (AZ1.out.heap RO.out)
  have s0 := cell_of_row _ _ 0 _ _ _ (AZ1.out.heap RD.out)
  have a1 := cell_of_row _ _ 1 _ _ _ (AZ1.out.heap RO.out)
  have s1 := cell_of_row _ _ 1 _ _ _ (AZ1.out.heap RD.out)
  have a2 := cell_of_row _ _ 2 _ _ _ (AZ1.out.heap RO.out)
  have s2 := cell_of_row _ _ 2 _ _ _ (AZ1.out.heap RD.out)
  have a3 := cell_of_row _ _ 3 _ _ _ (AZ1.out.heap RO.out)
  have s3 := cell_of_row _ _ 3 _ _ _ (AZ1.out.heap RD.out)
  have a4 := cell_of_row _ _ 4 _ _ _ (AZ1.out.heap RO.out)
  have s4 := cell_of_row _ _ 4 _ _ _ (AZ1.out.heap RD.out)
  have a5 := cell_of_row _ _ 5 _ _ _ (AZ1.out.heap RO.out)
  have s5 := cell_of_row _ _ 5 _ _ _ (AZ1.out.heap RD.out)
  go_wp2_with fail
  refine (CW.out y1 (A0.out.trans AZ1.out)).mono ?_
  rintro e9 y2 ⟨rfl, b2⟩
  have AZ2 : Hid (Ab W y2) := AZ1.out.trans b2
  clear b2 a0 s0 a1 s1 a2 s2 a3 s3 a4 s4 a5 s5
  have a0 := cell_of_row _ _ 0 _ _ _ (AZ2.out.heap RO.out)
  have s0 := cell_of_row _ _ 0 _ _ _ (AZ2.out.heap RD.out)
  have a1 := cell_of_row _ _ 1 _ _ _ (AZ2.out.heap RO.out)
  have s1 := cell_of_row _ _ 1 _ _ _ (AZ2.out.heap RD.out)
  have a2 := cell_of_row _ _ 2 _ _ _ (AZ2.out.heap RO.out)
  have s2 := cell_of_row _ _ 2 _ _ _ (AZ2.out.heap RD.out)
  have a3 := cell_of_row _ _ 3 _ _ _ (AZ2.out.heap RO.out)
  have s3 := cell_of_row _ _ 3 _ _ _ (AZ2.out.heap RD.out)
  have a4 := cell_of_row _ _ 4 _ _ _ (AZ2.out.heap RO.out)
  have s4 := cell_of_row _ _ 4 _ _ _ (AZ2.out.heap RD.out)
  have a5 := cell_of_row _ _ 5 _ _ _ (AZ2.out.heap RO.out)
  have s5 := cell_of_row _ _ 5 _ _ _ (AZ2.out.heap RD.out)
  go_wp2_with fail
  refine (CT.out y2 (A0.out.trans AZ2.out)).mono ?_
  rintro e9 y3 ⟨rfl, b3⟩
  have AZ3 : Hid (Ab W y3) := AZ2.out.trans b3
  clear b3 a0 s0 a1 s1 a2 s2 a3 s3 a4 s4 a5 s5
  have a0 := cell_of_row _ _ 0 _ _ _ (AZ3.out.heap RO.out)
  have s0 := cell_of_row _ _ 0 _ _ _ (AZ3.out.heap RD.out)
  have a1 := cell_of_row _ _ 1 _ _ _ (AZ3.out.heap RO.out)
  have s1 := cell_of_row _ _ 1 _ _ _ (AZ3.out.heap RD.out)
  have a2 := cell_of_row _ _ 2 _ _ _ (AZ3.out.heap RO.out)
  have s2 := cell_of_row _ _ 2 _ _ _ (AZ3.out.heap RD.out)
  have a3 := cell_of_row _ _ 3 _ _ _ (AZ3.out.heap RO.out)
  have s3 := cell_of_row _ _ 3 _ _ _ (AZ3.out.heap RD.out)
  have a4 := cell_of_row _ _ 4 _ _ _ (AZ3.out.heap RO.out)
  have s4 := cell_of_row _ _ 4 _ _ _ (AZ3.out.heap RD.out)
  have a5 := cell_of_row _ _ 5 _ _ _ (AZ3.out.heap RO.out)
  have s5 := cell_of_row _ _ 5 _ _ _ (AZ3.out.heap RD.out)
  have k1 : ((sky : Int) == sky) = true := by simp
  have k2 : ((st : Int) == st) = true := by simp
  go_wp2
  go_ret
  exact ⟨rfl, A0.out.trans AZ3.out⟩
theorem still16_at (bb bw bt bs : Nat) (pb pw pt ps : Option Addr) (lb cb lw cw lt ct ls cs : Nat) {B : Nat → Nat} {Wt Tr : Nat → Int} {Sp : Nat → Nat} (sky st : Int) (w : World) (Rb : w.rowIs bb 22 (lb + 9) (mkF lb (fun k => .float .f64 (B k)) (.float .f64 4635118810238550016) (.float .f64 0))) (Rw : w.rowIs bw 2 (lw + 9) (mkF lw (fun k => .int .i64 (Wt k)) (.int .i64 77) (.int .i64 0))) (Rt : w.rowIs bt 2 (lt + 9) (mkF lt (fun k => .int .i64 (Tr k)) (.int .i64 77) (.int .i64 0))) (Rs : w.rowIs bs 22 (ls + 9) (mkF ls (fun k => .float .f64 (Sp k)) (.float .f64 4635118810238550016) (.float .f64 0))) (hl : lb ≤ 65536 ∧ lw ≤ 65536 ∧ lt ≤ 65536 ∧ ls ≤ 65536) (HB : IsFl w pb lb B) (HW : IsIn w pw lw Wt) (HT : IsIn w pt lt Tr) (HS : IsFl w ps ls Sp) :
    Calls Tryd.prog 23 #[.agg #[.slice (some ⟨bb, 0, none⟩) lb (lb + 9), .slice (some ⟨bw, 0, none⟩) lw (lw + 9), .slice (some ⟨bt, 0, none⟩) lt (lt + 9), .slice (some ⟨bs, 0, none⟩) ls (ls + 9), .int .i64 sky, .int .i64 st], .agg #[.slice pb lb cb, .slice pw lw cw, .slice pt lt ct, .slice ps ls cs, .int .i64 sky, .int .i64 st]] w fun e w' => e = .returned (.bool true) ∧ Below w.heap.size w w' := by
  have IB := mk_fl Rb (fun k hk => (HB k hk).1)
  have IW := mk_in Rw (fun k hk => (HW k hk).1)
  have IT := mk_in Rt (fun k hk => (HT k hk).1)
  have IS := mk_fl Rs (fun k hk => (HS k hk).1)
  exact still16_go bb bw bt bs pb pw pt ps lb cb lw cw lt ct ls cs sky st w Rb Rw Rt Rs hl
    (fun v a => all12_at _ _ _ _ _ B v (by omega) (IB.below a) (HB.below a)) (fun v a => all12_at _ _ _ _ _ Sp v (by omega) (IS.below a) (HS.below a))
    (fun v a => ints16_at _ _ _ _ _ Wt v (by omega) (IW.below a) (HW.below a)) (fun v a => ints16_at _ _ _ _ _ Tr v (by omega) (IT.below a) (HT.below a))
end Go.Proofs.YtpfoohpncbkkfaaDoor

namespace Go.Proofs.YtpfoohpncbkkfaaDoor
open Go.RowKit Tf Cu Go.Deep
attribute [local go_sem] run_bits run_from raw_feq raw_fne raw_flt raw_fgt run_neg run_store_float
namespace Fc
theorem madeCells_size16 (z : Value) (n : Nat) : (madeCells #[z] n).size = n := by
  obtain ⟨c, h1, h2⟩ := World.rowIs_made default z n 0
  have e := heap_alloc_new (default : World) (Obj.cells (madeCells #[z] n) 0)
  rw [e] at h1
  injection h1 with h1
  injection h1 with h1
  rw [h1]
  exact h2.1
theorem copy16 (pa : Option Addr) (len ca : Nat) (xs : Nat → Nat) (w : World) (hA : IsFl w pa len xs) :
    ∃ v', (Builtin.copy_ #[26, 26] 3 #[.slice (some ⟨w.heap.size, 0, none⟩) len len, .slice pa len ca]).run Tryd.prog (w.alloc (Obj.cells (madeCells #[.float .f64 0] len) 22)) = .ok (goInt len) v' ∧ Below w.heap.size w v' ∧ v'.rowIs w.heap.size 22 len (fun i => .float .f64 (xs i)) := by
  have hs : (Tryd.prog.info? 22).map (·.size) = some 1 := by kernel_rfl
  by_cases c : len = 0
  · subst c
    exact ⟨_, run_copy_none _ _ _ _ 22 _ _ _ _ _ _ Tryd.underlying26 hs (by simp), bl1 _ _, (World.rowIs_made _ _ _ _).congr (fun i hi => by omega)⟩
  · obtain ⟨-, b, o, rfl, -, -⟩ := hA 0 (by omega)
    have sz := madeCells_size16 (.float .f64 0) len
    refine ⟨_, (run_copy_row Tryd.prog (w.alloc (Obj.cells (madeCells #[.float .f64 0] len) 22)) _ _ _ 22 w.heap.size 0 len len ⟨b, o, none⟩ len ca (madeCells #[.float .f64 0] len) 22 ((List.range len).map (fun i => .float .f64 (xs i))) Tryd.underlying26 hs (heap_alloc_new _ _) (by simp) ?_ (by simp [sz]) (by simp [Value.oneCell'])).trans (by simp; rfl), ?_, ?_⟩
    · intro j v hj
      obtain ⟨hj1, hj2⟩ := List.getElem?_eq_some_iff.1 hj
      simp at hj1 hj2
      have h := hA.at0 hj1
      rw [add_off12, (bl1 w _).cell (p := ⟨b, o + j, none⟩) h.2.1, h.2.2, ← hj2]
    · exact below_setRow (bl1 _ _) (Nat.le_refl _) _
    · refine ⟨_, setRow_heap _ _ _ _ _ _ (heap_alloc_new _ _), ?_⟩
      have e : (madeCells #[Value.float .f64 0] len).toList.drop len = [] := by simp [sz]
      rw [e, List.append_nil]
      refine ⟨by simp, fun i hi => ?_⟩
      simp [hi]
set_option maxRecDepth 100000 in
set_option maxHeartbeats 4000000 in
theorem rcopied16 (pa : Option Addr) (len ca : Nat) (xs : Nat → Nat) (w : World) (hl : len ≤ 4294967296) (hA : IsFl w pa len xs) :
    Calls Tryd.prog 24 #[.slice pa len ca] w fun e w' => ∃ b, e = .returned (.slice (some ⟨b, 0, none⟩) len len) ∧ Below w.heap.size w w' ∧ w'.rowIs b 22 len (fun i => .float .f64 (xs i)) ∧ w.heap.size ≤ b := by
  have M1 : ∀ v : World, (Instr.makeSlice 26 (.int .i64 (len : Nat)) (.int .i64 (len : Nat))).run Tryd.prog v = .ok (.slice (some ⟨v.heap.size, 0, none⟩) len len) (v.alloc (Obj.cells (madeCells #[.float .f64 0] len) 22)) := fun v =>
    run_make_row' (P := Tryd.prog) 26 22 (.float .f64 0) 8 Tryd.underlying26 infoF64 rfl .i64 .i64 len (by omega) (by omega) v
  have HA := hid hA
  clear hA hl
  go_enter Tryd.func24, Tryd.ntmps24
  obtain ⟨v', CP, bv, rv⟩ := copy16 pa len ca xs w HA.out
  have BV := hid bv
  have RV := hid rv
  clear bv rv HA
  go_wp2
  go_ret
  exact ⟨_, rfl, BV.out, RV.out, Nat.le_refl _⟩
end Fc
end Go.Proofs.YtpfoohpncbkkfaaDoor

namespace Go.Proofs.YtpfoohpncbkkfaaDoor
open Go.RowKit Tf Cu Go.Deep
/-- a list of the call's own, of so many whole numbers -/
def OwnI (B : Nat) (v : Value) (l : List Int) (w : World) : Prop := w.ownsRow B 2 1 v l.length (l.map (Value.int .i64))
theorem OwnI.in {B : Nat} {v : Value} {l : List Int} {w : World} (h : OwnI B v l w) (hl : ∀ x ∈ l, -9223372036854775808 ≤ x ∧ x ≤ 9223372036854775807) : ∃ a0 cap, v = .slice a0 l.length cap ∧ IsIn w a0 l.length (fun j => l.getD j 0) := by
  rcases h.2 with ⟨rfl, h0⟩ | ⟨g, cap, cur, rfl, hb, hg, h1, h2, h3, h4⟩
  · exact ⟨none, 0, by rw [h0], fun k hk => by omega⟩
  · refine ⟨some ⟨g, 0, none⟩, cap, rfl, fun k hk => ?_⟩
    have hx : l.getD k 0 = l[k] := by simp [List.getD, hk]
    refine ⟨by dsimp only; rw [hx]; exact hl _ (List.getElem_mem _), g, 0, rfl, lt_of_block hg, ?_⟩
    have e := h.cells (g := g) rfl k (.int .i64 (l.getD k 0)) (by simp [hk])
    rw [add_off12] at e
    exact e
theorem OwnI.to {B : Nat} {v : Value} {l : List Int} {w w' : World} (h : OwnI B v l w) (hb : Ab w w') : OwnI B v l w' := by
  refine ⟨h.1, ?_⟩
  rcases h.2 with h0 | ⟨g, cap, cur, e, hb', hg, h1, h2, h3, h4⟩
  · exact .inl h0
  · exact .inr ⟨g, cap, cur, e, hb', hb.heap hg, h1, h2, h3, h4⟩
end Go.Proofs.YtpfoohpncbkkfaaDoor

namespace Go.Proofs.YtpfoohpncbkkfaaDoor
open Go.RowKit Tf Cu Go.Deep
/-- all blocks of V but g are in w as they were -/
def Abo (V : World) (g : Nat) (w : World) : Prop := w.os = V.os ∧ w.tape = V.tape ∧ w.output = V.output ∧ V.heap.size ≤ w.heap.size ∧ ∀ k, k < V.heap.size → k ≠ g → w.heap[k]? = V.heap[k]?
theorem Abo.ab {w0 V w : World} {g : Nat} (h : Abo V g w) (a : Ab w0 V) (hg : w0.heap.size ≤ g) : Ab w0 w := by
  obtain ⟨h1, h2, h3, h4, h5⟩ := h
  exact ⟨h1.trans a.os, h2.trans a.tape, h3.trans a.output, Nat.le_trans (Below.size a) h4, fun k hk => (h5 k (Nat.lt_of_lt_of_le hk (Below.size a)) (by omega)).trans (a.block k hk)⟩
theorem Abo.refl (V : World) (g : Nat) : Abo V g V := ⟨rfl, rfl, rfl, Nat.le_refl _, fun _ _ _ => rfl⟩
theorem Abo.grown {V wr w' : World} {g : Nat} {O : Obj} {row : Option Nat} (h : Abo V g wr) (hg : (wr.alloc O).grownBy w' row) (hr : ∀ b, row = some b → b = g ∨ V.heap.size ≤ b) : Abo V g w' := by
  obtain ⟨h1, h2, h3, h4, h5⟩ := h
  have hs : (wr.alloc O).heap.size = wr.heap.size + 1 := by
    show (wr.heap.push O).size = _
    simp
  refine ⟨hg.os.trans h1, hg.tape.trans h2, hg.output.trans h3, by have := hg.size; omega, fun k hk hne => ?_⟩
  refine (hg.block k (by omega) (fun e => ?_)).trans ((Below.heap_alloc _ _ _ (by omega)).trans (h5 k hk hne))
  rcases hr k e.symm with h6 | h6
  · exact hne h6
  · omega
theorem OwnI.alloc {B : Nat} {v : Value} {l : List Int} {w : World} (h : OwnI B v l w) (O : Obj) : OwnI B v l (w.alloc O) := World.ownsRow.alloc h O
end Go.Proofs.YtpfoohpncbkkfaaDoor
