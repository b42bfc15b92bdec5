/-
  Some of the texts of this proof, one behind the other.
-/
import Derived.Deep.QuietTactic
import Derived.ProofKit
import Derived.OpenShut
import Derived.WalkLawsBesides
import Derived.Stop.Joined
import Derived.Carry
import Derived.Lib.SmallJoins
import Derived.Deep.SlicePairs
import Derived.Deep.Slices
import Derived.StillTail
import Derived.Test.YtjmifofplkoehaaDoorC07
namespace Go.Proofs.YtjmifofplkoehaaDoor
open Go.RowKit Go.Deep Cu
namespace Sh
theorem cell_ab {w w' : World} {b k : Nat} {v : Value} (h : w.cell? ⟨b, k, none⟩ = some v) (a : Ab w w') : w'.cell? ⟨b, k, none⟩ = some v := by
  have lt : b < w.heap.size := by
    rcases Nat.lt_or_ge b w.heap.size with h1 | h1
    · exact h1
    · simp [World.cell?, Array.getElem?_eq_none h1] at h
  exact (World.cell?_of_block (Below.block a _ lt)).trans h
set_option maxRecDepth 100000 in
set_option maxHeartbeats 32000000 in
theorem keeps_go (n M N : Nat) (side : Int) {pw pf : Option Addr} {lw cw lf cf : Nat} {fw ff : Nat → Int} (G Cv : Nat → Int) (w : World)
    (LV : Hid (∀ v, Ab w v → Calls Tryd.prog 5 #[] v fun e w' => e = .returned (.bool true) ∧ Below v.heap.size v w'))
    (NW : Hid (∀ v, Ab w v → Calls Tryd.prog 6 #[.int .i64 (wrap64 (1 + wrap64 ((IntKind.u64.wrap side).tmod 4)))] v fun e w' => ∃ gb, e = .returned (.tuple #[.pointer (some ⟨gb, 0, none⟩), .int .i64 0]) ∧ Ab v w' ∧ GridOf n gb w'))
    (CC : Hid (∀ gb v, GridOf n gb v → Calls Tryd.prog 8 #[.pointer (some ⟨gb, 0, none⟩)] v fun e w' => e = .returned (.int .i64 (M : Nat)) ∧ w' = v)) (CE : Hid (∀ gb v, GridOf n gb v → Calls Tryd.prog 9 #[.pointer (some ⟨gb, 0, none⟩)] v fun e w' => e = .returned (.int .i64 (N : Nat)) ∧ w' = v))
    (HA : Hid (∀ gb v b1 b2, GridOf n gb v → v.rowIs b1 2 (M + 2) (fun i => .int .i64 (fitF lw fw false i)) → v.rowIs b2 2 (N + 2) (fun i => .int .i64 (fitF lf ff true i)) → Calls Tryd.prog 10 #[.pointer (some ⟨gb, 0, none⟩), .slice (some ⟨b1, 0, none⟩) M (M + 2), .slice (some ⟨b2, 0, none⟩) N (N + 2)] v fun e w' => ∃ l, e = .returned (.tuple #[l, .int .i64 0]) ∧ Below v.heap.size v w' ∧ Own v.heap.size l ((List.range N).map G) w'))
    (HC : Hid (∀ v b1, v.rowIs b1 2 (M + 2) (fun i => .int .i64 (fitF lw fw false i)) → Calls Tryd.prog 12 #[.int .i64 (fitF lw fw false 0), .slice (some ⟨b1, 1, none⟩) (M - 1) (M + 1)] v fun e w' => ∃ l, e = .returned (.tuple #[l, .int .i64 0]) ∧ Below v.heap.size v w' ∧ Own v.heap.size l ((List.range (M - 1)).map Cv) w'))
    (HZ : Hid (∀ gb v b1 b2, GridOf n gb v → v.rowIs b1 2 (M + 2) (fun _ => .int .i64 0) → v.rowIs b2 2 (N + 2) (fun i => .int .i64 (fitF lf ff true i)) → Calls Tryd.prog 10 #[.pointer (some ⟨gb, 0, none⟩), .slice (some ⟨b1, 0, none⟩) M (M + 2), .slice (some ⟨b2, 0, none⟩) N (N + 2)] v fun e w' => ∃ l, e = .returned (.tuple #[l, .int .i64 0]) ∧ Below v.heap.size v w' ∧ Own v.heap.size l ((List.range N).map (fun _ => (0 : Int))) w'))
    (HGW : Hid ((∀ i, i < N → W64 (G i)) ∧ (∀ i, i < M - 1 → W64 (Cv i))))
    (IW : Hid (IsI w pw lw fw)) (IF : Hid (IsI w pf lf ff)) (hl : 6 ≤ M ∧ M ≤ 1024 ∧ 12 ≤ N ∧ N ≤ 1024) :
    Calls Tryd.prog 4 #[.int .i64 side, .slice pw lw cw, .slice pf lf cf] w fun e w' => e = .returned (.bool true) ∧ Below w.heap.size w w' := by
  have HL := hid hl
  have sM : IntKind.i64.wrap ((M : Int) + 2) = ((M + 2 : Nat) : Int) := by rw [IntKind.wrap_i64]; omega
  have sN : IntKind.i64.wrap ((N : Int) + 2) = ((N + 2 : Nat) : Int) := by rw [IntKind.wrap_i64]; omega
  clear hl
  go_enter Tryd.func4, Tryd.ntmps4
  go_wp2_with fail
  refine (LV.out _ (Ab.refl w)).mono ?_
  rintro e9 v1 ⟨rfl, b1⟩
  have A1 : Hid (Ab w v1) := b1
  clear b1
  go_wp2_with fail
  refine (NW.out _ A1.out).mono ?_
  rintro e9 v2 ⟨gb, rfl, a2, g2⟩
  have A2 : Hid (Ab w v2) := A1.out.trans a2
  have G2 : Hid (GridOf n gb v2) := g2
  clear a2 g2 A1
  go_wp2_with fail
  refine (CC.out gb v2 G2.out).mono ?_
  rintro e9 v3 ⟨rfl, hv⟩
  have hv2 := hv.symm
  subst hv2
  
  go_wp2_with fail
  try rw [sM]
  refine (fit_at pw lw cw (M + 2) fw false v2 (IW.out.below A2.out) (by have := HL.out; omega)).mono ?_
  rintro e9 v3 ⟨bw, rfl, b3, r3, l3⟩
  have A3 : Hid (Ab v2 v3) := b3
  have RW := hid r3
  have L3 := hid l3
  clear b3 r3 l3
  go_wp2_with fail
  refine (CE.out gb v3 (G2.out.to A3.out)).mono ?_
  rintro e9 v4 ⟨rfl, hv⟩
  have hv2 := hv.symm
  subst hv2
  
  go_wp2_with fail
  try rw [sN]
  refine (fit_at pf lf cf (N + 2) ff true v3 (IF.out.below (A2.out.trans A3.out)) (by have := HL.out; omega)).mono ?_
  rintro e9 v4 ⟨bf, rfl, b4, r4, l4⟩
  have A4 : Hid (Ab v3 v4) := b4
  have RF := hid r4
  have RW4 := hid (row_ab RW.out b4)
  have L4 : Hid (v3.heap.size ≤ bf ∧ bw < v3.heap.size) := ⟨l4, RW.out.lt⟩
  clear b4 r4 l4 RW
  have IWr := hid (row_in RW4.out (fun i _ => by have := fit_in lw fw false i; omega))
  have IFr := hid (row_in RF.out (fun i _ => by have := fit_in lf ff true i; omega))
  go_wp2_with (first
    | (at_builtin; have q9 := Iu.out; refine wpList_copy rfl (.tmp 56) (.tmp 57) rfl wu.heap.size wu.heap.size rfl (own_new wu wu.heap.size (Nat.le_refl _)) (some ⟨bf, 0, none⟩) (N + 2) _ (fitF lf ff true) rfl (IFr.out.below (Au.out.trans (bl1 wu (.cells #[] 2)))) (by have := HL.out; omega) (by simp) ?_; intro gv cv wv iv bv lv; have Iv := hid iv; have Lv := hid lv; have Av : Hid (Ab wu wv) := Below.trans (bl1 wu (.cells #[] 2)) bv; clear iv bv lv q9)
    | (at_builtin; refine wpList_copy rfl (.tmp 53) (.tmp 54) rfl v4.heap.size v4.heap.size rfl (own_new v4 v4.heap.size (Nat.le_refl _)) (some ⟨bw, 0, none⟩) (M + 2) _ (fitF lw fw false) rfl (IWr.out.below (bl1 v4 (.cells #[] 2))) (by have := HL.out; omega) (by simp) ?_; intro gu cu wu iu bu lu; have Iu := hid iu; have Lu := hid lu; have Au : Hid (Ab v4 wu) := Below.trans (bl1 v4 (.cells #[] 2)) bu; clear iu bu lu))
  refine (CC.out gb wv (G2.out.to (A3.out.trans (A4.out.trans (Au.out.trans Av.out))))).mono ?_
  rintro e9 v5 ⟨rfl, hv⟩
  have hv2 := hv.symm
  subst hv2
  go_wp2_with fail
  refine (CE.out gb wv (G2.out.to (A3.out.trans (A4.out.trans (Au.out.trans Av.out))))).mono ?_
  rintro e9 v5 ⟨rfl, hv⟩
  have hv2 := hv.symm
  subst hv2
  
  go_upto_region 11 with fail
  have AW : Hid (Ab v2 wv) := A3.out.trans (A4.out.trans (Au.out.trans Av.out))
  have G5 : Hid (GridOf n gb wv) := G2.out.to AW.out
  have RW5 := hid (row_ab RW4.out (Au.out.trans Av.out))
  have RF5 := hid (row_ab RF.out (Au.out.trans Av.out))
  have IU5 := hid (Iu.out.below Av.out)
  have LL : Hid (v2.heap.size ≤ bw ∧ bw < bf ∧ bf < gu ∧ gu < gv ∧ gv < wv.heap.size) := by
    have h1 := L3.out
    have h2 := L4.out
    have h3 := Lu.out
    have h4 := Lv.out
    have h5 := RF.out.lt
    have h6 := (Iu.out.at0 (k := 0) (by omega)).2.1
    have h7 := (Iv.out.at0 (k := 0) (by omega)).2.1
    exact ⟨by omega, by omega, by omega, by omega, by omega⟩
  have m1 : ((M : Nat) : Int) ≤ ((M + 2 : Nat) : Int) := by omega
  have m2 : (M : Int) ≤ (M : Int) + 2 := by omega
  have m3 : (0 : Int) ≤ (M : Int) := by omega
  have n1 : ((N : Nat) : Int) ≤ ((N + 2 : Nat) : Int) := by omega
  have n2 : (N : Int) ≤ (N : Int) + 2 := by omega
  have n3 : (0 : Int) ≤ (N : Int) := by omega
  have z1 : (0 : Int) < ((M + 2 : Nat) : Int) := by omega
  have z2 : (0 : Int) < (M : Int) + 2 := by omega
  have z3 : 0 < M + 2 := by omega
  have m4 : (1 : Int) ≤ (M : Int) := by have := HL.out; omega
  clear Iu RF RW4 IWr IFr A3 A4 Au Av L3 L4 Lu Lv
  have AD0 := Ab.refl wv
  have AD := (Ab.refl wv).drew
  go_region_held3 (fun w' => Ab wv w') (((with_reducible (repeat (first | assumption | apply Ab.drew | apply Ab.alloc))); done)) (first
    | (go_at_call 10; refine (HA.out gb _ bw bf (G5.out.to (Ab.trans (Ab.refl wv) AD)) (row_ab RW5.out (Ab.trans (Ab.refl wv) AD)) (row_ab RF5.out (Ab.trans (Ab.refl wv) AD))).mono ?_; rintro e9 ra ⟨la, rfl, b3, o3⟩; have A3 := Ab.call AD b3; have Oa := hid o3; clear b3 o3))
  have Aa : Hid (Ab wv ra) := Ab.trans (Ab.refl wv) A3
  have Ba : Hid (Ab wv ra) := A3
  clear A3 AD AD0
  go_upto_region 12 with fail
  have AD0 := Ab.refl ra
  have AD := (Ab.refl ra).drew
  go_region_held3 (fun w' => Ab ra w') (((with_reducible (repeat (first | assumption | apply Ab.drew | apply Ab.alloc))); done)) (first
    | (go_at_call 10; refine (HA.out gb _ bw bf (G5.out.to (Ab.trans Aa.out AD)) (row_ab RW5.out (Ab.trans Aa.out AD)) (row_ab RF5.out (Ab.trans Aa.out AD))).mono ?_; rintro e9 rb ⟨lb, rfl, b3, o3⟩; have A3 := Ab.call AD b3; have Ob := hid o3; clear b3 o3))
  have Ab_ : Hid (Ab wv rb) := Ab.trans Aa.out A3
  have Bb : Hid (Ab ra rb) := A3
  clear A3 AD AD0
  go_upto_region 13 with fail
  have AD0 := Ab.refl rb
  have AD := (Ab.refl rb).drew
  have KS : Hid (∀ w', Ab rb w' → Ab rb w' ∧ w'.cell? ⟨bw, 0, none⟩ = some (.int .i64 (fitF lw fw false 0))) := fun w' h => ⟨h, (row_ab RW5.out (Ab.trans Ab_.out h)).cell (show 0 < M + 2 by omega)⟩
  go_region_held3 (fun w' => Ab rb w' ∧ w'.cell? ⟨bw, 0, none⟩ = some (.int .i64 (fitF lw fw false 0))) ((refine KS.out _ ?_; (with_reducible (repeat (first | assumption | apply Ab.drew | apply Ab.alloc))); done)) (first
    | (go_at_call 12; refine (HC.out _ bw (row_ab RW5.out (Ab.trans Ab_.out AD))).mono ?_; rintro e9 rc ⟨lc, rfl, b3, o3⟩; have A3 := Ab.call AD b3; have Oc := hid o3; clear b3 o3))
  have Ac : Hid (Ab wv rc) := Ab.trans Ab_.out A3
  have Bc : Hid (Ab rb rc) := A3
  clear A3 AD AD0 KS
  go_upto_region 14 with fail
  have AD0 := Ab.refl rc
  have AD := (Ab.refl rc).drew
  have KS : Hid (∀ w', Ab rc w' → Ab rc w' ∧ w'.cell? ⟨bw, 0, none⟩ = some (.int .i64 (fitF lw fw false 0))) := fun w' h => ⟨h, (row_ab RW5.out (Ab.trans Ac.out h)).cell (show 0 < M + 2 by omega)⟩
  go_region_held3 (fun w' => Ab rc w' ∧ w'.cell? ⟨bw, 0, none⟩ = some (.int .i64 (fitF lw fw false 0))) ((refine KS.out _ ?_; (with_reducible (repeat (first | assumption | apply Ab.drew | apply Ab.alloc))); done)) (first
    | (go_at_call 12; refine (HC.out _ bw (row_ab RW5.out (Ab.trans Ac.out AD))).mono ?_; rintro e9 rk ⟨lk, rfl, b3, o3⟩; have A3 := Ab.call AD b3; have Ok := hid o3; clear b3 o3))
  have Ak : Hid (Ab wv rk) := Ab.trans Ac.out A3
  have Bk : Hid (Ab rc rk) := A3
  clear A3 AD AD0 KS
  obtain ⟨ga, ca, Fa, hla, lga, nca, mca, rwa_, hfa⟩ := own_two Oa.out (by have := HL.out; omega)
  obtain ⟨gq, cq, Fq, hlb, lgq, ncq, mcq, rwq, hfq⟩ := own_two Ob.out (by have := HL.out; omega)
  obtain ⟨gc, cc, Fc, hlc, lgc, ncc, mcc, rwc, hfc⟩ := own_two Oc.out (by have := HL.out; omega)
  obtain ⟨gk, ck, Fk, hlk, lgk, nck, mck, rwk, hfk⟩ := own_two Ok.out (by have := HL.out; omega)
  subst hla hlb hlc hlk
  have BL : Hid (gv < ga ∧ ga < gq ∧ gq < gc ∧ gc < gk ∧ bw < bf ∧ bf < gu ∧ gu < gv ∧ v2.heap.size ≤ bw) := by
    have h := LL.out
    have a1 : wv.heap.size ≤ ga := lga
    have a2 : ra.heap.size ≤ gq := lgq
    have a3 : rb.heap.size ≤ gc := lgc
    have a4 : rc.heap.size ≤ gk := lgk
    have b1 := rwa_.lt
    have b2 := rwq.lt
    have b3 := rwc.lt
    exact ⟨by omega, by omega, by omega, by omega, by omega, by omega, by omega, by omega⟩
  have KA : Hid (N ≤ ca ∧ ca ≤ maxLen ∧ ∀ i, i < N → Fa i = .int .i64 (G i)) := ⟨nca, mca, hfa⟩
  have KQ : Hid (N ≤ cq ∧ ∀ i, i < N → Fq i = .int .i64 (G i)) := ⟨ncq, hfq⟩
  have KC : Hid (M - 1 ≤ cc ∧ cc ≤ maxLen ∧ ∀ i, i < M - 1 → Fc i = .int .i64 (Cv i)) := ⟨ncc, mcc, hfc⟩
  have KK : Hid (M - 1 ≤ ck ∧ ∀ i, i < M - 1 → Fk i = .int .i64 (Cv i)) := ⟨nck, hfk⟩
  have Ra := hid (row_ab rwa_ (Bb.out.trans (Bc.out.trans Bk.out)))
  have Rq := hid (row_ab rwq (Bc.out.trans Bk.out))
  have Rc := hid (row_ab rwc Bk.out)
  have Rk := hid rwk
  have RWk := hid (row_ab RW5.out Ak.out)
  have RFk := hid (row_ab RF5.out Ak.out)
  have IUk := hid (IU5.out.below Ak.out)
  have IVk := hid (Iv.out.below Ak.out)
  have AWk : Hid (Ab v2 rk) := AW.out.trans Ak.out
  have GK : Hid (GridOf n gb rk) := G5.out.to Ak.out
  clear Oa Ob Oc Ok Ba Bb Bc Bk Aa Ab_ Ac Ak lga lgq lgc lgk nca ncq ncc nck mca mcq mcc mck hfa hfq hfc hfk rwa_ rwq rwc rwk RW5 RF5 IU5 Iv G5 AW LL
  have Ia := hid (rowpart_in Ra.out KA.out.1 KA.out.2.2 (fun i hi => HGW.out.1 i hi))
  have Iq := hid (rowpart_in Rq.out KQ.out.1 KQ.out.2 (fun i hi => HGW.out.1 i hi))
  have Ic := hid (rowpart_in Rc.out KC.out.1 KC.out.2.2 (fun i hi => HGW.out.2 i hi))
  have Ik := hid (rowpart_in Rk.out KK.out.1 KK.out.2 (fun i hi => HGW.out.2 i hi))
  have Iw := hid (row_in RWk.out (fun i _ => by have := fit_in lw fw false i; omega))
  have If := hid (row_in RFk.out (fun i _ => by have := fit_in lf ff true i; omega))
  have e0 : (((0 : Int)) != 0) = false := by decide
  go_wp2_with fail
  refine (same_at (some ⟨ga, 0, none⟩) (some ⟨gq, 0, none⟩) N ca cq G rk (by have := HL.out; omega) (Ia.out.below (Ab.refl rk)) (Iq.out.below (Ab.refl rk))).mono ?_
  rintro e9 s0 ⟨rfl, b3⟩
  have S0 : Hid (Ab rk s0) := Ab.trans (Ab.refl rk) b3
  clear b3
  go_wp2_with fail
  refine (same_at (some ⟨gc, 0, none⟩) (some ⟨gk, 0, none⟩) (M - 1) cc ck Cv s0 (by have := HL.out; omega) (Ic.out.below S0.out) (Ik.out.below S0.out)).mono ?_
  rintro e9 s1 ⟨rfl, b3⟩
  have S1 : Hid (Ab rk s1) := Ab.trans S0.out b3
  clear b3
  go_wp2_with fail
  refine (same_at (some ⟨gu, 0, none⟩) (some ⟨bw, 0, none⟩) (M + 2) cu (M + 2) (fitF lw fw false) s1 (by have := HL.out; omega) (IUk.out.below S1.out) (Iw.out.below S1.out)).mono ?_
  rintro e9 s2 ⟨rfl, b3⟩
  have S2 : Hid (Ab rk s2) := Ab.trans S1.out b3
  clear b3
  go_wp2_with fail
  refine (same_at (some ⟨gv, 0, none⟩) (some ⟨bf, 0, none⟩) (N + 2) cv (N + 2) (fitF lf ff true) s2 (by have := HL.out; omega) (IVk.out.below S2.out) (If.out.below S2.out)).mono ?_
  rintro e9 s3 ⟨rfl, b3⟩
  have S3 : Hid (Ab rk s3) := Ab.trans S2.out b3
  clear b3
  clear e0
  go_wp2_with (first
    | (at_builtin; have q9 := Ix.out; refine wpList_copy rfl (.tmp 143) (.tmp 144) rfl wx.heap.size wx.heap.size rfl (own_new wx wx.heap.size (Nat.le_refl _)) (some ⟨gk, 0, none⟩) (M - 1) _ Cv rfl (Ik.out.below (S3.out.trans (Ax.out.trans (bl1 wx (.cells #[] 2))))) (by have := HL.out; omega) (by simp) ?_; intro gz cz wz iz bz lz; have Iz := hid iz; have Lz := hid lz; have Az : Hid (Ab wx wz) := Below.trans (bl1 wx (.cells #[] 2)) bz; clear iz bz lz q9)
    | (at_builtin; refine wpList_copy rfl (.tmp 140) (.tmp 141) rfl s3.heap.size s3.heap.size rfl (own_new s3 s3.heap.size (Nat.le_refl _)) (some ⟨gq, 0, none⟩) N _ G rfl (Iq.out.below (S3.out.trans (bl1 s3 (.cells #[] 2)))) (by have := HL.out; omega) (by simp) ?_; intro gx cx wx ix bx lx; have Ix := hid ix; have Lx := hid lx; have Ax : Hid (Ab s3 wx) := Below.trans (bl1 s3 (.cells #[] 2)) bx; clear ix bx lx))
  have AV : Hid (Ab rk wz) := S3.out.trans (Ax.out.trans Az.out)
  have XL : Hid (gk < gx ∧ gk < gz) := by
    have h1 := Lx.out
    have h2 := Lz.out
    have h3 := Rk.out.lt
    have h4 := S3.out.size
    have h5 := Ax.out.size
    exact ⟨by omega, by omega⟩
  have R1 := hid (row_ab Ra.out AV.out)
  have R2 := hid (row_ab Rc.out AV.out)
  have R3 := hid (row_ab RWk.out AV.out)
  have J1 := hid (Iq.out.below AV.out)
  have J2 := hid (Ix.out.below Az.out)
  have J3 := hid (Ik.out.below AV.out)
  have J4 := Iz
  have J5 := hid (IVk.out.below AV.out)
  have J6 := hid (row_ab RFk.out AV.out)
  have AW7 : Hid (Ab v2 wz) := AWk.out.trans AV.out
  have GW : Hid (GridOf n gb wz) := GK.out.to AV.out
  clear Ra Rc Rq Rk RWk RFk IUk IVk Ia Iq Ic Ik Iw If S0 S1 S2 S3 Ax Az Lx Lz Ix Iz AV AWk GK KQ KK
  generalize hVV : wz = V at *
  clear hVV
  obtain ⟨P, hP⟩ : ∃ P : Nat → Prop, P = fun k => k = ga ∨ k = gc ∨ k = bw := ⟨_, rfl⟩
  have PP : Hid (P ga ∧ P gc ∧ P bw ∧ ¬ P gq ∧ ¬ P gk ∧ ¬ P gx ∧ ¬ P gz ∧ ¬ P gv ∧ ¬ P bf ∧ (∀ k, k < v2.heap.size → ¬ P k)) := by
    have h := BL.out
    have h2 := XL.out
    rw [hP]
    exact ⟨.inl rfl, .inr (.inl rfl), .inr (.inr rfl), by omega, by omega, by omega, by omega, by omega, by omega, fun k hk => by omega⟩
  have NE : Hid (ga ≠ gc ∧ ga ≠ bw ∧ gc ≠ bw) := by have h := BL.out; exact ⟨by omega, by omega, by omega⟩
  clear hP
  go_upto_region 20 with fail
  go_loopw [26] (fun iv wr => ∃ c : Nat, c ≤ N ∧ iv = .int .i64 (c : Nat) ∧ AbS V P wr ∧ wr.rowIs ga 2 ca (fun i => if i < c then .int .i64 (-7) else Fa i) ∧ wr.rowIs gc 2 cc Fc ∧ wr.rowIs bw 2 (M + 2) (fun i => .int .i64 (fitF lw fw false i))) (fun iv _ => N - (intOf iv).toNat)
  case atStart => exact ⟨0, by omega, rfl, AbS.refl V P, R1.out.congr (fun i _ => by simp), R2.out, R3.out⟩
  case round =>
    obtain ⟨c, hc, rfl, hX0, hQ1, hQ2, hQ3⟩ := hrel
    have ZX0 := hid hX0
    have ZQ1 := hid hQ1
    have ZQ2 := hid hQ2
    have ZQ3 := hid hQ3
    clear hX0 hQ1 hQ2 hQ3 R1 R2 R3
    have X0 := ZX0
    have Q1 := ZQ1
    have Q2 := ZQ2
    have Q3 := ZQ3
    clear ZX0 ZQ1 ZQ2 ZQ3
    by_cases hcN : c < N
    · have HC := hid hcN
      have hcI : (c : Int) < N := by omega
      have hcB : (c : Int) ≤ 65536 := by have := HL.out; omega
      have xc := Q1.out.cell (show c < ca by have := KA.out.1; omega)
      obtain ⟨xv, hxv⟩ : ∃ v, (if c < c then Value.int .i64 (-7) else Fa c) = v := ⟨_, rfl⟩
      rw [hxv] at xc
      have xf := Q1.out.frozen c
      clear hxv
      go_wp2
      refine ⟨⟨c + 1, by have := HC.out; omega, by simp, X0.out.set PP.out.1 _, (Q1.out.set c _).congr (fun i _ => ?_), Q2.out.setOther NE.out.1.symm _, Q3.out.setOther NE.out.2.1.symm _⟩, by have := HC.out; simp [intOf]; omega⟩
      · by_cases e : i = c
        · simp [e]
        · by_cases l : i < c
          · simp [e, l, show i < c + 1 by omega]
          · simp [e, l, show ¬ i < c + 1 by omega]
    · have e6 : N = c := by have := HC.out; omega
      subst e6
      go_wp2
      go_loopw [27] (fun iv wr => ∃ c : Nat, c ≤ (M - 1) ∧ iv = .int .i64 (c : Nat) ∧ AbS V P wr ∧ wr.rowIs ga 2 ca (fun i => if i < N then .int .i64 (-7) else Fa i) ∧ wr.rowIs gc 2 cc (fun i => if i < c then .int .i64 (-7) else Fc i) ∧ wr.rowIs bw 2 (M + 2) (fun i => .int .i64 (fitF lw fw false i))) (fun iv _ => (M - 1) - (intOf iv).toNat)
      case atStart => exact ⟨0, by omega, rfl, X0.out, Q1.out, Q2.out.congr (fun i _ => by simp), Q3.out⟩
      case round =>
        obtain ⟨c, hc, rfl, hY0, hS1, hS2, hS3⟩ := hrel
        have ZY0 := hid hY0
        have ZS1 := hid hS1
        have ZS2 := hid hS2
        have ZS3 := hid hS3
        clear hY0 hS1 hS2 hS3 X0 Q1 Q2 Q3
        have Y0 := ZY0
        have S1 := ZS1
        have S2 := ZS2
        have S3 := ZS3
        clear ZY0 ZS1 ZS2 ZS3
        by_cases hcN : c < (M - 1)
        · have HC := hid hcN
          have hcI : (c : Int) < ((M - 1 : Nat) : Int) := by omega
          have hcB : (c : Int) ≤ 65536 := by have := HL.out; omega
          have xc := S2.out.cell (show c < cc by have := KC.out.1; omega)
          obtain ⟨xv, hxv⟩ : ∃ v, (if c < c then Value.int .i64 (-7) else Fc c) = v := ⟨_, rfl⟩
          rw [hxv] at xc
          have xf := S2.out.frozen c
          clear hxv
          go_wp2
          refine ⟨⟨c + 1, by have := HC.out; omega, by simp, Y0.out.set PP.out.2.1 _, S1.out.setOther NE.out.1 _, (S2.out.set c _).congr (fun i _ => ?_), S3.out.setOther NE.out.2.2.symm _⟩, by have := HC.out; simp [intOf]; omega⟩
          · by_cases e : i = c
            · simp [e]
            · by_cases l : i < c
              · simp [e, l, show i < c + 1 by omega]
              · simp [e, l, show ¬ i < c + 1 by omega]
        · obtain rfl : c = (M - 1) := by omega
          obtain ⟨NA, hNA⟩ : ∃ x, N + 4 = x := ⟨_, rfl⟩
          obtain ⟨CA, hCA⟩ : ∃ x, M - 1 + 4 = x := ⟨_, rfl⟩
          have OA : Hid (Own v2.heap.size (.slice (some ⟨ga, 0, none⟩) N ca) (List.replicate N (-7)) wr) := row_own S1.out (by have := BL.out; omega) KA.out.1 KA.out.2.1 (fun i hi => by simp [hi])
          have OC : Hid (Own v2.heap.size (.slice (some ⟨gc, 0, none⟩) (M - 1) cc) (List.replicate (M - 1) (-7)) wr) := row_own S2.out (by have := BL.out; omega) KC.out.1 KC.out.2.1 (fun i hi => by simp [hi])
          have WS : Hid (v2.heap.size ≤ wr.heap.size ∧ bw < wr.heap.size ∧ gc < wr.heap.size) := ⟨Nat.le_trans AW7.out.size Y0.out.2.2.2.1, S3.out.lt, S2.out.lt⟩
          have HNA := hid hNA
          have HCA := hid hCA
          clear hNA hCA
          go_wp2_with (first
            | (at_builtin; have q9 := XA.out; refine wpList_app rfl (.tmp 167) (.tmp 168) rfl v2.heap.size (.slice (some ⟨gc, 0, none⟩) (M - 1) cc) (List.replicate (M - 1) (-7)) rfl (OC1.out.alloc (.cells #[.int .i64 (-8), .int .i64 (-8), .int .i64 (-8), .int .i64 (-8)] 2)) ⟨wa.heap.size, 0, none⟩ 4 4 [-8, -8, -8, -8] rfl rfl (news4 wa (-8)) (by decide) (by have := HL.out; simp; omega) (by have := WA.out; simp; omega) CA (by simp; exact HCA.out) ?_; intro g2 c2 wb o2 x2 y2 _; have OB := hid o2; have XB := hid x2; have YB := hid y2; clear o2 x2 y2 q9)
            | (at_builtin; refine wpList_app rfl (.tmp 164) (.tmp 165) rfl v2.heap.size (.slice (some ⟨ga, 0, none⟩) N ca) (List.replicate N (-7)) rfl (OA.out.alloc (.cells #[.int .i64 (-8), .int .i64 (-8), .int .i64 (-8), .int .i64 (-8)] 2)) ⟨wr.heap.size, 0, none⟩ 4 4 [-8, -8, -8, -8] rfl rfl (news4 wr (-8)) (by decide) (by have := HL.out; simp; omega) (by have := WS.out; simp; omega) NA (by simp; exact HNA.out) ?_; intro g1 c1 wa o1 x1 y1 _; have OA1 := hid o1; have XA := hid x1; have YA := hid y1; have OC1 : Hid (Own v2.heap.size (.slice (some ⟨gc, 0, none⟩) (M - 1) cc) (List.replicate (M - 1) (-7)) wa) := row_own (row_grown S2.out x1 (fun e => NE.out.1 (by simpa [Value.ownBlock] using e.symm))) (by have := BL.out; omega) KC.out.1 KC.out.2.1 (fun i hi => by simp [hi]); have WA : Hid (v2.heap.size ≤ wa.heap.size) := Nat.le_trans WS.out.1 (Nat.le_trans (by simp) x1.size); clear o1 x1 y1))
          have FX : Hid (AbS V P wb ∧ wb.rowIs bw 2 (M + 2) (fun i => .int .i64 (fitF lw fw false i)) ∧ wb.cell? ⟨g1, N + 3, none⟩ = some (.int .i64 (-8)) ∧ wb.cell? ⟨g2, M - 1 + 3, none⟩ = some (.int .i64 (-8)) ∧ g1 ≠ bw ∧ g2 ≠ bw) := by
            have hn := NE.out
            have hw := WS.out
            have hs : wr.heap.size ≤ wa.heap.size := Nat.le_trans (by simp) XA.out.size
            have y1 : ga = g1 ∨ g1 = wr.heap.size + 1 := by have := YA.out; simpa [Value.ownBlock] using this
            have y2 : gc = g2 ∨ g2 = wa.heap.size + 1 := by have := YB.out; simpa [Value.ownBlock] using this
            have z1 : AbS V P wa := (Y0.out.to (Ab.alloc (Ab.refl wr) _)).grown XA.out (fun b e => .inl (by have e2 : ga = b := (Option.some.inj e); exact e2 ▸ PP.out.1))
            have z2 : AbS V P wb := (z1.to (Ab.alloc (Ab.refl wa) _)).grown XB.out (fun b e => .inl (by have e2 : gc = b := (Option.some.inj e); exact e2 ▸ PP.out.2.1))
            refine ⟨z2, row_grown (row_grown S3.out XA.out (fun e => hn.2.1 (by simpa [Value.ownBlock] using e.symm))) XB.out (fun e => hn.2.2 (by simpa [Value.ownBlock] using e.symm)), cell_grown (last_own OA1.out) XB.out (fun e => ?_), last_own OB.out, ?_, ?_⟩
            · have e2 : g1 = gc := by simpa [Value.ownBlock] using e
              omega
            · omega
            · omega
          have Q0 := hid FX.out.1
          have Q3 := hid FX.out.2.1
          have Q4 := hid FX.out.2.2.1
          have Q5 := hid FX.out.2.2.2.1
          have NB : Hid (g1 ≠ bw ∧ g2 ≠ bw) := FX.out.2.2.2.2
          clear FX S1 S2 S3 Y0 OA OC OA1 OC1 OB XA XB YA YB WS WA
          go_loopw [28] (fun iv wr => ∃ c : Nat, c ≤ (M + 2) ∧ iv = .int .i64 (c : Nat) ∧ AbS V P wr ∧ wr.rowIs bw 2 (M + 2) (fun i => if i < c then .int .i64 0 else .int .i64 (fitF lw fw false i)) ∧ wr.cell? ⟨g1, N + 3, none⟩ = some (.int .i64 (-8)) ∧ wr.cell? ⟨g2, M - 1 + 3, none⟩ = some (.int .i64 (-8))) (fun iv _ => (M + 2) - (intOf iv).toNat)
          case atStart => exact ⟨0, by omega, rfl, Q0.out, Q3.out.congr (fun i _ => by simp), Q4.out, Q5.out⟩
          case round =>
            obtain ⟨c, hc, rfl, hY0, hS3, hS4, hS5⟩ := hrel
            have ZY0 := hid hY0
            have ZS3 := hid hS3
            have ZS4 := hid hS4
            have ZS5 := hid hS5
            clear hY0 hS3 hS4 hS5 Q0 Q3 Q4 Q5
            have Y0 := ZY0
            have S3 := ZS3
            have S4 := ZS4
            have S5 := ZS5
            clear ZY0 ZS3 ZS4 ZS5
            by_cases hcN : c < (M + 2)
            · have HC := hid hcN
              have hcI : (c : Int) < ((M + 2 : Nat) : Int) := by omega
              have hcB : (c : Int) ≤ 65536 := by have := HL.out; omega
              have hcJ : (c : Int) < (M : Int) + 2 := by omega
              have xc := S3.out.cell (show c < M + 2 by exact HC.out)
              obtain ⟨xv, hxv⟩ : ∃ v, (if c < c then Value.int .i64 0 else .int .i64 (fitF lw fw false c)) = v := ⟨_, rfl⟩
              rw [hxv] at xc
              have xf := S3.out.frozen c
              clear hxv
              go_wp2
              refine ⟨⟨c + 1, by have := HC.out; omega, by simp, Y0.out.set PP.out.2.2.1 _, (S3.out.set c _).congr (fun i _ => ?_), cell_set_ne S4.out NB.out.1, cell_set_ne S5.out NB.out.2⟩, by have := HC.out; simp [intOf]; omega⟩
              · by_cases e : i = c
                · simp [e]
                · by_cases l : i < c
                  · simp [e, l, show i < c + 1 by omega]
                  · simp [e, l, show ¬ i < c + 1 by omega]
            · obtain rfl : c = M + 2 := by omega
              go_upto_region 33 with fail
              have AY : Hid (Ab v2 wr) := Y0.out.ab AW7.out PP.out.2.2.2.2.2.2.2.2.2
              have GY : Hid (GridOf n gb wr) := G2.out.to AY.out
              have RZ : Hid (wr.rowIs bw 2 (M + 2) (fun _ => .int .i64 0)) := S3.out.congr (fun i hi => by simp [hi])
              have RF7 := hid (Y0.out.row J6.out PP.out.2.2.2.2.2.2.2.2.1)
              have AD0 := Ab.refl wr
              have AD := (Ab.refl wr).drew
              go_region_held3 (fun w' => Ab wr w') (((with_reducible (repeat (first | assumption | apply Ab.drew | apply Ab.alloc))); done)) (first
                | (go_at_call 10; refine (HZ.out gb _ bw bf (GY.out.to AD) (row_ab RZ.out AD) (row_ab RF7.out AD)).mono ?_; rintro e9 wy ⟨ly, rfl, b3, o3⟩; have A3 := Ab.call AD b3; have Oy := hid o3; clear b3 o3))
              have AY3 : Hid (Ab wr wy) := A3
              clear A3 AD AD0
              obtain ⟨gy, cy, Fy, hly, lgy, ncy, mcy, rwy, hfy⟩ := own_two Oy.out (by have := HL.out; omega)
              subst hly
              have Y1 := hid (Y0.out.to AY3.out)
              have T4 := hid (cell_ab S4.out AY3.out)
              have T5 := hid (cell_ab S5.out AY3.out)
              have RY := hid rwy
              have KY : Hid (N ≤ cy ∧ ∀ i, i < N → Fy i = .int .i64 0) := ⟨ncy, hfy⟩
              clear S3 S4 S5 Y0 AY GY RZ RF7 AY3 Oy lgy ncy mcy rwy hfy
              go_upto_region 34 with fail
              go_wp2
              go_loopw [30] (fun iv wr => ∃ c : Nat, c ≤ N ∧ iv = .int .i64 (c : Nat) ∧ Ab wy wr) (fun iv _ => N - (intOf iv).toNat)
              case atStart => exact ⟨0, by omega, rfl, Ab.refl wy⟩
              case round =>
                obtain ⟨c, hc, rfl, hR0⟩ := hrel
                have ZR0 := hid hR0
                clear hR0
                have R0 := ZR0
                clear ZR0
                by_cases hcN : c < N
                · have HC := hid hcN
                  have hcI : (c : Int) < (N : Int) := by omega
                  have hcB : (c : Int) ≤ 65536 := by have := HL.out; omega
                  have xc := (row_ab RY.out R0.out).cell (show c < cy by have := KY.out.1; have := HC.out; omega)
                  rw [KY.out.2 c HC.out] at xc
                  go_wp2
                  exact ⟨⟨c + 1, by have := HC.out; omega, by simp, R0.out⟩, by have := HC.out; simp [intOf]; omega⟩
                · have e6 : N = c := by omega
                  subst e6
                  have Y2 := hid (Y1.out.to R0.out)
                  have I1 := hid (Y2.out.isI J1.out PP.out.2.2.2.1)
                  have I2 := hid (Y2.out.isI J2.out PP.out.2.2.2.2.2.1)
                  have I3 := hid (Y2.out.isI J3.out PP.out.2.2.2.2.1)
                  have I4 := hid (Y2.out.isI J4.out PP.out.2.2.2.2.2.2.1)
                  have I5 := hid (Y2.out.isI J5.out PP.out.2.2.2.2.2.2.2.1)
                  have I6 := hid (row_in (Y2.out.row J6.out PP.out.2.2.2.2.2.2.2.2.1) (fun i _ => by have := fit_in lf ff true i; omega))
                  have C4 := hid (cell_ab T4.out R0.out)
                  have C5 := hid (cell_ab T5.out R0.out)
                  have e0 : (((0 : Int)) == 0) = true := by decide
                  go_wp2_with fail
                  refine (same_at (some ⟨gq, 0, none⟩) (some ⟨gx, 0, none⟩) N cq cx G wr (by have := HL.out; omega) (I1.out.below (Ab.refl wr)) (I2.out.below (Ab.refl wr))).mono ?_
                  rintro e9 s0 ⟨rfl, b3⟩
                  have D0 : Hid (Ab wr s0) := Ab.trans (Ab.refl wr) b3
                  clear b3
                  go_wp2_with fail
                  refine (same_at (some ⟨gk, 0, none⟩) (some ⟨gz, 0, none⟩) (M - 1) ck cz Cv s0 (by have := HL.out; omega) (I3.out.below D0.out) (I4.out.below D0.out)).mono ?_
                  rintro e9 s1 ⟨rfl, b3⟩
                  have D1 : Hid (Ab wr s1) := Ab.trans D0.out b3
                  clear b3
                  go_wp2_with fail
                  refine (same_at (some ⟨gv, 0, none⟩) (some ⟨bf, 0, none⟩) (N + 2) cv (N + 2) (fitF lf ff true) s1 (by have := HL.out; omega) (I5.out.below D1.out) (I6.out.below D1.out)).mono ?_
                  rintro e9 s2 ⟨rfl, b3⟩
                  have D2 : Hid (Ab wr s2) := Ab.trans D1.out b3
                  clear b3
                  have v4 : wrap64 ((NA : Int) - 1) = ((N + 3 : Nat) : Int) := by have := HNA.out; have := HL.out; unfold wrap64; omega
                  have v5 : wrap64 ((CA : Int) - 1) = ((M - 1 + 3 : Nat) : Int) := by have := HCA.out; have := HL.out; unfold wrap64; omega
                  have c4 : s2.cell? ⟨g1, (wrap64 ((NA : Int) - 1)).toNat, none⟩ = some (.int .i64 (-8)) := by rw [v4, Int.toNat_natCast]; exact cell_ab C4.out D2.out
                  have c5 : s2.cell? ⟨g2, (wrap64 ((CA : Int) - 1)).toNat, none⟩ = some (.int .i64 (-8)) := by rw [v5, Int.toNat_natCast]; exact cell_ab C5.out D2.out
                  have a4 : 0 ≤ wrap64 ((NA : Int) - 1) := by rw [v4]; omega
                  have b4 : wrap64 ((NA : Int) - 1) < (NA : Int) := by rw [v4]; have := HNA.out; omega
                  have a5 : 0 ≤ wrap64 ((CA : Int) - 1) := by rw [v5]; omega
                  have b5 : wrap64 ((CA : Int) - 1) < (CA : Int) := by rw [v5]; have := HCA.out; omega
                  clear v4 v5
                  go_wp2_with fail
                  go_ret
                  exact ⟨rfl, A2.out.trans ((Y2.out.ab AW7.out PP.out.2.2.2.2.2.2.2.2.2).trans D2.out)⟩
end Sh
end Go.Proofs.YtjmifofplkoehaaDoor

namespace Go.Proofs.YtjmifofplkoehaaDoor
open Go.RowKit Go.Deep Cu
namespace Sh
theorem side4 (side : Int) : ∃ n : Nat, 1 ≤ n ∧ n ≤ 4 ∧ wrap64 (1 + wrap64 ((IntKind.u64.wrap side).tmod 4)) = (n : Nat) := by
  have w0 : 0 ≤ IntKind.u64.wrap side := by rw [wrapu]; omega
  rw [tmod_e w0]
  unfold wrap64
  refine ⟨(1 + IntKind.u64.wrap side % 4).toNat, by omega, by omega, by omega⟩
theorem sumN_const (m : Int) : ∀ n : Nat, sumN (fun _ => m) n = m * n
  | 0 => by simp [sumN]
  | n + 1 => by
    show sumN (fun _ => m) n + m = m * ((n + 1 : Nat) : Int)
    rw [sumN_const m n, Int.natCast_add, Int.mul_add]
    simp
theorem keeps_at (PC : PartC) (CU : CutC) (AC : AllC) (side : Int) {pw pf : Option Addr} {lw cw lf cf : Nat} {fw ff : Nat → Int} (w : World) (hF : Fr w) (iw : IsI w pw lw fw) (if_ : IsI w pf lf ff) :
    Calls Tryd.prog 4 #[.int .i64 side, .slice pw lw cw, .slice pf lf cf] w fun e w' => e = .returned (.bool true) ∧ Below w.heap.size w w' := by
  obtain ⟨n, n1, n8, e8⟩ := side4 side
  have hn : 1 ≤ n ∧ n ≤ 32 := by omega
  have en : (6 ≤ 6 * n * n ∧ 6 * n * n ≤ 96) ∧ 12 ≤ 12 * n * n ∧ 12 * n * n ≤ 192 := by
    have h := Nat.mul_le_mul n8 n8
    have h2 := Nat.mul_le_mul hn.1 hn.1
    rw [Nat.mul_assoc, Nat.mul_assoc]
    omega
  have W0 : ∀ c, c < 6 * n * n → 0 ≤ fitF lw fw false c := fun c _ => fit_nn lw fw c
  have F0 : ∀ e, e < 12 * n * n → -4503599627370496 ≤ fitF lf ff true e ∧ fitF lf ff true e ≤ 4503599627370496 := fun e _ => fit_in lf ff true e
  have gd : good (fitF lw fw false 0) (6 * n * n - 1) (fun i => fitF lw fw false (1 + i)) := by
    refine ⟨fit_nn lw fw 0, fun i _ => fit_nn lw fw _, ?_⟩
    have h := sumN_le (f := fun i => fitF lw fw false (1 + i)) (g := fun _ => 4503599627370496) (n := 6 * n * n - 1) (fun i _ => (fit_in lw fw false _).2)
    rw [sumN_const] at h
    omega
  refine keeps_go n (6 * n * n) (12 * n * n) side (allF n (fitF lw fw false) (fitF lf ff true)) (fun i => cut1 (fitF lw fw false 0) (sumN (fun i => fitF lw fw false (1 + i)) (6 * n * n - 1)) (fitF lw fw false (1 + i))) w (fun v _ => awake_at PC CU v) ?_ (fun gb v g => gCells_at g) (fun gb v g => gEdges_at g) ?_ ?_ ?_ ?_ iw if_ ⟨by omega, by omega, by omega, by omega⟩
  · intro v hv
    rw [e8]
    refine (new_at n v hn (hF.to hv)).mono ?_
    rintro e' w' ⟨gb, rfl, a, -, g⟩
    exact ⟨gb, rfl, a, g⟩
  · intro gb v b1 b2 g rw_ rf
    have I1 := rowpart_in (n := 6 * n * n) (x := fitF lw fw false) rw_ (by omega) (fun _ _ => rfl) (fun i _ => by have := fit_in lw fw false i; unfold W64; omega)
    have I2 := rowpart_in (n := 12 * n * n) (x := fitF lf ff true) rf (by omega) (fun _ _ => rfl) (fun i _ => by have := fit_in lf ff true i; unfold W64; omega)
    exact (AC n gb (some ⟨b1, 0, none⟩) _ _ _ (some ⟨b2, 0, none⟩) _ _ _ v hn g (by omega) (by omega) I1 I2).1 ⟨rfl, rfl, W0, F0⟩
  · intro v b1 rw_
    have I1 : IsI v (some ⟨b1, 1, none⟩) (6 * n * n - 1) (fun i => fitF lw fw false (1 + i)) := fun k hk => ⟨by have := fit_in lw fw false (1 + k); show _ ≤ fitF lw fw false (1 + k) ∧ fitF lw fw false (1 + k) ≤ _; omega, b1, 1, rfl, rw_.lt, rw_.cell (show 1 + k < 6 * n * n + 2 by omega)⟩
    exact (CU _ _ _ _ _ v (by have := fit_in lw fw false 0; unfold W64; omega) (by omega) I1).1 gd
  · intro gb v b1 b2 g rw_ rf
    have I1 := rowpart_in (n := 6 * n * n) (x := fun _ => 0) rw_ (by omega) (fun _ _ => rfl) (fun i _ => by unfold W64; omega)
    have I2 := rowpart_in (n := 12 * n * n) (x := fitF lf ff true) rf (by omega) (fun _ _ => rfl) (fun i _ => by have := fit_in lf ff true i; unfold W64; omega)
    refine ((AC n gb (some ⟨b1, 0, none⟩) _ _ _ (some ⟨b2, 0, none⟩) _ _ _ v hn g (by omega) (by omega) I1 I2).1 ⟨rfl, rfl, fun _ _ => Int.le_refl _, F0⟩).mono ?_
    rintro e' w' ⟨l, rfl, b, o⟩
    refine ⟨l, rfl, b, ?_⟩
    have e : (List.range (12 * n * n)).map (allF n (fun _ => 0) (fitF lf ff true)) = (List.range (12 * n * n)).map (fun _ => (0 : Int)) := List.map_congr_left (fun i hi => allF_none hn.1 (List.mem_range.1 hi) F0)
    rwa [e] at o
  · refine ⟨fun i hi => ?_, fun i hi => ?_⟩
    · have := allF_in (W := fitF lw fw false) hn.1 hi W0 F0
      unfold W64
      omega
    · have c := cutL_in gd hi
      have d := fit_in lw fw false (1 + i)
      unfold W64
      omega
end Sh
end Go.Proofs.YtjmifofplkoehaaDoor

namespace Go.Proofs.YtjmifofplkoehaaDoor
open Go.ChangeShapes Go.WideShapes Go.ChangeAt Go.WideMaps Go.WideElems Go.RowKit Go.Deep
namespace Sh
theorem trod_int {H : Type} {enc : TypeId × Value → H} {P : Program} {w : World} {base : Nat} {spare : Nat → Bool} {held : Bool} {t : TypeId} {fuel : Nat} {v : Value} {x : DataW H × List MemPlace} (ht : P.underlying t = some (.int .i64)) (h : DataW.trod enc P w base spare held fuel t [v] = some x) :
    ∃ b, v = .int .i64 b ∧ (-9223372036854775808 ≤ b ∧ b ≤ 9223372036854775807) := by
  obtain ⟨k, e, _, wf⟩ := DataW.trod_int ht h
  simp at e
  simp only [Lit.wf, Bool.and_eq_true, decide_eq_true_eq] at wf
  have q1 : IntKind.i64.min = -9223372036854775808 := by decide
  have q2 : IntKind.i64.max = 9223372036854775807 := by decide
  rw [q1, q2] at wf
  exact ⟨k, e, wf⟩
theorem cell_block {w : World} {a : Addr} {v : Value} (h : w.cell? a = some v) : a.block < w.heap.size := by
  by_cases c : a.block < w.heap.size
  · exact c
  · exfalso
    have : w.heap[a.block]? = none := by simp; omega
    simp [World.cell?, this] at h
theorem pick_fn {α : Type} {n : Nat} {R : Nat → α → Prop} (d : α) (h : ∀ i, i < n → ∃ x, R i x) : ∃ f : Nat → α, ∀ i, i < n → R i (f i) := by
  have : ∀ i, ∃ x, i < n → R i x := fun i => by
    by_cases c : i < n
    · obtain ⟨x, h1⟩ := h i c
      exact ⟨x, fun _ => h1⟩
    · exact ⟨d, fun h => absurd h c⟩
  exact ⟨fun i => (this i).choose, fun i hi => (this i).choose_spec hi⟩
theorem list_open {H : Type} {enc : TypeId × Value → H} {W : World} {cs : List Value} {fuel : Nat} {x : DataW H × List MemPlace}
    (hf : DataW.trod enc Tryd.prog W 0 (fun _ => true) true fuel 22 cs = some x) : ∃ a0 len cap xs, cs = [.slice a0 len cap] ∧ IsI W a0 len xs ∧ len ≤ cap ∧ cap ≤ maxLen := by
  rcases open_slice1 Tryd.underlying22 (by kernel_rfl) hf with ⟨hcs, _⟩ | ⟨a, l, c, m, n, V, D, Pl, hcs, _, hl, hm, hmm, _, hx⟩
  · exact ⟨none, 0, 0, fun _ => 0, hcs, fun k hk => by omega, Nat.le_refl _, Nat.zero_le _⟩
  · simp only [if_true] at hmm
    have each : ∀ i, i < l → ∃ x : Int, W.cell? (a.add i) = some (.int .i64 x) ∧ (-9223372036854775808 ≤ x ∧ x ≤ 9223372036854775807) := by
      intro i hi
      obtain ⟨h1, h2⟩ := hx i (by omega)
      obtain ⟨x, e, wx⟩ := trod_int Tryd.underlying2 h2
      rw [e] at h1
      exact ⟨x, h1, wx⟩
    obtain ⟨f, hf⟩ := pick_fn 0 each
    refine ⟨some a, l, c, f, hcs, fun k hk => ⟨(hf k hk).2, ?_⟩, hl, hm⟩
    have h0 := (hf k hk).1
    have z := (hf 0 (by omega)).1
    obtain ⟨b, off, spot⟩ := a
    have hspot : spot = none := by simpa [Addr.add] using World.cell?_spot z
    subst hspot
    rw [add_off] at h0
    exact ⟨b, off, rfl, cell_block h0, h0⟩
end Sh
end Go.Proofs.YtjmifofplkoehaaDoor

namespace Go.Proofs.YtjmifofplkoehaaDoor
open Go.RowKit Go.Deep
namespace Sh
set_option maxRecDepth 100000 in
theorem bel_at (x : Int) (w : World) : Calls Tryd.prog 26 #[.int .i64 x] w fun e w' => e = .returned (.bool (decide (x < 0))) ∧ w' = w := by
  go_enter Tryd.func26, Tryd.ntmps26
  go_wp2
  go_ret
  exact ⟨rfl, rfl⟩
/-- too great a flow -/
def far (x : Int) : Bool := decide (x < -4503599627370496) || decide (4503599627370496 < x)
set_option maxRecDepth 100000 in
theorem far_at (x : Int) (w : World) : Calls Tryd.prog 27 #[.int .i64 x] w fun e w' => e = .returned (.bool (far x)) ∧ w' = w := by
  cases h1 : decide (x < -4503599627370496) with
  | true =>
    have F : Hid (far x = true) := by show _ = _; unfold far; rw [h1]; rfl
    go_enter Tryd.func27, Tryd.ntmps27
    go_wp2
    go_ret
    exact ⟨by rw [F.out]; rfl, rfl⟩
  | false =>
    cases h2 : decide (4503599627370496 < x) with
    | true =>
      have F : Hid (far x = true) := by show _ = _; unfold far; rw [h1, h2]; rfl
      go_enter Tryd.func27, Tryd.ntmps27
      go_wp2
      go_ret
      exact ⟨by rw [F.out]; rfl, rfl⟩
    | false =>
      have F : Hid (far x = false) := by show _ = _; unfold far; rw [h1, h2]; rfl
      go_enter Tryd.func27, Tryd.ntmps27
      go_wp2
      go_ret
      exact ⟨by rw [F.out]; rfl, rfl⟩
set_option maxRecDepth 100000 in
set_option maxHeartbeats 8000000 in
theorem idxbel_no (p : Option Addr) (n cp : Nat) (f : Nat → Int) (w : World) (hn : n ≤ 65536) (hf : IsI w p n f) (HA : Hid (∀ i, i < n → decide (f i < 0) = false)) :
    Calls Tryd.prog 39 #[.slice p n cp, .func (.func 26) #[] #[]] w fun e w' => e = .returned (.int .i64 (-1)) ∧ w' = w := by
  have HF := hid hf
  have HN := hid hn
  clear hf hn
  go_enter Tryd.func39, Tryd.ntmps39
  go_wp2
  go_loopw [8] (fun iv wr => ∃ c : Nat, c ≤ n ∧ iv = .int .i64 (c : Nat) ∧ wr = w) (fun iv _ => n - (intOf iv).toNat)
  case atStart => exact ⟨0, by omega, rfl, rfl⟩
  case round =>
    obtain ⟨c, hc, rfl, hwr⟩ := hrel
    have hwr2 := hwr.symm
    subst hwr2
    by_cases hcn : c < n
    · have HC := hid hcn
      have hcI : (c : Int) < n := by omega
      have hcB : (c : Int) ≤ 65536 := by have := HN.out; omega
      obtain ⟨b0, o0, rfl⟩ := HF.out.some0 (show 0 < n by omega)
      obtain ⟨x, hx⟩ : ∃ x, f c = x := ⟨_, rfl⟩
      have at0 := HF.out.at0 hcn
      have hp := HA.out c hcn
      rw [hx] at at0 hp
      have xc := at0.2.2
      have CF := hid (bel_at x w)
      rw [hp] at CF
      clear at0 hx hcn hc hp
      go_wp2_with fail
      refine CF.out.mono ?_
      rintro e9 v9 ⟨rfl, hv9⟩
      have hv8 := hv9.symm
      subst hv8
      go_wp2
      exact ⟨⟨c + 1, by have := HC.out; omega, by simp, by first | trivial | rfl⟩, by have := HC.out; simp [intOf]; omega⟩
    · have e6 : n = c := by omega
      subst e6
      go_wp2
      go_ret
      exact ⟨rfl, by first | trivial | rfl⟩
set_option maxRecDepth 100000 in
set_option maxHeartbeats 8000000 in
theorem idxbel_yes (p : Option Addr) (n cp : Nat) (f : Nat → Int) (w : World) (hn : n ≤ 65536) (hf : IsI w p n f) (HA : Hid (¬ ∀ i, i < n → decide (f i < 0) = false)) :
    Calls Tryd.prog 39 #[.slice p n cp, .func (.func 26) #[] #[]] w fun e w' => (∃ i : Nat, i ≤ 65536 ∧ e = .returned (.int .i64 (i : Nat))) ∧ w' = w := by
  have HF := hid hf
  have HN := hid hn
  clear hf hn
  go_enter Tryd.func39, Tryd.ntmps39
  go_wp2
  go_loopw [8] (fun iv wr => ∃ c : Nat, c ≤ n ∧ iv = .int .i64 (c : Nat) ∧ (∀ i, i < c → decide (f i < 0) = false) ∧ wr = w) (fun iv _ => n - (intOf iv).toNat)
  case atStart => exact ⟨0, by omega, rfl, fun i hi => absurd hi (Nat.not_lt_zero i), rfl⟩
  case round =>
    obtain ⟨c, hc, rfl, g1, hwr⟩ := hrel
    have hwr2 := hwr.symm
    subst hwr2
    have G1 := hid g1
    clear g1
    by_cases hcn : c < n
    · have HC := hid hcn
      have hcI : (c : Int) < n := by omega
      have hcB : (c : Int) ≤ 65536 := by have := HN.out; omega
      obtain ⟨b0, o0, rfl⟩ := HF.out.some0 (show 0 < n by omega)
      obtain ⟨x, hx⟩ : ∃ x, f c = x := ⟨_, rfl⟩
      have at0 := HF.out.at0 hcn
      rw [hx] at at0
      have xc := at0.2.2
      have CF := hid (bel_at x w)
      have XE := hid hx
      clear at0 hx hcn hc
      cases hp : decide (x < 0) with
      | true =>
        rw [hp] at CF
        have hp2 := hid hp
        clear hp
        go_wp2_with fail
        refine CF.out.mono ?_
        rintro e9 v9 ⟨rfl, hv9⟩
        have hv8 := hv9.symm
        subst hv8
        go_wp2
        go_ret
        exact ⟨⟨c, by have := HC.out; have := HN.out; omega, rfl⟩, by first | trivial | rfl⟩
      | false =>
        rw [hp] at CF
        have hp2 := hid hp
        clear hp
        go_wp2_with fail
        refine CF.out.mono ?_
        rintro e9 v9 ⟨rfl, hv9⟩
        have hv8 := hv9.symm
        subst hv8
        go_wp2
        refine ⟨⟨c + 1, by have := HC.out; omega, by simp, fun i hi => ?_, by first | trivial | rfl⟩, by have := HC.out; simp [intOf]; omega⟩
        by_cases l : i < c
        · exact G1.out i l
        · obtain rfl : i = c := by omega
          rw [XE.out]
          exact hp2.out
    · have e6 : n = c := by omega
      subst e6
      exact absurd G1.out HA.out
set_option maxRecDepth 100000 in
set_option maxHeartbeats 4000000 in
theorem hasbel_no (p : Option Addr) (n cp : Nat) (f : Nat → Int) (w : World) (hn : n ≤ 65536) (hf : IsI w p n f) (HA : ∀ i, i < n → decide (f i < 0) = false) :
    Calls Tryd.prog 25 #[.slice p n cp, .func (.func 26) #[] #[]] w fun e w' => e = .returned (.bool false) ∧ w' = w := by
  have IX := hid (idxbel_no p n cp f w hn hf HA)
  clear hn hf HA
  go_enter Tryd.func25, Tryd.ntmps25
  go_wp2_with fail
  refine IX.out.mono ?_
  rintro e9 v9 ⟨rfl, hv9⟩
  have hv8 := hv9.symm
  subst hv8
  go_wp2
  go_ret
  exact ⟨rfl, rfl⟩
set_option maxRecDepth 100000 in
set_option maxHeartbeats 4000000 in
theorem hasbel_yes (p : Option Addr) (n cp : Nat) (f : Nat → Int) (w : World) (hn : n ≤ 65536) (hf : IsI w p n f) (HA : ¬ ∀ i, i < n → decide (f i < 0) = false) :
    Calls Tryd.prog 25 #[.slice p n cp, .func (.func 26) #[] #[]] w fun e w' => e = .returned (.bool true) ∧ w' = w := by
  have IX := hid (idxbel_yes p n cp f w hn hf HA)
  clear hn hf HA
  go_enter Tryd.func25, Tryd.ntmps25
  go_wp2_with fail
  refine IX.out.mono ?_
  rintro e9 v9 ⟨⟨i, hi, rfl⟩, hv9⟩
  have hv8 := hv9.symm
  subst hv8
  go_wp2
  go_ret
  exact ⟨rfl, rfl⟩
set_option maxRecDepth 100000 in
set_option maxHeartbeats 8000000 in
theorem idxfar_no (p : Option Addr) (n cp : Nat) (f : Nat → Int) (w : World) (hn : n ≤ 65536) (hf : IsI w p n f) (HA : Hid (∀ i, i < n → far (f i) = false)) :
    Calls Tryd.prog 39 #[.slice p n cp, .func (.func 27) #[] #[]] w fun e w' => e = .returned (.int .i64 (-1)) ∧ w' = w := by
  have HF := hid hf
  have HN := hid hn
  clear hf hn
  go_enter Tryd.func39, Tryd.ntmps39
  go_wp2
  go_loopw [8] (fun iv wr => ∃ c : Nat, c ≤ n ∧ iv = .int .i64 (c : Nat) ∧ wr = w) (fun iv _ => n - (intOf iv).toNat)
  case atStart => exact ⟨0, by omega, rfl, rfl⟩
  case round =>
    obtain ⟨c, hc, rfl, hwr⟩ := hrel
    have hwr2 := hwr.symm
    subst hwr2
    by_cases hcn : c < n
    · have HC := hid hcn
      have hcI : (c : Int) < n := by omega
      have hcB : (c : Int) ≤ 65536 := by have := HN.out; omega
      obtain ⟨b0, o0, rfl⟩ := HF.out.some0 (show 0 < n by omega)
      obtain ⟨x, hx⟩ : ∃ x, f c = x := ⟨_, rfl⟩
      have at0 := HF.out.at0 hcn
      have hp := HA.out c hcn
      rw [hx] at at0 hp
      have xc := at0.2.2
      have CF := hid (far_at x w)
      rw [hp] at CF
      clear at0 hx hcn hc hp
      go_wp2_with fail
      refine CF.out.mono ?_
      rintro e9 v9 ⟨rfl, hv9⟩
      have hv8 := hv9.symm
      subst hv8
      go_wp2
      exact ⟨⟨c + 1, by have := HC.out; omega, by simp, by first | trivial | rfl⟩, by have := HC.out; simp [intOf]; omega⟩
    · have e6 : n = c := by omega
      subst e6
      go_wp2
      go_ret
      exact ⟨rfl, by first | trivial | rfl⟩
set_option maxRecDepth 100000 in
set_option maxHeartbeats 8000000 in
theorem idxfar_yes (p : Option Addr) (n cp : Nat) (f : Nat → Int) (w : World) (hn : n ≤ 65536) (hf : IsI w p n f) (HA : Hid (¬ ∀ i, i < n → far (f i) = false)) :
    Calls Tryd.prog 39 #[.slice p n cp, .func (.func 27) #[] #[]] w fun e w' => (∃ i : Nat, i ≤ 65536 ∧ e = .returned (.int .i64 (i : Nat))) ∧ w' = w := by
  have HF := hid hf
  have HN := hid hn
  clear hf hn
  go_enter Tryd.func39, Tryd.ntmps39
  go_wp2
  go_loopw [8] (fun iv wr => ∃ c : Nat, c ≤ n ∧ iv = .int .i64 (c : Nat) ∧ (∀ i, i < c → far (f i) = false) ∧ wr = w) (fun iv _ => n - (intOf iv).toNat)
  case atStart => exact ⟨0, by omega, rfl, fun i hi => absurd hi (Nat.not_lt_zero i), rfl⟩
  case round =>
    obtain ⟨c, hc, rfl, g1, hwr⟩ := hrel
    have hwr2 := hwr.symm
    subst hwr2
    have G1 := hid g1
    clear g1
    by_cases hcn : c < n
    · have HC := hid hcn
      have hcI : (c : Int) < n := by omega
      have hcB : (c : Int) ≤ 65536 := by have := HN.out; omega
      obtain ⟨b0, o0, rfl⟩ := HF.out.some0 (show 0 < n by omega)
      obtain ⟨x, hx⟩ : ∃ x, f c = x := ⟨_, rfl⟩
      have at0 := HF.out.at0 hcn
      rw [hx] at at0
      have xc := at0.2.2
      have CF := hid (far_at x w)
      have XE := hid hx
      clear at0 hx hcn hc
      cases hp : far (x) with
      | true =>
        rw [hp] at CF
        have hp2 := hid hp
        clear hp
        go_wp2_with fail
        refine CF.out.mono ?_
        rintro e9 v9 ⟨rfl, hv9⟩
        have hv8 := hv9.symm
        subst hv8
        go_wp2
        go_ret
        exact ⟨⟨c, by have := HC.out; have := HN.out; omega, rfl⟩, by first | trivial | rfl⟩
      | false =>
        rw [hp] at CF
        have hp2 := hid hp
        clear hp
        go_wp2_with fail
        refine CF.out.mono ?_
        rintro e9 v9 ⟨rfl, hv9⟩
        have hv8 := hv9.symm
        subst hv8
        go_wp2
        refine ⟨⟨c + 1, by have := HC.out; omega, by simp, fun i hi => ?_, by first | trivial | rfl⟩, by have := HC.out; simp [intOf]; omega⟩
        by_cases l : i < c
        · exact G1.out i l
        · obtain rfl : i = c := by omega
          rw [XE.out]
          exact hp2.out
    · have e6 : n = c := by omega
      subst e6
      exact absurd G1.out HA.out
set_option maxRecDepth 100000 in
set_option maxHeartbeats 4000000 in
theorem hasfar_no (p : Option Addr) (n cp : Nat) (f : Nat → Int) (w : World) (hn : n ≤ 65536) (hf : IsI w p n f) (HA : ∀ i, i < n → far (f i) = false) :
    Calls Tryd.prog 25 #[.slice p n cp, .func (.func 27) #[] #[]] w fun e w' => e = .returned (.bool false) ∧ w' = w := by
  have IX := hid (idxfar_no p n cp f w hn hf HA)
  clear hn hf HA
  go_enter Tryd.func25, Tryd.ntmps25
  go_wp2_with fail
  refine IX.out.mono ?_
  rintro e9 v9 ⟨rfl, hv9⟩
  have hv8 := hv9.symm
  subst hv8
  go_wp2
  go_ret
  exact ⟨rfl, rfl⟩
set_option maxRecDepth 100000 in
set_option maxHeartbeats 4000000 in
theorem hasfar_yes (p : Option Addr) (n cp : Nat) (f : Nat → Int) (w : World) (hn : n ≤ 65536) (hf : IsI w p n f) (HA : ¬ ∀ i, i < n → far (f i) = false) :
    Calls Tryd.prog 25 #[.slice p n cp, .func (.func 27) #[] #[]] w fun e w' => e = .returned (.bool true) ∧ w' = w := by
  have IX := hid (idxfar_yes p n cp f w hn hf HA)
  clear hn hf HA
  go_enter Tryd.func25, Tryd.ntmps25
  go_wp2_with fail
  refine IX.out.mono ?_
  rintro e9 v9 ⟨⟨i, hi, rfl⟩, hv9⟩
  have hv8 := hv9.symm
  subst hv8
  go_wp2
  go_ret
  exact ⟨rfl, rfl⟩
end Sh
end Go.Proofs.YtjmifofplkoehaaDoor
