/-
  Some of the texts of this proof, one behind the other.
-/
import Derived.ProofKit
import Derived.OpenShut
import Derived.WalkLawsBesides
import Derived.Stop.Joined
import Derived.Carry
import Derived.Lib.SmallJoins
import Derived.Deep.SlicePairs
import Derived.Deep.Slices
import Derived.Test.YtnnganbcjfkbiaaDoorZ07
namespace Go.Proofs.YtnnganbcjfkbiaaDoor
open Go.RowKit Go.Deep Cu
namespace Tr
open Sh
theorem tmod_none_two (x : Int) (h : 0 ≤ x) : x.tdiv 2 = x / 2 := Int.tdiv_eq_ediv_of_nonneg h
theorem tmod_none_four (x : Int) (h : 0 ≤ x) : x.tdiv 4 = x / 4 := Int.tdiv_eq_ediv_of_nonneg h
theorem two_in (w : World) (a b : Int) (ha : Sh.W64 a) (hb : Sh.W64 b) : IsI (w.alloc (.cells #[.int .i64 a, .int .i64 b] 2)) (some ⟨w.heap.size, 0, none⟩) 2 (fun i => if i = 0 then a else b) := by
  have h := heap_alloc_new w (.cells #[.int .i64 a, .int .i64 b] 2)
  intro k hk
  match k, hk with
  | 0, _ => exact ⟨ha, _, 0, rfl, lt_of_block h, cell_of_row _ _ 0 _ _ _ h⟩
  | 1, _ => exact ⟨hb, _, 0, rfl, lt_of_block h, cell_of_row _ _ 1 _ _ _ h⟩
set_option maxRecDepth 100000 in
set_option maxHeartbeats 32000000 in
theorem tkeeps_go (n M N : Nat) (side : Int) {pw ph pf : Option Addr} {lw cw lh ch lf cf : Nat} {fw fh ff : Nat → Int} (G L Kv : Nat → Int) (w : World)
    (LV : Hid (∀ v, Ab w v → Calls Tryd.prog 5 #[] v fun e w' => e = .returned (.bool true) ∧ Below v.heap.size v w'))
    (NW : Hid (∀ v, Ab w v → Calls Tryd.prog 6 #[.int .i64 (wrap64 (1 + wrap64 ((IntKind.u64.wrap side).tmod 4)))] v fun e w' => ∃ gb, e = .returned (.tuple #[.pointer (some ⟨gb, 0, none⟩), .int .i64 0]) ∧ Ab v w' ∧ GridOf n gb w'))
    (CC : Hid (∀ gb v, GridOf n gb v → Calls Tryd.prog 8 #[.pointer (some ⟨gb, 0, none⟩)] v fun e w' => e = .returned (.int .i64 (M : Nat)) ∧ w' = v)) (CE : Hid (∀ gb v, GridOf n gb v → Calls Tryd.prog 10 #[.pointer (some ⟨gb, 0, none⟩)] v fun e w' => e = .returned (.int .i64 (N : Nat)) ∧ w' = v))
    (HA : Hid (∀ gb v b1 b2, GridOf n gb v → v.rowIs b1 2 (M + 2) (fun i => .int .i64 (fitF lw fw false i)) → v.rowIs b2 2 N (fun i => .int .i64 (fitF lf ff true i)) → Calls Tryd.prog 9 #[.pointer (some ⟨gb, 0, none⟩), .slice (some ⟨b1, 0, none⟩) M (M + 2), .slice (some ⟨b2, 0, none⟩) N N] v fun e w' => ∃ l, e = .returned (.tuple #[l, .int .i64 0]) ∧ Below v.heap.size v w' ∧ Own v.heap.size l ((List.range N).map G) w'))
    (HT : Hid (∀ gb v b1 b2 b3 c3, GridOf n gb v → v.rowIs b1 2 (M + 2) (fun i => .int .i64 (fitF lw fw false i)) → v.rowIs b2 2 (M + 2) (fun i => .int .i64 (fitF lh fh false i)) → IsI v (some ⟨b3, 0, none⟩) N G → Calls Tryd.prog 11 #[.pointer (some ⟨gb, 0, none⟩), .slice (some ⟨b1, 0, none⟩) M (M + 2), .slice (some ⟨b2, 0, none⟩) M (M + 2), .slice (some ⟨b3, 0, none⟩) N c3] v fun e w' => ∃ l, e = .returned (.tuple #[l, .int .i64 0]) ∧ Below v.heap.size v w' ∧ Own v.heap.size l ((List.range N).map L) w'))
    (HK : Hid (∀ v b1, IsI v (some ⟨b1, 0, none⟩) 2 (fun i => if i = 0 then (fitF lw fw false 0).tdiv 2 else (fitF lw fw false 0).tdiv 4) → Calls Tryd.prog 14 #[.int .i64 (fitF lw fw false 0), .int .i64 (fitF lh fh false 0), .slice (some ⟨b1, 0, none⟩) 2 2] v fun e w' => ∃ l, e = .returned (.tuple #[l, .int .i64 0]) ∧ Below v.heap.size v w' ∧ Own v.heap.size l ((List.range 2).map Kv) w'))
    (HZ : Hid (∀ gb v b1 b2 b3 c3, GridOf n gb v → v.rowIs b1 2 (M + 2) (fun i => .int .i64 (fitF lw fw false i)) → v.rowIs b2 2 (M + 2) (fun _ => .int .i64 0) → IsI v (some ⟨b3, 0, none⟩) N G → Calls Tryd.prog 11 #[.pointer (some ⟨gb, 0, none⟩), .slice (some ⟨b1, 0, none⟩) M (M + 2), .slice (some ⟨b2, 0, none⟩) M (M + 2), .slice (some ⟨b3, 0, none⟩) N c3] v fun e w' => ∃ l, e = .returned (.tuple #[l, .int .i64 0]) ∧ Below v.heap.size v w' ∧ Own v.heap.size l ((List.range N).map (fun _ => 0)) w'))
    (HGW : Hid ((∀ i, i < N → Sh.W64 (G i)) ∧ (∀ i, i < N → Sh.W64 (L i)) ∧ (∀ i, i < 2 → Sh.W64 (Kv i))))
    (IW : Hid (IsI w pw lw fw)) (IH : Hid (IsI w ph lh fh)) (IF : Hid (IsI w pf lf ff)) (hl : 6 ≤ M ∧ M ≤ 1024 ∧ 12 ≤ N ∧ N ≤ 1024) :
    Calls Tryd.prog 4 #[.int .i64 side, .slice pw lw cw, .slice ph lh ch, .slice pf lf cf] w fun e w' => e = .returned (.bool true) ∧ Below w.heap.size w w' := by
  have HL := hid hl
  have sM : IntKind.i64.wrap ((M : Int) + 2) = ((M + 2 : Nat) : Int) := by rw [IntKind.wrap_i64]; omega
  have m1 : ((M : Nat) : Int) ≤ ((M + 2 : Nat) : Int) := by omega
  have m2 : (M : Int) ≤ (M : Int) + 2 := by omega
  have m3 : (0 : Int) ≤ (M : Int) := by omega
  have z1 : (0 : Int) < ((M + 2 : Nat) : Int) := by omega
  have z2 : (0 : Int) < (M : Int) + 2 := by omega
  have z3 : 0 < M + 2 := by omega
  clear hl
  go_enter Tryd.func4, Tryd.ntmps4
  go_wp2_with fail
  refine (LV.out _ (Ab.refl w)).mono ?_
  rintro e9 v1 ⟨rfl, b1⟩
  have A1 : Hid (Ab w v1) := b1
  clear b1
  go_wp2_with fail
  refine (NW.out _ A1.out).mono ?_
  rintro e9 v2 ⟨gb, rfl, a2, g2⟩
  have A2 : Hid (Ab w v2) := A1.out.trans a2
  have G2 : Hid (GridOf n gb v2) := g2
  clear a2 g2 A1
  go_wp2_with fail
  refine (CC.out gb v2 G2.out).mono ?_
  rintro e9 v3 ⟨rfl, hv⟩
  have hv2 := hv.symm
  subst hv2
  
  go_wp2_with fail
  try rw [sM]
  refine (fit17_at pw lw cw (M + 2) fw false v2 (IW.out.below A2.out) (by have := HL.out; omega)).mono ?_
  rintro e9 v3 ⟨bw, rfl, b3, r3, l3⟩
  have A3 : Hid (Ab v2 v3) := b3
  have RW3 := hid r3
  have LW := hid l3
  clear b3 r3 l3
  go_wp2_with fail
  try rw [sM]
  refine (fit17_at ph lh ch (M + 2) fh false v3 (IH.out.below (A2.out.trans A3.out)) (by have := HL.out; omega)).mono ?_
  rintro e9 v4 ⟨bh, rfl, b4, r4, l4⟩
  have A4 : Hid (Ab v2 v4) := A3.out.trans b4
  have RH4 := hid r4
  have RW4 := hid (row_ab RW3.out b4)
  have LH := hid l4
  have LWH : Hid (bw < bh) := by have h1 := RW3.out.lt; have h2 := l4; show _ < _; omega
  clear b4 r4 l4 RW3 A3
  go_upto_region 8 with fail
  have AD0 := Ab.refl v4
  have AD := (Ab.refl v4).drew
  go_region_held3 (fun w' => Ab v4 w') (((with_reducible (repeat (first | assumption | apply Ab.drew | apply Ab.alloc))); done)) (first
    | (go_at_call 10; refine (CE.out gb _ (G2.out.to (A4.out.trans AD))).mono ?_; rintro e9 we ⟨rfl, hv⟩; have hv2 := hv.symm; subst hv2; clear hv)
    | (go_at_call 7; refine (fit17_at pf lf cf N ff true _ (IF.out.below (A2.out.trans (A4.out.trans AD))) (by have := HL.out; omega)).mono ?_; rintro e9 w5 ⟨bf, rfl, b5, r5, l5⟩; have A5 := Ab.call AD b5; have RF := hid r5; clear b5 r5 l5)
    | (go_at_call 9; refine (HA.out gb _ bw bf (G2.out.to (A4.out.trans A5)) (row_ab RW4.out A5) RF.out).mono ?_; rintro e9 w6 ⟨lg, rfl, b6, o6⟩; have A6 := Ab.call A5 b6; have OG := hid o6; have S5 := hid A5.size; clear b6 o6))
  have A26 : Hid (Ab v2 w6) := A4.out.trans A6
  have RW6 := hid (row_ab RW4.out A6)
  have RH6 := hid (row_ab RH4.out A6)
  obtain ⟨gf, cg, Fg, hlg, lgf, ncg, mcg, rwg, hfg⟩ := own_two OG.out (by have := HL.out; omega)
  subst hlg
  have IG6 := hid (rowpart_in rwg ncg hfg (fun i hi => HGW.out.1 i hi))
  have BG : Hid (v2.heap.size ≤ bw ∧ bw < bh ∧ bh < gf ∧ gf < w6.heap.size) := by
    have h1 := LW.out
    have h2 := LWH.out
    have h3 := RH4.out.lt
    have h4 := S5.out
    have h5 := rwg.lt
    exact ⟨h1, h2, by omega, h5⟩
  clear AD AD0 A5 A6 RF OG S5 RW4 RH4 A4 LW LH LWH lgf ncg mcg rwg hfg Fg
  have IW6 := hid (row_in RW6.out (fun i _ => by have := fit_in lw fw false i; omega))
  have IH6 := hid (row_in RH6.out (fun i _ => by have := fit_in lh fh false i; omega))
  have e0 : (((0 : Int)) != 0) = false := by decide
  go_wp2_with (first
    | (at_builtin; have q9 := Iv.out; refine wpList_copy rfl (.tmp 75) (.tmp 76) rfl wv.heap.size wv.heap.size rfl (own_new wv wv.heap.size (Nat.le_refl _)) (some ⟨gf, 0, none⟩) N _ G rfl (IG6.out.below (Au.out.trans (Av.out.trans (bl1 wv (.cells #[] 2))))) (by have := HL.out; omega) (by simp) ?_; intro gx cx wx ix bx lx; have Ix := hid ix; have Lx := hid lx; have Ax : Hid (Ab wv wx) := Below.trans (bl1 wv (.cells #[] 2)) bx; clear ix bx lx q9)
    | (at_builtin; have q9 := Iu.out; refine wpList_copy rfl (.tmp 72) (.tmp 73) rfl wu.heap.size wu.heap.size rfl (own_new wu wu.heap.size (Nat.le_refl _)) (some ⟨bh, 0, none⟩) (M + 2) _ (fitF lh fh false) rfl (IH6.out.below (Au.out.trans (bl1 wu (.cells #[] 2)))) (by have := HL.out; omega) (by simp) ?_; intro gv cv wv iv bv lv; have Iv := hid iv; have Lv := hid lv; have Av : Hid (Ab wu wv) := Below.trans (bl1 wu (.cells #[] 2)) bv; clear iv bv lv q9)
    | (at_builtin; refine wpList_copy rfl (.tmp 69) (.tmp 70) rfl w6.heap.size w6.heap.size rfl (own_new w6 w6.heap.size (Nat.le_refl _)) (some ⟨bw, 0, none⟩) (M + 2) _ (fitF lw fw false) rfl (IW6.out.below (bl1 w6 (.cells #[] 2))) (by have := HL.out; omega) (by simp) ?_; intro gu cu wu iu bu lu; have Iu := hid iu; have Lu := hid lu; have Au : Hid (Ab w6 wu) := Below.trans (bl1 w6 (.cells #[] 2)) bu; clear iu bu lu))
  have AX : Hid (Ab v2 wx) := A26.out.trans (Au.out.trans (Av.out.trans Ax.out))
  have A6x : Hid (Ab w6 wx) := Au.out.trans (Av.out.trans Ax.out)
  have GX : Hid (GridOf n gb wx) := G2.out.to AX.out
  have RW7 := hid (row_ab RW6.out A6x.out)
  have RH7 := hid (row_ab RH6.out A6x.out)
  have IG7 := hid (IG6.out.below A6x.out)
  have IU7 := hid (Iu.out.below (Av.out.trans Ax.out))
  have IV7 := hid (Iv.out.below Ax.out)
  have BX : Hid (gf < gu ∧ gu < gv ∧ gv < gx ∧ gx < wx.heap.size) := by
    have h := BG.out
    have h1 := Lu.out
    have h2 := Lv.out
    have h3 := Lx.out
    have h4 := (Iu.out.at0 (k := 0) (by omega)).2.1
    have h5 := (Iv.out.at0 (k := 0) (by omega)).2.1
    have h6 := (Ix.out.at0 (k := 0) (by have := HL.out; omega)).2.1
    exact ⟨by omega, by omega, by omega, by omega⟩
  clear Iu Iv RW6 RH6 IG6 IW6 IH6 A26 Au Av Ax Lu Lv Lx A6x e0
  go_upto_region 14 with fail
  have AD0 := Ab.refl wx
  have AD := (Ab.refl wx).drew
  go_region_held3 (fun w' => Ab wx w') (((with_reducible (repeat (first | assumption | apply Ab.drew | apply Ab.alloc))); done)) (first
    | (go_at_call 11; refine (HT.out gb _ bw bh gf cg (GX.out.to (Ab.trans (Ab.refl wx) AD)) (row_ab RW7.out (Ab.trans (Ab.refl wx) AD)) (row_ab RH7.out (Ab.trans (Ab.refl wx) AD)) (IG7.out.below (Ab.trans (Ab.refl wx) AD))).mono ?_; rintro e9 ra ⟨la, rfl, b3, o3⟩; have A3 := Ab.call AD b3; have Oa := hid o3; clear b3 o3))
  have Aa : Hid (Ab wx ra) := Ab.trans (Ab.refl wx) A3
  have Ba : Hid (Ab wx ra) := A3
  clear A3 AD AD0
  go_upto_region 15 with fail
  have AD0 := Ab.refl ra
  have AD := (Ab.refl ra).drew
  go_region_held3 (fun w' => Ab ra w') (((with_reducible (repeat (first | assumption | apply Ab.drew | apply Ab.alloc))); done)) (first
    | (go_at_call 11; refine (HT.out gb _ bw bh gf cg (GX.out.to (Ab.trans Aa.out AD)) (row_ab RW7.out (Ab.trans Aa.out AD)) (row_ab RH7.out (Ab.trans Aa.out AD)) (IG7.out.below (Ab.trans Aa.out AD))).mono ?_; rintro e9 rb ⟨lb, rfl, b3, o3⟩; have A3 := Ab.call AD b3; have Ob := hid o3; clear b3 o3))
  have Ab_ : Hid (Ab wx rb) := Ab.trans Aa.out A3
  have Bb : Hid (Ab ra rb) := A3
  clear A3 AD AD0
  obtain ⟨x0, hx0⟩ : ∃ x, fitF lw fw false 0 = x := ⟨_, rfl⟩
  obtain ⟨h0, hh0⟩ : ∃ x, fitF lh fh false 0 = x := ⟨_, rfl⟩
  have xb0 : 0 ≤ x0 := by rw [← hx0]; exact fit_nn lw fw 0
  have xb1 : x0 ≤ 4503599627370496 := by rw [← hx0]; exact (fit_in lw fw false 0).2
  have CW : Hid (∀ v, Ab wx v → v.cell? ⟨bw, 0, none⟩ = some (.int .i64 x0)) := fun v a => by rw [← hx0]; exact (row_ab RW7.out a).cell (show 0 < M + 2 by omega)
  have CH : Hid (∀ v, Ab wx v → v.cell? ⟨bh, 0, none⟩ = some (.int .i64 h0)) := fun v a => by rw [← hh0]; exact (row_ab RH7.out a).cell (show 0 < M + 2 by omega)
  rw [hx0, hh0] at HK
  have qb : Sh.W64 (x0.tdiv 2) ∧ Sh.W64 (x0.tdiv 4) := by
    rw [tmod_none_two x0 xb0, tmod_none_four x0 xb0]
    unfold Sh.W64
    omega
  have QB := hid qb
  have I2 : Hid (∀ v : World, IsI (v.alloc (.cells #[.int .i64 (x0.tdiv 2), .int .i64 (x0.tdiv 4)] 2)).drew (some ⟨v.heap.size, 0, none⟩) 2 (fun i => if i = 0 then x0.tdiv 2 else x0.tdiv 4)) := fun v => (two_in v _ _ QB.out.1 QB.out.2).below (Ab.refl _).drew
  have wq2 : IntKind.i64.wrap (x0.tdiv 2) = x0.tdiv 2 := by have := qb.1; unfold Sh.W64 at this; rw [IntKind.wrap_i64]; omega
  have wq4 : IntKind.i64.wrap (x0.tdiv 4) = x0.tdiv 4 := by have := qb.2; unfold Sh.W64 at this; rw [IntKind.wrap_i64]; omega
  clear qb hx0 hh0
  go_upto_region 16 with fail
  have KS : Hid (∀ w', Ab rb w' → Ab rb w' ∧ w'.cell? ⟨bw, 0, none⟩ = some (.int .i64 x0) ∧ w'.cell? ⟨bh, 0, none⟩ = some (.int .i64 h0)) := fun w' q => ⟨q, CW.out _ (Ab.trans Ab_.out q), CH.out _ (Ab.trans Ab_.out q)⟩
  have AD0 := Ab.refl rb
  have AD := (Ab.refl rb).drew
  go_region_held3 (fun w' => Ab rb w' ∧ w'.cell? ⟨bw, 0, none⟩ = some (.int .i64 x0) ∧ w'.cell? ⟨bh, 0, none⟩ = some (.int .i64 h0)) ((refine KS.out _ ?_; (with_reducible (repeat (first | assumption | apply Ab.drew | apply Ab.alloc))); done)) (first
    | (go_at_call 14; refine (HK.out _ _ (I2.out _)).mono ?_; rintro e9 rc ⟨lc, rfl, b3, o3⟩; have A3 := Ab.call ((Ab.alloc AD0 _).drew) b3; have Oc := hid o3; clear b3 o3))
  have Ac : Hid (Ab wx rc) := Ab.trans Ab_.out A3
  have Bc : Hid (Ab rb rc) := A3
  clear A3 AD AD0 KS
  go_upto_region 17 with fail
  have KS : Hid (∀ w', Ab rc w' → Ab rc w' ∧ w'.cell? ⟨bw, 0, none⟩ = some (.int .i64 x0) ∧ w'.cell? ⟨bh, 0, none⟩ = some (.int .i64 h0)) := fun w' q => ⟨q, CW.out _ (Ab.trans Ac.out q), CH.out _ (Ab.trans Ac.out q)⟩
  have AD0 := Ab.refl rc
  have AD := (Ab.refl rc).drew
  go_region_held3 (fun w' => Ab rc w' ∧ w'.cell? ⟨bw, 0, none⟩ = some (.int .i64 x0) ∧ w'.cell? ⟨bh, 0, none⟩ = some (.int .i64 h0)) ((refine KS.out _ ?_; (with_reducible (repeat (first | assumption | apply Ab.drew | apply Ab.alloc))); done)) (first
    | (go_at_call 14; refine (HK.out _ _ (I2.out _)).mono ?_; rintro e9 rk ⟨lk, rfl, b3, o3⟩; have A3 := Ab.call ((Ab.alloc AD0 _).drew) b3; have Ok := hid o3; clear b3 o3))
  have Ak : Hid (Ab wx rk) := Ab.trans Ac.out A3
  have Bk : Hid (Ab rc rk) := A3
  clear A3 AD AD0 KS
  obtain ⟨ga, ca, Fa, hla, lga, nca, mca, rwa_, hfa⟩ := own_two Oa.out (by have := HL.out; omega)
  obtain ⟨gq, cq, Fq, hlb, lgq, ncq, mcq, rwq, hfq⟩ := own_two Ob.out (by have := HL.out; omega)
  obtain ⟨gc, cc, Fc, hlc, lgc, ncc, mcc, rwc, hfc⟩ := own_two Oc.out (by omega)
  obtain ⟨gk, ck, Fk, hlk, lgk, nck, mck, rwk, hfk⟩ := own_two Ok.out (by omega)
  subst hla hlb hlc hlk
  have BL : Hid (gx < ga ∧ ga < gq ∧ gq < gc ∧ gc < gk ∧ gf < gu ∧ gu < gv ∧ gv < gx ∧ v2.heap.size ≤ bw ∧ bw < bh ∧ bh < gf) := by
    have h := BX.out
    have h2 := BG.out
    have a1 : wx.heap.size ≤ ga := lga
    have a2 : ra.heap.size ≤ gq := lgq
    have a3 : rb.heap.size ≤ gc := Nat.le_trans (by simp) lgc
    have a4 : rc.heap.size ≤ gk := Nat.le_trans (by simp) lgk
    have b1 := rwa_.lt
    have b2 := rwq.lt
    have b3 := rwc.lt
    exact ⟨by omega, by omega, by omega, by omega, by omega, by omega, by omega, by omega, by omega, by omega⟩
  have KA : Hid (N ≤ ca ∧ ca ≤ maxLen ∧ ∀ i, i < N → Fa i = .int .i64 (L i)) := ⟨nca, mca, hfa⟩
  have KQ : Hid (N ≤ cq ∧ ∀ i, i < N → Fq i = .int .i64 (L i)) := ⟨ncq, hfq⟩
  have KC : Hid (2 ≤ cc ∧ cc ≤ maxLen ∧ ∀ i, i < 2 → Fc i = .int .i64 (Kv i)) := ⟨ncc, mcc, hfc⟩
  have KK : Hid (2 ≤ ck ∧ ∀ i, i < 2 → Fk i = .int .i64 (Kv i)) := ⟨nck, hfk⟩
  have Ra := hid (row_ab rwa_ (Bb.out.trans (Bc.out.trans Bk.out)))
  have Rq := hid (row_ab rwq (Bc.out.trans Bk.out))
  have Rc := hid (row_ab rwc Bk.out)
  have Rk := hid rwk
  have RWk := hid (row_ab RW7.out Ak.out)
  have RHk := hid (row_ab RH7.out Ak.out)
  have IGk := hid (IG7.out.below Ak.out)
  have IUk := hid (IU7.out.below Ak.out)
  have IVk := hid (IV7.out.below Ak.out)
  have IXk := hid (Ix.out.below Ak.out)
  have AWk : Hid (Ab v2 rk) := AX.out.trans Ak.out
  clear Oa Ob Oc Ok Ba Bb Bc Bk Aa Ab_ Ac Ak lga lgq lgc lgk nca ncq ncc nck mca mcq mcc mck hfa hfq hfc hfk rwa_ rwq rwc rwk RW7 RH7 IG7 IU7 IV7 Ix AX GX BX BG CW CH I2 QB wq2 wq4 HK xb0 xb1
  have Ia := hid (rowpart_in Ra.out KA.out.1 KA.out.2.2 (fun i hi => HGW.out.2.1 i hi))
  have Iq := hid (rowpart_in Rq.out KQ.out.1 KQ.out.2 (fun i hi => HGW.out.2.1 i hi))
  have Ic := hid (rowpart_in Rc.out KC.out.1 KC.out.2.2 (fun i hi => HGW.out.2.2 i hi))
  have Ik := hid (rowpart_in Rk.out KK.out.1 KK.out.2 (fun i hi => HGW.out.2.2 i hi))
  have Iw := hid (row_in RWk.out (fun i _ => by have := fit_in lw fw false i; omega))
  have Ih := hid (row_in RHk.out (fun i _ => by have := fit_in lh fh false i; omega))
  have e0 : (((0 : Int)) != 0) = false := by decide
  go_wp2_with fail
  refine (same17_at (some ⟨ga, 0, none⟩) (some ⟨gq, 0, none⟩) N ca cq L rk (by have := HL.out; omega) (Ia.out.below (Ab.refl rk)) (Iq.out.below (Ab.refl rk))).mono ?_
  rintro e9 s0 ⟨rfl, b3⟩
  have S0 : Hid (Ab rk s0) := Ab.trans (Ab.refl rk) b3
  clear b3
  go_wp2_with fail
  refine (same17_at (some ⟨gc, 0, none⟩) (some ⟨gk, 0, none⟩) 2 cc ck Kv s0 (by have := HL.out; omega) (Ic.out.below S0.out) (Ik.out.below S0.out)).mono ?_
  rintro e9 s1 ⟨rfl, b3⟩
  have S1 : Hid (Ab rk s1) := Ab.trans S0.out b3
  clear b3
  go_wp2_with fail
  refine (same17_at (some ⟨gu, 0, none⟩) (some ⟨bw, 0, none⟩) (M + 2) cu (M + 2) (fitF lw fw false) s1 (by have := HL.out; omega) (IUk.out.below S1.out) (Iw.out.below S1.out)).mono ?_
  rintro e9 s2 ⟨rfl, b3⟩
  have S2 : Hid (Ab rk s2) := Ab.trans S1.out b3
  clear b3
  go_wp2_with fail
  refine (same17_at (some ⟨gv, 0, none⟩) (some ⟨bh, 0, none⟩) (M + 2) cv (M + 2) (fitF lh fh false) s2 (by have := HL.out; omega) (IVk.out.below S2.out) (Ih.out.below S2.out)).mono ?_
  rintro e9 s3 ⟨rfl, b3⟩
  have S3 : Hid (Ab rk s3) := Ab.trans S2.out b3
  clear b3
  go_wp2_with fail
  refine (same17_at (some ⟨gx, 0, none⟩) (some ⟨gf, 0, none⟩) N cx cg G s3 (by have := HL.out; omega) (IXk.out.below S3.out) (IGk.out.below S3.out)).mono ?_
  rintro e9 s4 ⟨rfl, b3⟩
  have S4 : Hid (Ab rk s4) := Ab.trans S3.out b3
  clear b3
  clear e0
  go_wp2_with (first
    | (at_builtin; have q9 := Ip.out; refine wpList_copy rfl (.tmp 184) (.tmp 185) rfl wp.heap.size wp.heap.size rfl (own_new wp wp.heap.size (Nat.le_refl _)) (some ⟨gk, 0, none⟩) 2 _ Kv rfl (Ik.out.below (S4.out.trans (Ap.out.trans (bl1 wp (.cells #[] 2))))) (by have := HL.out; omega) (by simp) ?_; intro gz cz wz iz bz lz; have Iz := hid iz; have Lz := hid lz; have Az : Hid (Ab wp wz) := Below.trans (bl1 wp (.cells #[] 2)) bz; clear iz bz lz q9)
    | (at_builtin; refine wpList_copy rfl (.tmp 181) (.tmp 182) rfl s4.heap.size s4.heap.size rfl (own_new s4 s4.heap.size (Nat.le_refl _)) (some ⟨gq, 0, none⟩) N _ L rfl (Iq.out.below (S4.out.trans (bl1 s4 (.cells #[] 2)))) (by have := HL.out; omega) (by simp) ?_; intro gp cp wp ip bp lp; have Ip := hid ip; have Lp := hid lp; have Ap : Hid (Ab s4 wp) := Below.trans (bl1 s4 (.cells #[] 2)) bp; clear ip bp lp))
  have AV : Hid (Ab rk wz) := S4.out.trans (Ap.out.trans Az.out)
  have XL : Hid (gk < gp ∧ gk < gz) := by
    have h1 := Lp.out
    have h2 := Lz.out
    have h3 := Rk.out.lt
    have h4 := S4.out.size
    have h5 := Ap.out.size
    exact ⟨by omega, by omega⟩
  have R1 := hid (row_ab Ra.out AV.out)
  have R2 := hid (row_ab Rc.out AV.out)
  have R3 := hid (row_ab RHk.out AV.out)
  have J1 := hid (Iq.out.below AV.out)
  have J2 := hid (Ip.out.below Az.out)
  have J3 := hid (Ik.out.below AV.out)
  have J4 := Iz
  have J5 := hid (IGk.out.below AV.out)
  have J6 := hid (row_ab RWk.out AV.out)
  have AW7 : Hid (Ab v2 wz) := AWk.out.trans AV.out
  clear Ra Rc Rq Rk RWk RHk IUk IVk IXk IGk Ia Iq Ic Ik Iw Ih S0 S1 S2 S3 S4 Ap Az Lp Lz Ip Iz AV AWk KQ KK
  generalize hVV : wz = V at *
  clear hVV
  obtain ⟨P, hP⟩ : ∃ P : Nat → Prop, P = fun k => k = ga ∨ k = gc ∨ k = bh := ⟨_, rfl⟩
  have PP : Hid (P ga ∧ P gc ∧ P bh ∧ ¬ P gq ∧ ¬ P gk ∧ ¬ P gp ∧ ¬ P gz ∧ ¬ P gf ∧ ¬ P bw ∧ (∀ k, k < v2.heap.size → ¬ P k)) := by
    have h := BL.out
    have h2 := XL.out
    rw [hP]
    exact ⟨.inl rfl, .inr (.inl rfl), .inr (.inr rfl), by omega, by omega, by omega, by omega, by omega, by omega, fun k hk => by omega⟩
  have NE : Hid (ga ≠ gc ∧ ga ≠ bh ∧ gc ≠ bh) := by have h := BL.out; exact ⟨by omega, by omega, by omega⟩
  clear hP
  go_wp2
  go_loopw [29] (fun iv wr => ∃ c : Nat, c ≤ N ∧ iv = .int .i64 (c : Nat) ∧ AbS V P wr ∧ wr.rowIs ga 2 ca (fun i => if i < c then .int .i64 (-7) else Fa i) ∧ wr.rowIs gc 2 cc Fc ∧ wr.rowIs bh 2 (M + 2) (fun i => .int .i64 (fitF lh fh false i))) (fun iv _ => N - (intOf iv).toNat)
  case atStart => exact ⟨0, by omega, rfl, AbS.refl V P, R1.out.congr (fun i _ => by simp), R2.out, R3.out⟩
  case round =>
    obtain ⟨c, hc, rfl, hX0, hQ1, hQ2, hQ3⟩ := hrel
    have ZX0 := hid hX0
    have ZQ1 := hid hQ1
    have ZQ2 := hid hQ2
    have ZQ3 := hid hQ3
    clear hX0 hQ1 hQ2 hQ3 R1 R2 R3
    have X0 := ZX0
    have Q1 := ZQ1
    have Q2 := ZQ2
    have Q3 := ZQ3
    clear ZX0 ZQ1 ZQ2 ZQ3
    by_cases hcN : c < N
    · have HC := hid hcN
      have hcI : (c : Int) < N := by omega
      have hcB : (c : Int) ≤ 65536 := by have := HL.out; omega
      have xc := Q1.out.cell (show c < ca by have := KA.out.1; omega)
      obtain ⟨xv, hxv⟩ : ∃ v, (if c < c then Value.int .i64 (-7) else Fa c) = v := ⟨_, rfl⟩
      rw [hxv] at xc
      have xf := Q1.out.frozen c
      clear hxv
      go_wp2
      refine ⟨⟨c + 1, by have := HC.out; omega, by simp, X0.out.set PP.out.1 _, (Q1.out.set c _).congr (fun i _ => ?_), Q2.out.setOther NE.out.1.symm _, Q3.out.setOther NE.out.2.1.symm _⟩, by have := HC.out; simp [intOf]; omega⟩
      · by_cases e : i = c
        · simp [e]
        · by_cases l : i < c
          · simp [e, l, show i < c + 1 by omega]
          · simp [e, l, show ¬ i < c + 1 by omega]
    · have e6 : N = c := by omega
      subst e6
      go_upto_region 26 with fail
      have c2 : (0 : Int) < ((2 : Nat) : Int) := by decide
      have c3 : (1 : Int) < ((2 : Nat) : Int) := by decide
      have y0 := Q2.out.cell (i := 0) (show 0 < cc by have := KC.out.1; omega)
      obtain ⟨xv, hxv⟩ : ∃ v, (Fc 0) = v := ⟨_, rfl⟩
      rw [hxv] at y0
      have f0 := Q2.out.frozen 0
      clear hxv
      go_upto_region 27 with fail
      clear y0 f0 xv
      have Y1 := hid (X0.out.set (k := 0) PP.out.2.1 (.int .i64 (-7)))
      have U1 := hid (Q1.out.setOther (a := ⟨gc, 0, none⟩) NE.out.1 (.int .i64 (-7)))
      have U2 := hid ((Q2.out.set 0 (.int .i64 (-7))).congr (g := fun i => if i = 0 then .int .i64 (-7) else Fc i) (fun i _ => by rfl))
      have U3 := hid (Q3.out.setOther (a := ⟨gc, 0, none⟩) NE.out.2.2.symm (.int .i64 (-7)))
      clear X0 Q1 Q2 Q3
      generalize World.setCell wr _ _ = V1 at *
      have y1 := U2.out.cell (i := 1) (show 1 < cc by have := KC.out.1; omega)
      obtain ⟨xv, hxv⟩ : ∃ v, (if (1 : Nat) = 0 then Value.int .i64 (-7) else Fc 1) = v := ⟨_, rfl⟩
      rw [hxv] at y1
      have f1 := U2.out.frozen 1
      clear hxv
      go_upto_region 28 with fail
      clear y1 f1 xv
      have Y0 := hid (Y1.out.set (k := 1) PP.out.2.1 (.int .i64 (-7)))
      have S1 := hid (U1.out.setOther (a := ⟨gc, 1, none⟩) NE.out.1 (.int .i64 (-7)))
      have S2 := hid ((U2.out.set 1 (.int .i64 (-7))).congr (g := fun i => if i < 2 then .int .i64 (-7) else Fc i) (fun i _ => by by_cases q1 : i = 1 <;> by_cases q0 : i = 0 <;> simp [q1, q0] <;> (try omega)))
      have S3 := hid (U3.out.setOther (a := ⟨gc, 1, none⟩) NE.out.2.2.symm (.int .i64 (-7)))
      clear Y1 U1 U2 U3
      generalize World.setCell V1 _ _ = V2 at *
      obtain ⟨NA, hNA⟩ : ∃ x, N + 4 = x := ⟨_, rfl⟩
      have OA : Hid (Own v2.heap.size (.slice (some ⟨ga, 0, none⟩) N ca) (List.replicate N (-7)) V2) := row_own S1.out (by have := BL.out; omega) KA.out.1 KA.out.2.1 (fun i hi => by simp [hi])
      have OC : Hid (Own v2.heap.size (.slice (some ⟨gc, 0, none⟩) 2 cc) (List.replicate 2 (-7)) V2) := row_own S2.out (by have := BL.out; omega) KC.out.1 KC.out.2.1 (fun i hi => by simp [hi])
      have WS : Hid (v2.heap.size ≤ V2.heap.size ∧ bh < V2.heap.size ∧ gc < V2.heap.size) := ⟨Nat.le_trans AW7.out.size Y0.out.2.2.2.1, S3.out.lt, S2.out.lt⟩
      have HNA := hid hNA
      clear hNA
      go_wp2_with (first
        | (at_builtin; have q9 := XA.out; refine wpList_app rfl (.tmp 203) (.tmp 204) rfl v2.heap.size (.slice (some ⟨gc, 0, none⟩) 2 cc) (List.replicate 2 (-7)) rfl (OC1.out.alloc (.cells #[.int .i64 (-8), .int .i64 (-8), .int .i64 (-8), .int .i64 (-8)] 2)) ⟨wa.heap.size, 0, none⟩ 4 4 [-8, -8, -8, -8] rfl rfl (news4 wa (-8)) (by decide) (by have := HL.out; simp) (by have := WA.out; simp; omega) 6 (by simp) ?_; intro g2 c2 wb o2 x2 y2 _; have OB := hid o2; have XB := hid x2; have YB := hid y2; clear o2 x2 y2 q9)
        | (at_builtin; refine wpList_app rfl (.tmp 200) (.tmp 201) rfl v2.heap.size (.slice (some ⟨ga, 0, none⟩) N ca) (List.replicate N (-7)) rfl (OA.out.alloc (.cells #[.int .i64 (-8), .int .i64 (-8), .int .i64 (-8), .int .i64 (-8)] 2)) ⟨V2.heap.size, 0, none⟩ 4 4 [-8, -8, -8, -8] rfl rfl (news4 V2 (-8)) (by decide) (by have := HL.out; simp; omega) (by have := WS.out; simp; omega) NA (by simp; exact HNA.out) ?_; intro g1 c1 wa o1 x1 y1 _; have OA1 := hid o1; have XA := hid x1; have YA := hid y1; have OC1 : Hid (Own v2.heap.size (.slice (some ⟨gc, 0, none⟩) 2 cc) (List.replicate 2 (-7)) wa) := row_own (row_grown S2.out x1 (fun e => NE.out.1 (by simpa [Value.ownBlock] using e.symm))) (by have := BL.out; omega) KC.out.1 KC.out.2.1 (fun i hi => by simp [hi]); have WA : Hid (v2.heap.size ≤ wa.heap.size) := Nat.le_trans WS.out.1 (Nat.le_trans (by simp) x1.size); clear o1 x1 y1))
      have FX : Hid (AbS V P wb ∧ wb.rowIs bh 2 (M + 2) (fun i => .int .i64 (fitF lh fh false i)) ∧ wb.cell? ⟨g1, N + 3, none⟩ = some (.int .i64 (-8)) ∧ wb.cell? ⟨g2, 2 + 3, none⟩ = some (.int .i64 (-8)) ∧ g1 ≠ bh ∧ g2 ≠ bh) := by
        have hn := NE.out
        have hw := WS.out
        have hs : V2.heap.size ≤ wa.heap.size := Nat.le_trans (by simp) XA.out.size
        have y1 : ga = g1 ∨ g1 = V2.heap.size + 1 := by have := YA.out; simpa [Value.ownBlock] using this
        have y2 : gc = g2 ∨ g2 = wa.heap.size + 1 := by have := YB.out; simpa [Value.ownBlock] using this
        have z1 : AbS V P wa := (Y0.out.to (Ab.alloc (Ab.refl V2) _)).grown XA.out (fun b e => .inl (by have e2 : ga = b := (Option.some.inj e); exact e2 ▸ PP.out.1))
        have z2 : AbS V P wb := (z1.to (Ab.alloc (Ab.refl wa) _)).grown XB.out (fun b e => .inl (by have e2 : gc = b := (Option.some.inj e); exact e2 ▸ PP.out.2.1))
        refine ⟨z2, row_grown (row_grown S3.out XA.out (fun e => hn.2.1 (by simpa [Value.ownBlock] using e.symm))) XB.out (fun e => hn.2.2 (by simpa [Value.ownBlock] using e.symm)), cell_grown (last_own OA1.out) XB.out (fun e => ?_), last_own OB.out, ?_, ?_⟩
        · have e2 : g1 = gc := by simpa [Value.ownBlock] using e
          omega
        · omega
        · omega
      have Q0 := hid FX.out.1
      have Q3 := hid FX.out.2.1
      have Q4 := hid FX.out.2.2.1
      have Q5 := hid FX.out.2.2.2.1
      have NB : Hid (g1 ≠ bh ∧ g2 ≠ bh) := FX.out.2.2.2.2
      clear FX S1 S2 S3 Y0 OA OC OA1 OC1 OB XA XB YA YB WS WA
      go_loopw [30] (fun iv wr => ∃ c : Nat, c ≤ (M + 2) ∧ iv = .int .i64 (c : Nat) ∧ AbS V P wr ∧ wr.rowIs bh 2 (M + 2) (fun i => if i < c then .int .i64 0 else .int .i64 (fitF lh fh false i)) ∧ wr.cell? ⟨g1, N + 3, none⟩ = some (.int .i64 (-8)) ∧ wr.cell? ⟨g2, 2 + 3, none⟩ = some (.int .i64 (-8))) (fun iv _ => (M + 2) - (intOf iv).toNat)
      case atStart => exact ⟨0, by omega, rfl, Q0.out, Q3.out.congr (fun i _ => by simp), Q4.out, Q5.out⟩
      case round =>
        obtain ⟨c, hc, rfl, hY0, hS3, hS4, hS5⟩ := hrel
        have ZY0 := hid hY0
        have ZS3 := hid hS3
        have ZS4 := hid hS4
        have ZS5 := hid hS5
        clear hY0 hS3 hS4 hS5 Q0 Q3 Q4 Q5
        have Y0 := ZY0
        have S3 := ZS3
        have S4 := ZS4
        have S5 := ZS5
        clear ZY0 ZS3 ZS4 ZS5
        by_cases hcN : c < (M + 2)
        · have HC := hid hcN
          have hcI : (c : Int) < ((M + 2 : Nat) : Int) := by omega
          have hcB : (c : Int) ≤ 65536 := by have := HL.out; omega
          have hcJ : (c : Int) < (M : Int) + 2 := by omega
          have xc := S3.out.cell (show c < M + 2 by exact HC.out)
          obtain ⟨xv, hxv⟩ : ∃ v, (if c < c then Value.int .i64 0 else .int .i64 (fitF lh fh false c)) = v := ⟨_, rfl⟩
          rw [hxv] at xc
          have xf := S3.out.frozen c
          clear hxv
          go_wp2
          refine ⟨⟨c + 1, by have := HC.out; omega, by simp, Y0.out.set PP.out.2.2.1 _, (S3.out.set c _).congr (fun i _ => ?_), cell_set_ne S4.out NB.out.1, cell_set_ne S5.out NB.out.2⟩, by have := HC.out; simp [intOf]; omega⟩
          · by_cases e : i = c
            · simp [e]
            · by_cases l : i < c
              · simp [e, l, show i < c + 1 by omega]
              · simp [e, l, show ¬ i < c + 1 by omega]
        · obtain rfl : c = M + 2 := by omega
          go_upto_region 34 with fail
          have AY : Hid (Ab v2 wr) := Y0.out.ab AW7.out PP.out.2.2.2.2.2.2.2.2.2
          have GY : Hid (GridOf n gb wr) := G2.out.to AY.out
          have RZ : Hid (wr.rowIs bh 2 (M + 2) (fun _ => .int .i64 0)) := S3.out.congr (fun i hi => by simp [hi])
          have RW9 := hid (Y0.out.row J6.out PP.out.2.2.2.2.2.2.2.2.1)
          have IG9 := hid (Y0.out.isI J5.out PP.out.2.2.2.2.2.2.2.1)
          have AD0 := Ab.refl wr
          have AD := (Ab.refl wr).drew
          go_region_held3 (fun w' => Ab wr w') (((with_reducible (repeat (first | assumption | apply Ab.drew | apply Ab.alloc))); done)) (first
            | (go_at_call 11; refine (HZ.out gb _ bw bh gf cg (GY.out.to AD) (row_ab RW9.out AD) (row_ab RZ.out AD) (IG9.out.below AD)).mono ?_; rintro e9 wt ⟨ly, rfl, b3, o3⟩; have A3 := Ab.call AD b3; have Oy := hid o3; clear b3 o3))
          have AY3 : Hid (Ab wr wt) := A3
          clear A3 AD AD0
          obtain ⟨gt, ct9, Ft, hly, lgt, nct, mct, rwt, hft⟩ := own_two Oy.out (by have := HL.out; omega)
          subst hly
          have Y1 := hid (Y0.out.to AY3.out)
          have T4 := hid (cell_ab S4.out AY3.out)
          have T5 := hid (cell_ab S5.out AY3.out)
          have RY := hid rwt
          have KY : Hid (N ≤ ct9 ∧ ∀ i, i < N → Ft i = .int .i64 0) := ⟨nct, hft⟩
          clear S3 S4 S5 Y0 AY GY RZ RW9 IG9 AY3 Oy lgt nct mct rwt hft
          go_upto_region 35 with fail
          go_wp2
          go_loopw [32] (fun iv wr => ∃ c : Nat, c ≤ N ∧ iv = .int .i64 (c : Nat) ∧ Ab wt wr) (fun iv _ => N - (intOf iv).toNat)
          case atStart => exact ⟨0, by omega, rfl, Ab.refl wt⟩
          case round =>
            obtain ⟨c, hc, rfl, hR0⟩ := hrel
            have ZR0 := hid hR0
            clear hR0
            have R0 := ZR0
            clear ZR0
            by_cases hcN : c < N
            · have HC := hid hcN
              have hcI : (c : Int) < (N : Int) := by omega
              have hcB : (c : Int) ≤ 65536 := by have := HL.out; omega
              have xc := (row_ab RY.out R0.out).cell (show c < ct9 by have := KY.out.1; have := HC.out; omega)
              rw [KY.out.2 c HC.out] at xc
              go_wp2
              exact ⟨⟨c + 1, by have := HC.out; omega, by simp, R0.out⟩, by have := HC.out; simp [intOf]; omega⟩
            · have e6 : N = c := by omega
              subst e6
              have Y2 := hid (Y1.out.to R0.out)
              have I1 := hid (Y2.out.isI J1.out PP.out.2.2.2.1)
              have I2 := hid (Y2.out.isI J2.out PP.out.2.2.2.2.2.1)
              have I3 := hid (Y2.out.isI J3.out PP.out.2.2.2.2.1)
              have I4 := hid (Y2.out.isI J4.out PP.out.2.2.2.2.2.2.1)
              have C4 := hid (cell_ab T4.out R0.out)
              have C5 := hid (cell_ab T5.out R0.out)
              have e0 : (((0 : Int)) == 0) = true := by decide
              go_wp2_with fail
              refine (same17_at (some ⟨gq, 0, none⟩) (some ⟨gp, 0, none⟩) N cq cp L wr (by have := HL.out; omega) (I1.out.below (Ab.refl wr)) (I2.out.below (Ab.refl wr))).mono ?_
              rintro e9 s0 ⟨rfl, b3⟩
              have D0 : Hid (Ab wr s0) := Ab.trans (Ab.refl wr) b3
              clear b3
              go_wp2_with fail
              refine (same17_at (some ⟨gk, 0, none⟩) (some ⟨gz, 0, none⟩) 2 ck cz Kv s0 (by have := HL.out; omega) (I3.out.below D0.out) (I4.out.below D0.out)).mono ?_
              rintro e9 s1 ⟨rfl, b3⟩
              have D1 : Hid (Ab wr s1) := Ab.trans D0.out b3
              clear b3
              have v4 : wrap64 ((NA : Int) - 1) = ((N + 3 : Nat) : Int) := by have := HNA.out; have := HL.out; unfold wrap64; omega
              have c4 : s1.cell? ⟨g1, (wrap64 ((NA : Int) - 1)).toNat, none⟩ = some (.int .i64 (-8)) := by rw [v4, Int.toNat_natCast]; exact cell_ab C4.out D1.out
              have c5 : s1.cell? ⟨g2, 5, none⟩ = some (.int .i64 (-8)) := cell_ab C5.out D1.out
              have a4 : 0 ≤ wrap64 ((NA : Int) - 1) := by rw [v4]; omega
              have b4 : wrap64 ((NA : Int) - 1) < (NA : Int) := by rw [v4]; have := HNA.out; omega
              clear v4
              go_wp2
              go_ret
              exact ⟨rfl, A2.out.trans ((Y2.out.ab AW7.out PP.out.2.2.2.2.2.2.2.2.2).trans D1.out)⟩
theorem flF_none {n : Nat} {W F : Nat → Int} {e : Nat} : flF n W (fun _ => 0) F e = 0 := by
  unfold flF tks
  rw [tk_none, tk_none]
  rfl
theorem tkeeps_at (AC : AllC) (TC : TakesC) (FC : FlowsC) (side : Int) {pw ph pf : Option Addr} {lw cw lh ch lf cf : Nat} {fw fh ff : Nat → Int} (w : World) (hF : Fr w) (iw : IsI w pw lw fw) (ih : IsI w ph lh fh) (if_ : IsI w pf lf ff) :
    Calls Tryd.prog 4 #[.int .i64 side, .slice pw lw cw, .slice ph lh ch, .slice pf lf cf] w fun e w' => e = .returned (.bool true) ∧ Below w.heap.size w w' := by
  obtain ⟨n, n1, n8, e8⟩ := side4 side
  have hn : 1 ≤ n ∧ n ≤ 32 := by omega
  have en : (6 ≤ 6 * n * n ∧ 6 * n * n ≤ 96) ∧ 12 ≤ 12 * n * n ∧ 12 * n * n ≤ 192 := by
    have h := Nat.mul_le_mul n8 n8
    have h2 := Nat.mul_le_mul hn.1 hn.1
    rw [Nat.mul_assoc, Nat.mul_assoc]
    omega
  obtain ⟨W, hW⟩ : ∃ W, fitF lw fw false = W := ⟨_, rfl⟩
  obtain ⟨H, hH⟩ : ∃ H, fitF lh fh false = H := ⟨_, rfl⟩
  obtain ⟨F, hFF⟩ : ∃ F, fitF lf ff true = F := ⟨_, rfl⟩
  have W0 : ∀ c, 0 ≤ W c ∧ W c ≤ 4503599627370496 := fun c => by rw [← hW]; exact ⟨fit_nn lw fw c, (fit_in lw fw false c).2⟩
  have H0 : ∀ c, 0 ≤ H c ∧ H c ≤ 4503599627370496 := fun c => by rw [← hH]; exact ⟨fit_nn lh fh c, (fit_in lh fh false c).2⟩
  have F0 : ∀ e, e < 12 * n * n → -4503599627370496 ≤ F e ∧ F e ≤ 4503599627370496 := fun e _ => by rw [← hFF]; exact fit_in lf ff true e
  have WW : ∀ c, c < 6 * n * n → 0 ≤ W c := fun c _ => (W0 c).1
  have HH : ∀ c, c < 6 * n * n → 0 ≤ H c ∧ H c ≤ 9223372036854775807 := fun c _ => by have := H0 c; omega
  have O0 : ∀ c, c < 6 * n * n → oS n (allF n W F) c ≤ W c := fun c hc => cut_oS hn.1 hc WW (m := 4503599627370496) ⟨by omega, by omega⟩ F0
  have G0 : ∀ e, e < 12 * n * n → -4503599627370496 ≤ allF n W F e ∧ allF n W F e ≤ 4503599627370496 := fun e he => allF_in hn.1 he WW F0
  have q2 : (W 0).tdiv 2 = W 0 / 2 := Int.tdiv_eq_ediv_of_nonneg (W0 0).1
  have q4 : (W 0).tdiv 4 = W 0 / 4 := Int.tdiv_eq_ediv_of_nonneg (W0 0).1
  have gd : good17 (W 0) (H 0) 2 (fun i => if i = 0 then (W 0).tdiv 2 else (W 0).tdiv 4) := by
    refine ⟨(W0 0).1, (H0 0).1, fun i _ => ?_, ?_⟩
    · have := (W0 0).1
      rw [q2, q4]
      dsimp only
      split <;> omega
    · show 0 + (if 0 = 0 then (W 0).tdiv 2 else (W 0).tdiv 4) + (if 1 = 0 then (W 0).tdiv 2 else (W 0).tdiv 4) ≤ W 0
      have := (W0 0).1
      rw [q2, q4]
      simp only [if_true, if_neg (show ¬ (1 : Nat) = 0 by omega)]
      omega
  have h6 : Sh.W64 (H 0) := by have := H0 0; unfold Sh.W64; omega
  refine tkeeps_go n (6 * n * n) (12 * n * n) side (allF n W F) (flF n W H (allF n W F)) (tkA (H 0) (W 0) (fun i => if i = 0 then (W 0).tdiv 2 else (W 0).tdiv 4)) w (fun v _ => awake17_at TC v) ?_ (fun gb v g => gCells_at g) (fun gb v g => gEdges_at g) ?_ ?_ ?_ ?_ ?_ iw ih if_ ⟨by omega, by omega, by omega, by omega⟩
  · intro v hv
    rw [e8]
    refine (new_at n v hn (hF.to hv)).mono ?_
    rintro e' w' ⟨gb, rfl, a, -, g⟩
    exact ⟨gb, rfl, a, g⟩
  · intro gb v b1 b2 g rw_ rf
    rw [hW] at rw_
    rw [hFF] at rf
    have I1 := rowpart_in (n := 6 * n * n) (x := W) rw_ (by omega) (fun _ _ => rfl) (fun i _ => by have := W0 i; unfold Sh.W64; omega)
    have I2 := rowpart_in (n := 12 * n * n) (x := F) rf (by omega) (fun _ _ => rfl) (fun i hi => by have := F0 i hi; unfold Sh.W64; omega)
    exact (AC n gb (some ⟨b1, 0, none⟩) _ _ _ (some ⟨b2, 0, none⟩) _ _ _ v hn g (by omega) (by omega) I1 I2).1 ⟨rfl, rfl, WW, F0⟩
  · intro gb v b1 b2 b3 c3 g rw_ rh ig
    rw [hW] at rw_
    rw [hH] at rh
    have I1 := rowpart_in (n := 6 * n * n) (x := W) rw_ (by omega) (fun _ _ => rfl) (fun i _ => by have := W0 i; unfold Sh.W64; omega)
    have I2 := rowpart_in (n := 6 * n * n) (x := H) rh (by omega) (fun _ _ => rfl) (fun i _ => by have := H0 i; unfold Sh.W64; omega)
    exact (FC n gb (some ⟨b1, 0, none⟩) _ _ _ (some ⟨b2, 0, none⟩) _ _ _ (some ⟨b3, 0, none⟩) _ c3 _ v hn g (by omega) (by omega) (by omega) I1 I2 ig).1 ⟨rfl, rfl, rfl, WW, fun c hc => (HH c hc).1, G0, O0⟩
  · intro v b1 i1
    rw [hW] at i1
    rw [hW, hH]
    exact (TC (W 0) (H 0) (some ⟨b1, 0, none⟩) 2 2 _ v (by have := W0 0; unfold Sh.W64; omega) h6 (by omega) i1).1 gd
  · intro gb v b1 b2 b3 c3 g rw_ rh ig
    rw [hW] at rw_
    have I1 := rowpart_in (n := 6 * n * n) (x := W) rw_ (by omega) (fun _ _ => rfl) (fun i _ => by have := W0 i; unfold Sh.W64; omega)
    have I2 := rowpart_in (n := 6 * n * n) (x := fun _ => 0) rh (by omega) (fun _ _ => rfl) (fun i _ => by unfold Sh.W64; omega)
    refine ((FC n gb (some ⟨b1, 0, none⟩) _ _ _ (some ⟨b2, 0, none⟩) _ _ _ (some ⟨b3, 0, none⟩) _ c3 _ v hn g (by omega) (by omega) (by omega) I1 I2 ig).1 ⟨rfl, rfl, rfl, WW, fun _ _ => Int.le_refl _, G0, O0⟩).mono ?_
    rintro e' w' ⟨l, rfl, b, o⟩
    refine ⟨l, rfl, b, ?_⟩
    have e : (List.range (12 * n * n)).map (flF n W (fun _ => 0) (allF n W F)) = (List.range (12 * n * n)).map (fun _ => (0 : Int)) := List.map_congr_left (fun i _ => flF_none)
    rwa [e] at o
  · refine ⟨fun i hi => ?_, fun i hi => ?_, fun i hi => ?_⟩
    · have := G0 i hi
      unfold Sh.W64
      omega
    · have := flF_in (W := W) hn.1 hi HH O0
      unfold Sh.W64
      omega
    · have := tk_w64 gd h6 hi
      have := H0 0
      unfold Sh.W64
      omega
end Tr
end Go.Proofs.YtnnganbcjfkbiaaDoor

namespace Go.Proofs.YtnnganbcjfkbiaaDoor
open Go.ChangeShapes Go.WideShapes Go.ChangeAt Go.WideMaps Go.WideElems Go.RowKit Go.Deep
namespace Sh
theorem trod_int {H : Type} {enc : TypeId × Value → H} {P : Program} {w : World} {base : Nat} {spare : Nat → Bool} {held : Bool} {t : TypeId} {fuel : Nat} {v : Value} {x : DataW H × List MemPlace} (ht : P.underlying t = some (.int .i64)) (h : DataW.trod enc P w base spare held fuel t [v] = some x) :
    ∃ b, v = .int .i64 b ∧ (-9223372036854775808 ≤ b ∧ b ≤ 9223372036854775807) := by
  obtain ⟨k, e, _, wf⟩ := DataW.trod_int ht h
  simp at e
  simp only [Lit.wf, Bool.and_eq_true, decide_eq_true_eq] at wf
  have q1 : IntKind.i64.min = -9223372036854775808 := by decide
  have q2 : IntKind.i64.max = 9223372036854775807 := by decide
  rw [q1, q2] at wf
  exact ⟨k, e, wf⟩
theorem cell_block {w : World} {a : Addr} {v : Value} (h : w.cell? a = some v) : a.block < w.heap.size := by
  by_cases c : a.block < w.heap.size
  · exact c
  · exfalso
    have : w.heap[a.block]? = none := by simp; omega
    simp [World.cell?, this] at h
theorem pick_fn {α : Type} {n : Nat} {R : Nat → α → Prop} (d : α) (h : ∀ i, i < n → ∃ x, R i x) : ∃ f : Nat → α, ∀ i, i < n → R i (f i) := by
  have : ∀ i, ∃ x, i < n → R i x := fun i => by
    by_cases c : i < n
    · obtain ⟨x, h1⟩ := h i c
      exact ⟨x, fun _ => h1⟩
    · exact ⟨d, fun h => absurd h c⟩
  exact ⟨fun i => (this i).choose, fun i hi => (this i).choose_spec hi⟩
theorem list_open {H : Type} {enc : TypeId × Value → H} {W : World} {cs : List Value} {fuel : Nat} {x : DataW H × List MemPlace}
    (hf : DataW.trod enc Tryd.prog W 0 (fun _ => true) true fuel 22 cs = some x) : ∃ a0 len cap xs, cs = [.slice a0 len cap] ∧ IsI W a0 len xs ∧ len ≤ cap ∧ cap ≤ maxLen := by
  rcases open_slice1 Tryd.underlying22 (by kernel_rfl) hf with ⟨hcs, _⟩ | ⟨a, l, c, m, n, V, D, Pl, hcs, _, hl, hm, hmm, _, hx⟩
  · exact ⟨none, 0, 0, fun _ => 0, hcs, fun k hk => by omega, Nat.le_refl _, Nat.zero_le _⟩
  · simp only [if_true] at hmm
    have each : ∀ i, i < l → ∃ x : Int, W.cell? (a.add i) = some (.int .i64 x) ∧ (-9223372036854775808 ≤ x ∧ x ≤ 9223372036854775807) := by
      intro i hi
      obtain ⟨h1, h2⟩ := hx i (by omega)
      obtain ⟨x, e, wx⟩ := trod_int Tryd.underlying2 h2
      rw [e] at h1
      exact ⟨x, h1, wx⟩
    obtain ⟨f, hf⟩ := pick_fn 0 each
    refine ⟨some a, l, c, f, hcs, fun k hk => ⟨(hf k hk).2, ?_⟩, hl, hm⟩
    have h0 := (hf k hk).1
    have z := (hf 0 (by omega)).1
    obtain ⟨b, off, spot⟩ := a
    have hspot : spot = none := by simpa [Addr.add] using World.cell?_spot z
    subst hspot
    rw [add_off] at h0
    exact ⟨b, off, rfl, cell_block h0, h0⟩
end Sh
end Go.Proofs.YtnnganbcjfkbiaaDoor

namespace Go.Proofs.YtnnganbcjfkbiaaDoor
open Go.RowKit Go.Deep
namespace Sh
set_option maxRecDepth 100000 in
theorem bel_at (x : Int) (w : World) : Calls Tryd.prog 27 #[.int .i64 x] w fun e w' => e = .returned (.bool (decide (x < 0))) ∧ w' = w := by
  go_enter Tryd.func27, Tryd.ntmps27
  go_wp2
  go_ret
  exact ⟨rfl, rfl⟩
/-- too great a flow -/
def far (x : Int) : Bool := decide (x < -4503599627370496) || decide (4503599627370496 < x)
set_option maxRecDepth 100000 in
theorem far_at (x : Int) (w : World) : Calls Tryd.prog 28 #[.int .i64 x] w fun e w' => e = .returned (.bool (far x)) ∧ w' = w := by
  cases h1 : decide (x < -4503599627370496) with
  | true =>
    have F : Hid (far x = true) := by show _ = _; unfold far; rw [h1]; rfl
    go_enter Tryd.func28, Tryd.ntmps28
    go_wp2
    go_ret
    exact ⟨by rw [F.out]; rfl, rfl⟩
  | false =>
    cases h2 : decide (4503599627370496 < x) with
    | true =>
      have F : Hid (far x = true) := by show _ = _; unfold far; rw [h1, h2]; rfl
      go_enter Tryd.func28, Tryd.ntmps28
      go_wp2
      go_ret
      exact ⟨by rw [F.out]; rfl, rfl⟩
    | false =>
      have F : Hid (far x = false) := by show _ = _; unfold far; rw [h1, h2]; rfl
      go_enter Tryd.func28, Tryd.ntmps28
      go_wp2
      go_ret
      exact ⟨by rw [F.out]; rfl, rfl⟩
set_option maxRecDepth 100000 in
set_option maxHeartbeats 8000000 in
theorem idxbel_no (p : Option Addr) (n cp : Nat) (f : Nat → Int) (w : World) (hn : n ≤ 65536) (hf : IsI w p n f) (HA : Hid (∀ i, i < n → decide (f i < 0) = false)) :
    Calls Tryd.prog 41 #[.slice p n cp, .func (.func 27) #[] #[]] w fun e w' => e = .returned (.int .i64 (-1)) ∧ w' = w := by
  have HF := hid hf
  have HN := hid hn
  clear hf hn
  go_enter Tryd.func41, Tryd.ntmps41
  go_wp2
  go_loopw [8] (fun iv wr => ∃ c : Nat, c ≤ n ∧ iv = .int .i64 (c : Nat) ∧ wr = w) (fun iv _ => n - (intOf iv).toNat)
  case atStart => exact ⟨0, by omega, rfl, rfl⟩
  case round =>
    obtain ⟨c, hc, rfl, hwr⟩ := hrel
    have hwr2 := hwr.symm
    subst hwr2
    by_cases hcn : c < n
    · have HC := hid hcn
      have hcI : (c : Int) < n := by omega
      have hcB : (c : Int) ≤ 65536 := by have := HN.out; omega
      obtain ⟨b0, o0, rfl⟩ := HF.out.some0 (show 0 < n by omega)
      obtain ⟨x, hx⟩ : ∃ x, f c = x := ⟨_, rfl⟩
      have at0 := HF.out.at0 hcn
      have hp := HA.out c hcn
      rw [hx] at at0 hp
      have xc := at0.2.2
      have CF := hid (bel_at x w)
      rw [hp] at CF
      clear at0 hx hcn hc hp
      go_wp2_with fail
      refine CF.out.mono ?_
      rintro e9 v9 ⟨rfl, hv9⟩
      have hv8 := hv9.symm
      subst hv8
      go_wp2
      exact ⟨⟨c + 1, by have := HC.out; omega, by simp, by first | trivial | rfl⟩, by have := HC.out; simp [intOf]; omega⟩
    · have e6 : n = c := by omega
      subst e6
      go_wp2
      go_ret
      exact ⟨rfl, by first | trivial | rfl⟩
set_option maxRecDepth 100000 in
set_option maxHeartbeats 8000000 in
theorem idxbel_yes (p : Option Addr) (n cp : Nat) (f : Nat → Int) (w : World) (hn : n ≤ 65536) (hf : IsI w p n f) (HA : Hid (¬ ∀ i, i < n → decide (f i < 0) = false)) :
    Calls Tryd.prog 41 #[.slice p n cp, .func (.func 27) #[] #[]] w fun e w' => (∃ i : Nat, i ≤ 65536 ∧ e = .returned (.int .i64 (i : Nat))) ∧ w' = w := by
  have HF := hid hf
  have HN := hid hn
  clear hf hn
  go_enter Tryd.func41, Tryd.ntmps41
  go_wp2
  go_loopw [8] (fun iv wr => ∃ c : Nat, c ≤ n ∧ iv = .int .i64 (c : Nat) ∧ (∀ i, i < c → decide (f i < 0) = false) ∧ wr = w) (fun iv _ => n - (intOf iv).toNat)
  case atStart => exact ⟨0, by omega, rfl, fun i hi => absurd hi (Nat.not_lt_zero i), rfl⟩
  case round =>
    obtain ⟨c, hc, rfl, g1, hwr⟩ := hrel
    have hwr2 := hwr.symm
    subst hwr2
    have G1 := hid g1
    clear g1
    by_cases hcn : c < n
    · have HC := hid hcn
      have hcI : (c : Int) < n := by omega
      have hcB : (c : Int) ≤ 65536 := by have := HN.out; omega
      obtain ⟨b0, o0, rfl⟩ := HF.out.some0 (show 0 < n by omega)
      obtain ⟨x, hx⟩ : ∃ x, f c = x := ⟨_, rfl⟩
      have at0 := HF.out.at0 hcn
      rw [hx] at at0
      have xc := at0.2.2
      have CF := hid (bel_at x w)
      have XE := hid hx
      clear at0 hx hcn hc
      cases hp : decide (x < 0) with
      | true =>
        rw [hp] at CF
        have hp2 := hid hp
        clear hp
        go_wp2_with fail
        refine CF.out.mono ?_
        rintro e9 v9 ⟨rfl, hv9⟩
        have hv8 := hv9.symm
        subst hv8
        go_wp2
        go_ret
        exact ⟨⟨c, by have := HC.out; have := HN.out; omega, rfl⟩, by first | trivial | rfl⟩
      | false =>
        rw [hp] at CF
        have hp2 := hid hp
        clear hp
        go_wp2_with fail
        refine CF.out.mono ?_
        rintro e9 v9 ⟨rfl, hv9⟩
        have hv8 := hv9.symm
        subst hv8
        go_wp2
        refine ⟨⟨c + 1, by have := HC.out; omega, by simp, fun i hi => ?_, by first | trivial | rfl⟩, by have := HC.out; simp [intOf]; omega⟩
        by_cases l : i < c
        · exact G1.out i l
        · obtain rfl : i = c := by omega
          rw [XE.out]
          exact hp2.out
    · have e6 : n = c := by omega
      subst e6
      exact absurd G1.out HA.out
set_option maxRecDepth 100000 in
set_option maxHeartbeats 4000000 in
theorem hasbel_no (p : Option Addr) (n cp : Nat) (f : Nat → Int) (w : World) (hn : n ≤ 65536) (hf : IsI w p n f) (HA : ∀ i, i < n → decide (f i < 0) = false) :
    Calls Tryd.prog 26 #[.slice p n cp, .func (.func 27) #[] #[]] w fun e w' => e = .returned (.bool false) ∧ w' = w := by
  have IX := hid (idxbel_no p n cp f w hn hf HA)
  clear hn hf HA
  go_enter Tryd.func26, Tryd.ntmps26
  go_wp2_with fail
  refine IX.out.mono ?_
  rintro e9 v9 ⟨rfl, hv9⟩
  have hv8 := hv9.symm
  subst hv8
  go_wp2
  go_ret
  exact ⟨rfl, rfl⟩
set_option maxRecDepth 100000 in
set_option maxHeartbeats 4000000 in
theorem hasbel_yes (p : Option Addr) (n cp : Nat) (f : Nat → Int) (w : World) (hn : n ≤ 65536) (hf : IsI w p n f) (HA : ¬ ∀ i, i < n → decide (f i < 0) = false) :
    Calls Tryd.prog 26 #[.slice p n cp, .func (.func 27) #[] #[]] w fun e w' => e = .returned (.bool true) ∧ w' = w := by
  have IX := hid (idxbel_yes p n cp f w hn hf HA)
  clear hn hf HA
  go_enter Tryd.func26, Tryd.ntmps26
  go_wp2_with fail
  refine IX.out.mono ?_
  rintro e9 v9 ⟨⟨i, hi, rfl⟩, hv9⟩
  have hv8 := hv9.symm
  subst hv8
  go_wp2
  go_ret
  exact ⟨rfl, rfl⟩
set_option maxRecDepth 100000 in
set_option maxHeartbeats 8000000 in
theorem idxfar_no (p : Option Addr) (n cp : Nat) (f : Nat → Int) (w : World) (hn : n ≤ 65536) (hf : IsI w p n f) (HA : Hid (∀ i, i < n → far (f i) = false)) :
    Calls Tryd.prog 41 #[.slice p n cp, .func (.func 28) #[] #[]] w fun e w' => e = .returned (.int .i64 (-1)) ∧ w' = w := by
  have HF := hid hf
  have HN := hid hn
  clear hf hn
  go_enter Tryd.func41, Tryd.ntmps41
  go_wp2
  go_loopw [8] (fun iv wr => ∃ c : Nat, c ≤ n ∧ iv = .int .i64 (c : Nat) ∧ wr = w) (fun iv _ => n - (intOf iv).toNat)
  case atStart => exact ⟨0, by omega, rfl, rfl⟩
  case round =>
    obtain ⟨c, hc, rfl, hwr⟩ := hrel
    have hwr2 := hwr.symm
    subst hwr2
    by_cases hcn : c < n
    · have HC := hid hcn
      have hcI : (c : Int) < n := by omega
      have hcB : (c : Int) ≤ 65536 := by have := HN.out; omega
      obtain ⟨b0, o0, rfl⟩ := HF.out.some0 (show 0 < n by omega)
      obtain ⟨x, hx⟩ : ∃ x, f c = x := ⟨_, rfl⟩
      have at0 := HF.out.at0 hcn
      have hp := HA.out c hcn
      rw [hx] at at0 hp
      have xc := at0.2.2
      have CF := hid (far_at x w)
      rw [hp] at CF
      clear at0 hx hcn hc hp
      go_wp2_with fail
      refine CF.out.mono ?_
      rintro e9 v9 ⟨rfl, hv9⟩
      have hv8 := hv9.symm
      subst hv8
      go_wp2
      exact ⟨⟨c + 1, by have := HC.out; omega, by simp, by first | trivial | rfl⟩, by have := HC.out; simp [intOf]; omega⟩
    · have e6 : n = c := by omega
      subst e6
      go_wp2
      go_ret
      exact ⟨rfl, by first | trivial | rfl⟩
set_option maxRecDepth 100000 in
set_option maxHeartbeats 8000000 in
theorem idxfar_yes (p : Option Addr) (n cp : Nat) (f : Nat → Int) (w : World) (hn : n ≤ 65536) (hf : IsI w p n f) (HA : Hid (¬ ∀ i, i < n → far (f i) = false)) :
    Calls Tryd.prog 41 #[.slice p n cp, .func (.func 28) #[] #[]] w fun e w' => (∃ i : Nat, i ≤ 65536 ∧ e = .returned (.int .i64 (i : Nat))) ∧ w' = w := by
  have HF := hid hf
  have HN := hid hn
  clear hf hn
  go_enter Tryd.func41, Tryd.ntmps41
  go_wp2
  go_loopw [8] (fun iv wr => ∃ c : Nat, c ≤ n ∧ iv = .int .i64 (c : Nat) ∧ (∀ i, i < c → far (f i) = false) ∧ wr = w) (fun iv _ => n - (intOf iv).toNat)
  case atStart => exact ⟨0, by omega, rfl, fun i hi => absurd hi (Nat.not_lt_zero i), rfl⟩
  case round =>
    obtain ⟨c, hc, rfl, g1, hwr⟩ := hrel
    have hwr2 := hwr.symm
    subst hwr2
    have G1 := hid g1
    clear g1
    by_cases hcn : c < n
    · have HC := hid hcn
      have hcI : (c : Int) < n := by omega
      have hcB : (c : Int) ≤ 65536 := by have := HN.out; omega
      obtain ⟨b0, o0, rfl⟩ := HF.out.some0 (show 0 < n by omega)
      obtain ⟨x, hx⟩ : ∃ x, f c = x := ⟨_, rfl⟩
      have at0 := HF.out.at0 hcn
      rw [hx] at at0
      have xc := at0.2.2
      have CF := hid (far_at x w)
      have XE := hid hx
      clear at0 hx hcn hc
      cases hp : far (x) with
      | true =>
        rw [hp] at CF
        have hp2 := hid hp
        clear hp
        go_wp2_with fail
        refine CF.out.mono ?_
        rintro e9 v9 ⟨rfl, hv9⟩
        have hv8 := hv9.symm
        subst hv8
        go_wp2
        go_ret
        exact ⟨⟨c, by have := HC.out; have := HN.out; omega, rfl⟩, by first | trivial | rfl⟩
      | false =>
        rw [hp] at CF
        have hp2 := hid hp
        clear hp
        go_wp2_with fail
        refine CF.out.mono ?_
        rintro e9 v9 ⟨rfl, hv9⟩
        have hv8 := hv9.symm
        subst hv8
        go_wp2
        refine ⟨⟨c + 1, by have := HC.out; omega, by simp, fun i hi => ?_, by first | trivial | rfl⟩, by have := HC.out; simp [intOf]; omega⟩
        by_cases l : i < c
        · exact G1.out i l
        · obtain rfl : i = c := by omega
          rw [XE.out]
          exact hp2.out
    · have e6 : n = c := by omega
      subst e6
      exact absurd G1.out HA.out
set_option maxRecDepth 100000 in
set_option maxHeartbeats 4000000 in
theorem hasfar_no (p : Option Addr) (n cp : Nat) (f : Nat → Int) (w : World) (hn : n ≤ 65536) (hf : IsI w p n f) (HA : ∀ i, i < n → far (f i) = false) :
    Calls Tryd.prog 26 #[.slice p n cp, .func (.func 28) #[] #[]] w fun e w' => e = .returned (.bool false) ∧ w' = w := by
  have IX := hid (idxfar_no p n cp f w hn hf HA)
  clear hn hf HA
  go_enter Tryd.func26, Tryd.ntmps26
  go_wp2_with fail
  refine IX.out.mono ?_
  rintro e9 v9 ⟨rfl, hv9⟩
  have hv8 := hv9.symm
  subst hv8
  go_wp2
  go_ret
  exact ⟨rfl, rfl⟩
set_option maxRecDepth 100000 in
set_option maxHeartbeats 4000000 in
theorem hasfar_yes (p : Option Addr) (n cp : Nat) (f : Nat → Int) (w : World) (hn : n ≤ 65536) (hf : IsI w p n f) (HA : ¬ ∀ i, i < n → far (f i) = false) :
    Calls Tryd.prog 26 #[.slice p n cp, .func (.func 28) #[] #[]] w fun e w' => e = .returned (.bool true) ∧ w' = w := by
  have IX := hid (idxfar_yes p n cp f w hn hf HA)
  clear hn hf HA
  go_enter Tryd.func26, Tryd.ntmps26
  go_wp2_with fail
  refine IX.out.mono ?_
  rintro e9 v9 ⟨⟨i, hi, rfl⟩, hv9⟩
  have hv8 := hv9.symm
  subst hv8
  go_wp2
  go_ret
  exact ⟨rfl, rfl⟩
end Sh
end Go.Proofs.YtnnganbcjfkbiaaDoor
