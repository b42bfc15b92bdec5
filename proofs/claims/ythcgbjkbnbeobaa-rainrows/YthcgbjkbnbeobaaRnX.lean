/-
  Fall: walks over the program (layer 18).
-/
import Derived.Test.YthcgbjkbnbeobaaRnP
import Derived.Laws.EntriesVeiled
namespace Go.Proofs.Ythcgbjkbnbeobaa
open Go.RowKit Go.Deep
namespace Rn
open Sh
set_option maxRecDepth 100000 in
set_option maxHeartbeats 16000000 in
theorem fall_go (pw : Option Addr) (lw cw : Nat) (W : Nat → Int) (s : Int) (pr : Option Addr) (lr cr : Nat) (R : Nat → Int × Int × Int × Int) (st : Int) (w : World) (h1 : decide (st < 0) = false) (h2 : out18 s = false) (hlr : lr ≤ 1024) (hlw : lw ≤ 17592186044416) (IW : Hid (IsI w pw lw W)) (IR : Hid (IsRn w pr lr R)) (HW : Hid (∀ i, i < lw → out18 (W i) = false)) (HV : Hid (∀ k, k < lr → vB (lw : Nat) (R k) = true)) (HX : Hid (∀ k, k ≤ lr → (∀ i, i < lw → 0 ≤ (rnN st R (W, s) k).1 i ∧ (rnN st R (W, s) k).1 i ≤ 4616189618054758400) ∧ 0 ≤ (rnN st R (W, s) k).2 ∧ (rnN st R (W, s) k).2 ≤ 4616189618054758400)) (h0 : 0 < lw) :
    Calls Try.prog 12 #[.slice pw lw cw, .int .i64 s, .slice pr lr cr, .int .i64 st] w fun e w' => ∃ v, e = .returned (.tuple #[v, .int .i64 (rnN st R (W, s) lr).2, .int .i64 0]) ∧ Below w.heap.size w w' ∧ Sh.Own w.heap.size v ((List.range lw).map (rnN st R (W, s) lr).1) w' := by
  have H2 := hid h2
  have HLW := hid hlw
  clear h2 hlw
  have hmf : ∀ (fn : Fn) (first cap : Array Value) (w : World), (Instr.makeFunc fn first cap).run Try.prog w = .ok (.func fn first cap) w := fun _ _ _ _ => rfl
  have A0 : Hid (Ab w (w.alloc (.cells #[.int .i64 s] 2))) := bl1 _ _
  have R0 : Hid ((w.alloc (.cells #[.int .i64 s] 2)).heap[w.heap.size]? = some (.cells #[.int .i64 s] 2)) := heap_alloc_new _ _
  have CA : Hid (∀ v, Ab w v → Calls Try.prog 17 #[.int .i64 (lw : Nat), .slice pr lr cr] v fun e w' => e = .returned (.bool true) ∧ Below v.heap.size v w') := fun v a => allv_yes lw pr lr cr R v hlr (IR.out.below a) HV
  have HLR := hid hlr
  clear hlr
  go_enter Try.func12, Try.ntmps12
  go_upto_region 1 with fail
  generalize hW : World.alloc w _ = V0 at *
  obtain ⟨gs, hgs⟩ : ∃ g, w.heap.size = g := ⟨_, rfl⟩
  have HG := hid hgs
  rw [hgs] at R0 ⊢
  clear hgs hW
  have x0 := cell_of_row _ _ 0 _ _ _ R0.out
  have CO := hid (out_at s V0)
  rw [H2.out] at CO
  have CC := hid (CO.out)
  go_wp2_with fail
  refine CC.out.mono ?_
  rintro e9 v9 ⟨rfl, hv9⟩
  have hv8 := hv9.symm
  subst hv8
  clear CC
  have CC := hid (hasout_no pw lw cw W V0 HLW.out (IW.out.below A0.out) HW.out)
  go_wp2_with fail
  refine CC.out.mono ?_
  rintro e9 v9 ⟨rfl, hv9⟩
  have hv8 := hv9.symm
  subst hv8
  clear CC
  have CC := hid (CA.out V0 A0.out)
  go_wp2_with fail
  refine CC.out.mono ?_
  rintro e9 V1 ⟨rfl, b1⟩
  have A1 : Hid (Ab V0 V1) := b1
  clear CC b1
  have R1 := hid (Ab.heap A1.out R0.out)
  have CC := hid (clone18_at pw lw cw W V1 HLW.out (IW.out.below (A0.out.trans A1.out)))
  go_wp2_with fail
  refine CC.out.mono ?_
  rintro e9 V2 ⟨hv, rfl, b2, o2⟩
  have A2 : Hid (Ab V1 V2) := b2
  have O2 := hid o2
  have R2 := hid (Ab.heap A2.out R1.out)
  clear CC b2 o2 x0
  obtain ⟨og, oc, F2, rfl, hog, hoc, hom, row, hF⟩ := own_two18 O2.out h0
  have ogl : og < V2.heap.size := row.lt
  go_upto_region 5 with fail
  have A3 : Hid (Ab V2 ((V2.alloc (.cells #[.slice (some ⟨og, 0, none⟩) lw oc] 22)).alloc (.cells #[.func (.func 19) #[] #[.pointer (some ⟨V2.heap.size, 0, none⟩), .pointer (some ⟨gs, 0, none⟩)]] 41))) := bl2 _ _ _
  have H3 : Hid (((V2.alloc (.cells #[.slice (some ⟨og, 0, none⟩) lw oc] 22)).alloc (.cells #[.func (.func 19) #[] #[.pointer (some ⟨V2.heap.size, 0, none⟩), .pointer (some ⟨gs, 0, none⟩)]] 41)).heap[V2.heap.size]? = some (.cells #[.slice (some ⟨og, 0, none⟩) lw oc] 22)) := heap_alloc2_old _ _ _
  have M3 : Hid (((V2.alloc (.cells #[.slice (some ⟨og, 0, none⟩) lw oc] 22)).alloc (.cells #[.func (.func 19) #[] #[.pointer (some ⟨V2.heap.size, 0, none⟩), .pointer (some ⟨gs, 0, none⟩)]] 41)).heap[V2.heap.size + 1]? = some (.cells #[.func (.func 19) #[] #[.pointer (some ⟨V2.heap.size, 0, none⟩), .pointer (some ⟨gs, 0, none⟩)]] 41)) := heap_alloc2_new _ _ _
  generalize hW : World.alloc (World.alloc V2 _) _ = V3 at *
  have gsl : gs < V1.heap.size := by
    have := Below.size A0.out
    have e1 : gs < V0.heap.size := by
      rcases Nat.lt_or_ge gs V0.heap.size with h | h
      · exact h
      · have := R0.out; rw [Array.getElem?_eq_none h] at this; cases this
    exact Nat.lt_of_lt_of_le e1 A1.out.size
  have DI : Hid (Dis18 gs V2.heap.size (V2.heap.size + 1) og) := ⟨by omega, by omega, by omega, by omega, by omega⟩
  have AT : Hid (At18 gs V2.heap.size (V2.heap.size + 1) og oc lw 41 s W V3) := ⟨Ab.heap A3.out R2.out, H3.out, M3.out, F2, row_ab row A3.out, hF⟩
  have AW : Hid (Ab w V3) := A0.out.trans (A1.out.trans (A2.out.trans A3.out))
  have BG : Hid (gs ≤ og ∧ lw ≤ oc ∧ oc ≤ maxLen) := ⟨by omega, hoc, hom⟩
  have H0 := hid h0
  obtain ⟨gh, hgh⟩ : ∃ g, V2.heap.size = g := ⟨_, rfl⟩
  rw [hgh] at DI AT ⊢
  obtain ⟨gm, hgm⟩ : ∃ g, gh + 1 = g := ⟨_, rfl⟩
  rw [hgm] at DI AT ⊢
  clear hgh hgm hW H3 M3 A3 A0 A1 A2 R0 R1 R2 O2 row hF hog hoc hom ogl gsl CO CA h0
  go_wp2
  go_loopw [41] (fun iv wz => ∃ c : Nat, c ≤ lr ∧ iv = .int .i64 (c : Nat) ∧ Ab w wz ∧ At18 gs gh gm og oc lw 41 (rnN st R (W, s) c).2 (rnN st R (W, s) c).1 wz) (fun iv _ => lr - (intOf iv).toNat)
  case atStart => exact ⟨0, by omega, rfl, AW.out, AT.out⟩
  case round =>
    obtain ⟨c, hc, rfl, ar, ow⟩ := hrel
    have AQ := hid ar
    have OZ := hid ow
    clear ar ow AW AT
    obtain ⟨sk, hsk⟩ : ∃ q, (rnN st R (W, s) c).2 = q := ⟨_, rfl⟩
    have SK := hid hsk
    have hb := HX.out c hc
    rw [hsk] at hb OZ
    have s1 := hb.2.1
    have s2 := hb.2.2
    have XB := hid hb.1
    clear hsk hb
    by_cases hcn : c < lr
    · have HC := hid hcn
      have hcI : (c : Int) < lr := by omega
      have hcB : (c : Int) ≤ 1024 := by have := HLR.out; omega
      obtain ⟨rb, ro, rfl⟩ := IR.out.some0 (show 0 < lr by omega)
      obtain ⟨r1, r2, r3, r4, hr⟩ : ∃ a b c' d, R c = (a, b, c', d) := ⟨_, _, _, _, rfl⟩
      have at0 := ((IR.out.below AQ.out).at0 hcn)
      rw [hr] at at0
      have y0 := at0.2.2.1
      have y1 := at0.2.2.2.1
      have y2 := at0.2.2.2.2.1
      have y3 := at0.2.2.2.2.2
      have RE := hid hr
      clear at0 hr hcn hc
      have ok := vB_iff.1 (HV.out c HC.out)
      rw [RE.out] at ok
      obtain ⟨k, rfl⟩ : ∃ k : Nat, r1 = (k : Nat) := ⟨r1.toNat, by have := ok.1; omega⟩
      have hk : k < lw := by have := ok.2.1; dsimp only at this; omega
      have HK := hid hk
      have ra1 := ok.2.2.1
      have ra2 := ok.2.2.2.1
      dsimp only at ra1 ra2
      obtain ⟨x, hx⟩ : ∃ x, (rnN st R (W, s) c).1 k = x := ⟨_, rfl⟩
      have xb := XB.out k hk
      rw [hx] at xb
      have xb1 := xb.1
      have xb2 := xb.2
      have XE := hid hx
      clear hx xb ok hk
      obtain ⟨gz, hgz⟩ : ∃ g, wr.heap.size = g := ⟨_, rfl⟩
      go_upto_region 10 with fail
      have AL : Hid (Ab wr (wr.alloc (.cells #[.int .i64 (k : Nat), .int .i64 r2, .int .i64 r3, .int .i64 r4] 29))) := bl1 _ _
      have RZ : Hid ((wr.alloc (.cells #[.int .i64 (k : Nat), .int .i64 r2, .int .i64 r3, .int .i64 r4] 29)).heap[gz]? = some (.cells #[.int .i64 (k : Nat), .int .i64 r2, .int .i64 r3, .int .i64 r4] 29)) := by rw [← hgz]; exact heap_alloc_new _ _
      generalize hW : World.alloc wr _ = V4 at *
      clear hW hgz y0 y1 y2 y3
      have x0 := cell_of_row _ _ 0 _ _ _ RZ.out
      have x1 := cell_of_row _ _ 1 _ _ _ RZ.out
      have x2 := cell_of_row _ _ 2 _ _ _ RZ.out
      have x3 := cell_of_row _ _ 3 _ _ _ RZ.out
      have CF := hid (falls_at (k : Nat) r2 r3 r4 st V4)
      have FE : Hid (fallB st ((k : Nat), r2, r3, r4) = (decide (r3 ≤ st) && decide (st < r4))) := rfl
      cases fb : fallB st ((k : Nat), r2, r3, r4) with
      | false =>
        have NX : Hid (rnN st R (W, s) (c + 1) = rnN st R (W, s) c) := rn_skip RE.out (by
          rw [FE.out] at fb
          rcases Bool.and_eq_false_iff.1 fb with h | h
          · have := of_decide_eq_false h; exact .inl (by omega)
          · have := of_decide_eq_false h; exact .inr (by omega))
        rw [fb] at CF
        clear fb FE
        go_wp2_with fail
        refine CF.out.mono ?_
        rintro e9 V5 ⟨rfl, b5⟩
        have A5 : Hid (Ab wr V5) := AL.out.trans b5
        clear b5
        go_wp2
        exact ⟨⟨c + 1, by have := HC.out; omega, by simp, AQ.out.trans A5.out, by rw [NX.out, SK.out]; exact OZ.out.to A5.out⟩, by have := HC.out; simp [intOf]; omega⟩
      | true =>
        have fb2 := fb
        rw [FE.out, Bool.and_eq_true, decide_eq_true_eq, decide_eq_true_eq] at fb2
        have NF := hid (rn_fall RE.out (show ¬ st < r3 by omega) (show ¬ r4 ≤ st by omega) SK.out XE.out)
        rw [fb] at CF
        clear fb fb2 FE
        have dI := dn_in (a := r2) s1 xb1
        have dB := dn_bd (a := r2) (m := 4503599627370496) s1 xb1 ⟨ra1, ra2⟩
        obtain ⟨d, hd⟩ : ∃ d, dn r2 sk x = d := ⟨_, rfl⟩
        rw [hd] at dI dB NF
        have DE := hid hd
        have d1 := dI.1
        have d2 := dI.2
        have d3 := dB.1
        have d4 := dB.2
        clear hd dI dB
        go_wp2_with fail
        refine CF.out.mono ?_
        rintro e9 V5 ⟨rfl, b5⟩
        have A5 : Hid (Ab wr V5) := AL.out.trans b5
        have R5 := hid (Ab.heap b5 RZ.out)
        clear b5 x0 x1 x2 x3
        have x0 := cell_of_row _ _ 0 _ _ _ R5.out
        have x1 := cell_of_row _ _ 1 _ _ _ R5.out
        have x2 := cell_of_row _ _ 2 _ _ _ R5.out
        have x3 := cell_of_row _ _ 3 _ _ _ R5.out
        have O5 := hid (OZ.out.to A5.out)
        by_cases f3 : 0 < r2
        · have e3 : decide (0 < r2) = true := decide_eq_true f3
          have dq : (if sk < r2 then sk else r2) = d := by
            rw [← DE.out]
            unfold dn
            rw [if_neg (show ¬ r2 < 0 by omega)]
          have CG := hid (fall18 gs gh gm og oc lw k 41 sk x d r2 r3 r4 _ V5 O5.out DI.out BG.out.2.1 HLW.out HK.out XE.out dq (by omega) (by omega) (by omega) (by omega))
          clear dq f3
          go_wp2_with fail
          refine CG.out.mono ?_
          rintro e8 V6 ⟨rfl, u6, a6, hv6⟩
          have A6 := hid a6
          have E6 := hid hv6
          clear a6 hv6 CG
          go_wp2
          refine ⟨⟨c + 1, by have := HC.out; omega, by simp, ?_, ?_⟩, by have := HC.out; simp [intOf]; omega⟩
          · rw [E6.out]
            exact mov_ab (AQ.out.trans (A5.out.trans A6.out)) (Nat.le_of_eq HG.out) (by rw [HG.out]; exact BG.out.1)
          · rw [E6.out, NF.out.1]
            exact ((O5.out.to A6.out).mov DI.out k _ _).congr (fun i _ => (NF.out.2 i).symm)
        · have e3 : decide (0 < r2) = false := decide_eq_false f3
          by_cases f4 : r2 < 0
          · have e4 : decide (r2 < 0) = true := decide_eq_true f4
            obtain ⟨q, hq⟩ : ∃ q, (if x < -r2 then x else -r2) = q := ⟨_, rfl⟩
            have dq : d = -q := by
              rw [← DE.out, ← hq]
              unfold dn
              rw [if_pos f4]
            have CG := hid (up18 gs gh gm og oc lw k 41 sk x q r2 r3 r4 _ V5 O5.out DI.out BG.out.2.1 HLW.out HK.out XE.out hq (by omega) (by omega) (by omega) (by omega) (by omega) (by omega) (by omega) (by omega))
            clear hq f3 f4
            go_wp2_with fail
            refine CG.out.mono ?_
            rintro e8 V6 ⟨rfl, u6, a6, hv6⟩
            have A6 := hid a6
            have E6 := hid hv6
            clear a6 hv6 CG
            go_wp2
            refine ⟨⟨c + 1, by have := HC.out; omega, by simp, ?_, ?_⟩, by have := HC.out; simp [intOf]; omega⟩
            · rw [E6.out]
              exact mov_ab (AQ.out.trans (A5.out.trans A6.out)) (Nat.le_of_eq HG.out) (by rw [HG.out]; exact BG.out.1)
            · rw [E6.out, NF.out.1, dq]
              exact ((O5.out.to A6.out).mov DI.out k _ _).congr (fun i _ => by rw [← dq]; exact (NF.out.2 i).symm)
          · have e4 : decide (r2 < 0) = false := decide_eq_false f4
            have r20 : r2 = 0 := by omega
            have d0 : d = 0 := by
              rw [← DE.out, r20]
              unfold dn
              rw [if_neg (by decide)]
              split <;> omega
            clear f3 f4 r20
            go_wp2
            refine ⟨⟨c + 1, by have := HC.out; omega, by simp, AQ.out.trans A5.out, ?_⟩, by have := HC.out; simp [intOf]; omega⟩
            rw [NF.out.1, d0, Int.sub_zero]
            refine O5.out.congr (fun i _ => ?_)
            rw [NF.out.2 i, d0]
            by_cases e : i = k
            · rw [if_pos e, e, XE.out]
              omega
            · rw [if_neg e]
    · have e6 : lr = c := by omega
      subst e6
      have x0 := cell_of_row _ _ 0 _ _ _ OZ.out.1
      have x1 := cell_of_row _ _ 0 _ _ _ OZ.out.2.1
      go_wp2
      go_region
      go_wp2
      go_ret3
      obtain ⟨-, -, -, F9, r9, f9⟩ := OZ.out
      exact ⟨_, by rw [SK.out]; rfl, by exact AQ.out.drew, by rw [HG.out]; exact row_own18 r9.drew BG.out.1 BG.out.2.1 BG.out.2.2 f9⟩
set_option maxRecDepth 100000 in
set_option maxHeartbeats 16000000 in
theorem fall_go0 (pw : Option Addr) (lw cw : Nat) (W : Nat → Int) (s : Int) (pr : Option Addr) (lr cr : Nat) (R : Nat → Int × Int × Int × Int) (st : Int) (w : World) (h1 : decide (st < 0) = false) (h2 : out18 s = false) (hlr : lr ≤ 1024) (hlw : lw ≤ 17592186044416) (IW : Hid (IsI w pw lw W)) (IR : Hid (IsRn w pr lr R)) (HW : Hid (∀ i, i < lw → out18 (W i) = false)) (HV : Hid (∀ k, k < lr → vB (lw : Nat) (R k) = true)) (HZ : Hid (lw = 0)) (HY : Hid (lr = 0)) :
    Calls Try.prog 12 #[.slice pw lw cw, .int .i64 s, .slice pr lr cr, .int .i64 st] w fun e w' => ∃ v, e = .returned (.tuple #[v, .int .i64 (rnN st R (W, s) lr).2, .int .i64 0]) ∧ Below w.heap.size w w' ∧ Sh.Own w.heap.size v ((List.range lw).map (rnN st R (W, s) lr).1) w' := by
  have H2 := hid h2
  have HLW := hid hlw
  clear h2 hlw
  have hmf : ∀ (fn : Fn) (first cap : Array Value) (w : World), (Instr.makeFunc fn first cap).run Try.prog w = .ok (.func fn first cap) w := fun _ _ _ _ => rfl
  have A0 : Hid (Ab w (w.alloc (.cells #[.int .i64 s] 2))) := bl1 _ _
  have R0 : Hid ((w.alloc (.cells #[.int .i64 s] 2)).heap[w.heap.size]? = some (.cells #[.int .i64 s] 2)) := heap_alloc_new _ _
  have CA : Hid (∀ v, Ab w v → Calls Try.prog 17 #[.int .i64 (lw : Nat), .slice pr lr cr] v fun e w' => e = .returned (.bool true) ∧ Below v.heap.size v w') := fun v a => allv_yes lw pr lr cr R v hlr (IR.out.below a) HV
  have HLR := hid hlr
  clear hlr
  go_enter Try.func12, Try.ntmps12
  go_upto_region 1 with fail
  generalize hW : World.alloc w _ = V0 at *
  obtain ⟨gs, hgs⟩ : ∃ g, w.heap.size = g := ⟨_, rfl⟩
  have HG := hid hgs
  rw [hgs] at R0 ⊢
  clear hgs hW
  have x0 := cell_of_row _ _ 0 _ _ _ R0.out
  have CO := hid (out_at s V0)
  rw [H2.out] at CO
  have CC := hid (CO.out)
  go_wp2_with fail
  refine CC.out.mono ?_
  rintro e9 v9 ⟨rfl, hv9⟩
  have hv8 := hv9.symm
  subst hv8
  clear CC
  have CC := hid (hasout_no pw lw cw W V0 HLW.out (IW.out.below A0.out) HW.out)
  go_wp2_with fail
  refine CC.out.mono ?_
  rintro e9 v9 ⟨rfl, hv9⟩
  have hv8 := hv9.symm
  subst hv8
  clear CC
  have CC := hid (CA.out V0 A0.out)
  go_wp2_with fail
  refine CC.out.mono ?_
  rintro e9 V1 ⟨rfl, b1⟩
  have A1 : Hid (Ab V0 V1) := b1
  clear CC b1
  have R1 := hid (Ab.heap A1.out R0.out)
  have CC := hid (clone18_at pw lw cw W V1 HLW.out (IW.out.below (A0.out.trans A1.out)))
  go_wp2_with fail
  refine CC.out.mono ?_
  rintro e9 V2 ⟨hv, rfl, b2, o2⟩
  have A2 : Hid (Ab V1 V2) := b2
  have O2 := hid o2
  have R2 := hid (Ab.heap A2.out R1.out)
  clear CC b2 o2 x0
  obtain ⟨oa, oc, he⟩ : ∃ a0 cap, hv = .slice a0 lw cap := by
    rcases O2.out.2 with ⟨q, h0⟩ | ⟨g, cap, cur, q, _⟩
    · refine ⟨none, 0, ?_⟩
      rw [q]
      simp at h0
      rw [h0]
    · refine ⟨some ⟨g, 0, none⟩, cap, ?_⟩
      rw [q]
      simp
  subst he
  go_upto_region 5 with fail
  have A3 : Hid (Ab V2 ((V2.alloc (.cells #[.slice oa lw oc] 22)).alloc (.cells #[.func (.func 19) #[] #[.pointer (some ⟨V2.heap.size, 0, none⟩), .pointer (some ⟨gs, 0, none⟩)]] 41))) := bl2 _ _ _
  have H3 : Hid (((V2.alloc (.cells #[.slice oa lw oc] 22)).alloc (.cells #[.func (.func 19) #[] #[.pointer (some ⟨V2.heap.size, 0, none⟩), .pointer (some ⟨gs, 0, none⟩)]] 41)).heap[V2.heap.size]? = some (.cells #[.slice oa lw oc] 22)) := heap_alloc2_old _ _ _
  have M3 : Hid (((V2.alloc (.cells #[.slice oa lw oc] 22)).alloc (.cells #[.func (.func 19) #[] #[.pointer (some ⟨V2.heap.size, 0, none⟩), .pointer (some ⟨gs, 0, none⟩)]] 41)).heap[V2.heap.size + 1]? = some (.cells #[.func (.func 19) #[] #[.pointer (some ⟨V2.heap.size, 0, none⟩), .pointer (some ⟨gs, 0, none⟩)]] 41)) := heap_alloc2_new _ _ _
  generalize hW : World.alloc (World.alloc V2 _) _ = V3 at *
  have AW : Hid (Ab w V3) := A0.out.trans (A1.out.trans (A2.out.trans A3.out))
  have O3 := hid (O2.out.to A3.out)
  have R3 := hid (Ab.heap A3.out R2.out)
  have B1 : Hid (w.heap.size ≤ V1.heap.size) := (A0.out.trans A1.out).size
  obtain ⟨gh, hgh⟩ : ∃ g, V2.heap.size = g := ⟨_, rfl⟩
  rw [hgh] at H3 ⊢
  have x0 := cell_of_row _ _ 0 _ _ _ R3.out
  have x1 := cell_of_row _ _ 0 _ _ _ H3.out
  have h00 := HY.out
  subst h00
  clear hgh hW M3 A3 A0 A1 A2 R0 R1 R2 O2 CO CA HY
  go_wp2
  go_loopw [41] (fun iv wz => iv = .int .i64 0 ∧ wz = V3) (fun _ _ => 0)
  case atStart => exact ⟨rfl, rfl⟩
  case round =>
    obtain ⟨rfl, hwr⟩ := hrel
    have hw2 := hwr.symm
    subst hw2
    go_wp2
    go_region
    go_wp2
    go_ret3
    refine ⟨_, rfl, by exact AW.out.drew, ?_⟩
    have o := O3.out
    rw [HZ.out] at o ⊢
    rcases o.2 with ⟨q, e⟩ | ⟨g, cap, cur, q, hb, rest⟩
    · exact ⟨o.1, .inl ⟨q, e⟩⟩
    · exact ⟨o.1, .inr ⟨g, cap, cur, q, Nat.le_trans B1.out hb, rest⟩⟩
/-- WHAT FALL ANSWERS -/
theorem fallC : FallC := fun pw lw cw W s pr lr cr R st w _ _ hlw hlr iw ir => by
  by_cases h1 : st < 0
  · exact ⟨fun g => absurd g.1 (by omega), fun _ => fall_no1 pw lw cw s pr lr cr st w (decide_eq_true h1)⟩
  · cases h2 : out18 s with
    | true => exact ⟨fun g => absurd (out_iff.2 g.2.1) (by rw [h2]; decide), fun _ => fall_no2 pw lw cw s pr lr cr st w (decide_eq_false h1) h2⟩
    | false =>
      by_cases h5 : ∀ i, i < lw → out18 (W i) = false
      · by_cases h6 : 1024 < lr ∨ ¬ ∀ k, k < lr → vB (lw : Nat) (R k) = true
        · refine ⟨fun g => ?_, fun _ => fall_no4 pw lw cw W s pr lr cr R st w (decide_eq_false h1) h2 hlw iw ir h5 h6⟩
          rcases h6 with h | h
          · exact absurd g.2.2.1 (by omega)
          · exact absurd (fun k hk => vB_iff.2 (g.2.2.2.2 k hk)) h
        · have h7 : lr ≤ 1024 := by
            rcases Nat.lt_or_ge 1024 lr with h | h
            · exact absurd (.inl h) h6
            · exact h
          have h8 : ∀ k, k < lr → vB (lw : Nat) (R k) = true := Classical.byContradiction fun h => h6 (.inr h)
          have g : good18 lw W s lr R st := ⟨by omega, out_iff.1 h2, h7, fun i hi => out_iff.1 (h5 i hi), fun k hk => vB_iff.1 (h8 k hk)⟩
          refine ⟨fun _ => ?_, fun n => absurd g n⟩
          rcases Nat.eq_zero_or_pos lw with h0 | h0
          · refine fall_go0 pw lw cw W s pr lr cr R st w (decide_eq_false h1) h2 h7 hlw iw ir h5 h8 h0 ?_
            rcases Nat.eq_zero_or_pos lr with h | h
            · exact h
            · have := g.2.2.2.2 0 h
              have a := this.1
              have b := this.2.1
              omega
          · exact fall_go pw lw cw W s pr lr cr R st w (decide_eq_false h1) h2 h7 hlw iw ir h5 h8 (fun k hk => good18_ok ⟨g.1, g.2.1, by omega, g.2.2.2.1, fun j hj => g.2.2.2.2 j (by omega)⟩) h0
      · exact ⟨fun g => absurd (fun i hi => out_iff.2 (g.2.2.2.1 i hi)) h5, fun _ => fall_no3 pw lw cw W s pr lr cr st w (decide_eq_false h1) h2 hlw iw h5⟩
end Rn
end Go.Proofs.Ythcgbjkbnbeobaa
