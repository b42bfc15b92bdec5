/-
  Some of the texts of this proof, one behind the other.
-/
import Derived.Test.YtkckcohemalhiaaGreatDoorRa09
namespace Go.Proofs.YtkckcohemalhiaaGreatDoor
open Go.RowKit Tf Cu Go.Deep
attribute [local go_sem] run_bits run_from raw_feq raw_fne raw_flt raw_fgt run_neg run_store_float
namespace Rv
set_option maxRecDepth 100000 in
set_option maxHeartbeats 16000000 in
theorem deep19_no (side : Int) {pb : Option Addr} {lb cb : Nat} {pw : Option Addr} {lw cw : Nat} {pt : Option Addr} {lt ct : Nat} {ps : Option Addr} {ls cs : Nat} {sky st : Int} (w : World)
    (LV : Hid (∀ v, Ab w v → Calls Tryz.prog 8 #[] v fun e w' => e = .returned (.bool true) ∧ Below v.heap.size v w'))
    (NW : Hid (∀ v, Calls Tryz.prog 9 #[.int .i64 side] v fun e w' => e = .returned (.tuple #[.pointer none, .int .i64 10]) ∧ w' = v)) :
    Calls Tryz.prog 6 #[.int .i64 side, .agg #[.slice pb lb cb, .slice pw lw cw, .slice pt lt ct, .slice ps ls cs, .int .i64 sky, .int .i64 st]] w fun e w' => e = .returned (.bool true) ∧ Below w.heap.size w w' := by
  have A0 : Hid (Ab w (w.alloc (.cells #[.slice pb lb cb, .slice pw lw cw, .slice pt lt ct, .slice ps ls cs, .int .i64 sky, .int .i64 st] 25))) := bl1 _ _
  have R0 : Hid ((w.alloc (.cells #[.slice pb lb cb, .slice pw lw cw, .slice pt lt ct, .slice ps ls cs, .int .i64 sky, .int .i64 st] 25)).heap[w.heap.size]? = some (.cells #[.slice pb lb cb, .slice pw lw cw, .slice pt lt ct, .slice ps ls cs, .int .i64 sky, .int .i64 st] 25)) := heap_alloc_new _ _
  go_enter Tryz.func6, Tryz.ntmps6
  go_upto_region 1 with fail
  generalize hW : World.alloc w _ = W0 at *
  obtain ⟨gw, hgw⟩ : ∃ g, w.heap.size = g := ⟨_, rfl⟩
  rw [hgw] at R0 ⊢
  clear hgw hW
  go_wp2_with fail
  refine (LV.out _ A0.out).mono ?_
  rintro e9 v0 ⟨rfl, b0⟩
  have A1 : Hid (Ab w v0) := A0.out.trans b0
  have R1 := hid (Ab.heap b0 R0.out)
  clear b0 A0 R0
  go_wp2_with fail
  refine (NW.out _).mono ?_
  rintro e9 v9 ⟨rfl, hv9⟩
  have hv8 := hv9.symm
  subst hv8
  go_wp2
  go_ret
  exact ⟨rfl, A1.out⟩
set_option maxRecDepth 100000 in
set_option maxHeartbeats 16000000 in
theorem deep19_bad (n : Nat) (side : Int) {pb : Option Addr} {lb cb : Nat} {pw : Option Addr} {lw cw : Nat} {pt : Option Addr} {lt ct : Nat} {ps : Option Addr} {ls cs : Nat} {sky st : Int} (w : World)
    (LV : Hid (∀ v, Ab w v → Calls Tryz.prog 8 #[] v fun e w' => e = .returned (.bool true) ∧ Below v.heap.size v w'))
    (NW : Hid (∀ v, Ab w v → Calls Tryz.prog 9 #[.int .i64 side] v fun e w' => ∃ gb, e = .returned (.tuple #[.pointer (some ⟨gb, 0, none⟩), .int .i64 0]) ∧ Ab v w' ∧ GridOf n gb w'))
    (RN : Hid (∀ v gb, Ab w v → GridOf n gb v → Calls Tryz.prog 10 #[.pointer (some ⟨gb, 0, none⟩), .agg #[.slice pb lb cb, .slice pw lw cw, .slice pt lt ct, .slice ps ls cs, .int .i64 sky, .int .i64 st]] v fun e w' => e = .returned (.tuple #[.slice none 0 0, .slice none 0 0, .int .i64 1]) ∧ Below v.heap.size v w')) :
    Calls Tryz.prog 6 #[.int .i64 side, .agg #[.slice pb lb cb, .slice pw lw cw, .slice pt lt ct, .slice ps ls cs, .int .i64 sky, .int .i64 st]] w fun e w' => e = .returned (.bool true) ∧ Below w.heap.size w w' := by
  have A0 : Hid (Ab w (w.alloc (.cells #[.slice pb lb cb, .slice pw lw cw, .slice pt lt ct, .slice ps ls cs, .int .i64 sky, .int .i64 st] 25))) := bl1 _ _
  have R0 : Hid ((w.alloc (.cells #[.slice pb lb cb, .slice pw lw cw, .slice pt lt ct, .slice ps ls cs, .int .i64 sky, .int .i64 st] 25)).heap[w.heap.size]? = some (.cells #[.slice pb lb cb, .slice pw lw cw, .slice pt lt ct, .slice ps ls cs, .int .i64 sky, .int .i64 st] 25)) := heap_alloc_new _ _
  go_enter Tryz.func6, Tryz.ntmps6
  go_upto_region 1 with fail
  generalize hW : World.alloc w _ = W0 at *
  obtain ⟨gw, hgw⟩ : ∃ g, w.heap.size = g := ⟨_, rfl⟩
  rw [hgw] at R0 ⊢
  clear hgw hW
  go_wp2_with fail
  refine (LV.out _ A0.out).mono ?_
  rintro e9 v0 ⟨rfl, b0⟩
  have A1 : Hid (Ab w v0) := A0.out.trans b0
  have R1 := hid (Ab.heap b0 R0.out)
  clear b0 A0 R0
  go_wp2_with fail
  refine (NW.out v0 A1.out).mono ?_
  rintro e9 v1 ⟨gb, rfl, a1, g1⟩
  have A2 : Hid (Ab w v1) := A1.out.trans a1
  have R2 := hid (Ab.heap a1 R1.out)
  have G1 := hid g1
  clear a1 g1 A1 R1
  have x0 := cell_of_row _ _ 0 _ _ _ R2.out
  have x1 := cell_of_row _ _ 1 _ _ _ R2.out
  have x2 := cell_of_row _ _ 2 _ _ _ R2.out
  have x3 := cell_of_row _ _ 3 _ _ _ R2.out
  have x4 := cell_of_row _ _ 4 _ _ _ R2.out
  have x5 := cell_of_row _ _ 5 _ _ _ R2.out
  go_wp2_with fail
  refine (RN.out _ gb A2.out G1.out).mono ?_
  rintro e9 v2 ⟨rfl, b2⟩
  have A3 : Hid (Ab w v2) := A2.out.trans b2
  clear b2
  go_wp2
  go_ret
  exact ⟨rfl, A3.out⟩
set_option maxRecDepth 100000 in
set_option maxHeartbeats 16000000 in
theorem deep19_go (n N : Nat) (side : Int) {pb : Option Addr} {cb : Nat} {pw : Option Addr} {cw : Nat} {pt : Option Addr} {ct : Nat} {ps : Option Addr} {ls cs : Nat} {sky st : Int} {W T : Nat → Int} (X Y : Nat → Int) (dn : Nat → Int) (ar : Nat → Int) (dp : Int → Nat → Nat) (w : World) (hN : N ≤ 6144) (hN0 : 0 < N) (IW : Hid (Sh.IsI w pw N W)) (IT : Hid (Sh.IsI w pt N T))
    (OW : Hid (okV N W ∧ okV N T))
    (EQ : Hid (((∀ c, c < N → W c < 4) ∨ ∀ c, c < N → ¬ (0 < W c ∧ 0 ≤ dn c ∧ flt (dp (W c) c) 4602678819172646912 = true)) → ∀ c, c < N → X c = W c ∧ Y c = T c))
    (LV : Hid (∀ v, Ab w v → Calls Tryz.prog 8 #[] v fun e w' => e = .returned (.bool true) ∧ Below v.heap.size v w'))
    (NW : Hid (∀ v, Ab w v → Calls Tryz.prog 9 #[.int .i64 side] v fun e w' => ∃ gb, e = .returned (.tuple #[.pointer (some ⟨gb, 0, none⟩), .int .i64 0]) ∧ Ab v w' ∧ GridOf n gb w'))
    (RN : Hid (∀ v gb, Ab w v → GridOf n gb v → Calls Tryz.prog 10 #[.pointer (some ⟨gb, 0, none⟩), .agg #[.slice pb N cb, .slice pw N cw, .slice pt N ct, .slice ps ls cs, .int .i64 sky, .int .i64 st]] v fun e w' => ∃ p1 c1 p2 c2, e = .returned (.tuple #[.slice p1 N c1, .slice p2 N c2, .int .i64 0]) ∧ Below v.heap.size v w' ∧ Sh.IsI w' p1 N X ∧ Sh.IsI w' p2 N Y))
    (DW : Hid (∀ v gb (c : Nat), Ab w v → GridOf n gb v → c < N → Calls Tryz.prog 12 #[.pointer (some ⟨gb, 0, none⟩), .slice pb N cb, .int .i64 (c : Nat)] v fun e w' => e = .returned (.int .i64 (dn c)) ∧ Below v.heap.size v w'))
    (AR0 : Hid (∀ v gb (c : Nat), Ab w v → GridOf n gb v → c < N → Calls Tryz.prog 18 #[.pointer (some ⟨gb, 0, none⟩), .int .i64 (c : Nat)] v fun e w' => e = .returned (.int .i64 (ar c)) ∧ Below v.heap.size v w'))
    (DP : Hid (∀ v (c : Nat) (x : Int), c < N → x ≤ 4503599627370496 → Calls Tryz.prog 17 #[.int .i64 x, .int .i64 (ar c)] v fun e w' => e = .returned (.float .f64 (dp x c)) ∧ Below v.heap.size v w')) :
    Calls Tryz.prog 6 #[.int .i64 side, .agg #[.slice pb N cb, .slice pw N cw, .slice pt N ct, .slice ps ls cs, .int .i64 sky, .int .i64 st]] w fun e w' => e = .returned (.bool true) ∧ Below w.heap.size w w' := by
  have HN := hid (And.intro hN hN0)
  clear hN hN0
  have A0 : Hid (Ab w (w.alloc (.cells #[.slice pb N cb, .slice pw N cw, .slice pt N ct, .slice ps ls cs, .int .i64 sky, .int .i64 st] 25))) := bl1 _ _
  have R0 : Hid ((w.alloc (.cells #[.slice pb N cb, .slice pw N cw, .slice pt N ct, .slice ps ls cs, .int .i64 sky, .int .i64 st] 25)).heap[w.heap.size]? = some (.cells #[.slice pb N cb, .slice pw N cw, .slice pt N ct, .slice ps ls cs, .int .i64 sky, .int .i64 st] 25)) := heap_alloc_new _ _
  go_enter Tryz.func6, Tryz.ntmps6
  go_upto_region 1 with fail
  generalize hW : World.alloc w _ = W0 at *
  obtain ⟨gw, hgw⟩ : ∃ g, w.heap.size = g := ⟨_, rfl⟩
  rw [hgw] at R0 ⊢
  clear hgw hW
  go_wp2_with fail
  refine (LV.out _ A0.out).mono ?_
  rintro e9 v0 ⟨rfl, b0⟩
  have A1 : Hid (Ab w v0) := A0.out.trans b0
  have R1 := hid (Ab.heap b0 R0.out)
  clear b0 A0 R0
  go_wp2_with fail
  refine (NW.out v0 A1.out).mono ?_
  rintro e9 v1 ⟨gb, rfl, a1, g1⟩
  have A2 : Hid (Ab w v1) := A1.out.trans a1
  have R2 := hid (Ab.heap a1 R1.out)
  have G1 := hid g1
  clear a1 g1 A1 R1
  have x0 := cell_of_row _ _ 0 _ _ _ R2.out
  have x1 := cell_of_row _ _ 1 _ _ _ R2.out
  have x2 := cell_of_row _ _ 2 _ _ _ R2.out
  have x3 := cell_of_row _ _ 3 _ _ _ R2.out
  have x4 := cell_of_row _ _ 4 _ _ _ R2.out
  have x5 := cell_of_row _ _ 5 _ _ _ R2.out
  go_wp2_with fail
  refine (RN.out _ gb A2.out G1.out).mono ?_
  rintro e9 v2 ⟨p1, c1, p2, c2, rfl, b2, i1, i2⟩
  have A3 : Hid (Ab w v2) := A2.out.trans b2
  have R3 := hid (Ab.heap b2 R2.out)
  have G2 := hid (G1.out.to b2)
  have I1 := hid i1
  have I2 := hid i2
  clear b2 i1 i2 x0 x1 x2 x3 x4 x5 R2
  obtain ⟨q3, r3, rfl⟩ := IW.out.some0 HN.out.2
  go_wp2
  go_loopw [9, 10] (fun fv iv wr => ∃ c : Nat, c ≤ N ∧ iv = .int .i64 (c : Nat) ∧ (∃ f : Bool, fv = .bool f ∧ (f = true ↔ ∀ i, i < c → W i < 4)) ∧ Ab v2 wr) (fun _ iv _ => N - (intOf iv).toNat)
  case atStart => exact ⟨0, by omega, rfl, ⟨true, rfl, by simp⟩, Ab.refl v2⟩
  case round =>
    obtain ⟨c, hc, rfl, ⟨f, rfl, hf⟩, ar⟩ := hrel
    have AR := hid ar
    have HFW := hid hf
    have x1 := cell_of_row _ _ 1 _ _ _ (AR.out.heap R3.out)
    clear ar hf
    by_cases hcn : c < N
    · have HC := hid hcn
      have cI : (c : Int) < N := by omega
      have cB : (c : Int) ≤ 6144 := by have := HN.out; omega
      obtain ⟨a, ha⟩ : ∃ x, W c = x := ⟨_, rfl⟩
      have ac : wr.cell? ⟨q3, r3 + c, none⟩ = some (.int .i64 a) := by rw [← ha]; exact ((IW.out.below (A3.out.trans AR.out)).at0 hcn).2.2
      have AE := hid ha
      clear ha hcn hc
      have NXT : Hid (∀ g : Bool, g = (f && decide (a < 4)) → (g = true ↔ ∀ i, i < c + 1 → W i < 4)) := fun g hg => by
        rw [hg, Bool.and_eq_true, HFW.out, decide_eq_true_eq]
        constructor
        · rintro ⟨h1, h2⟩ i hi
          by_cases e : i = c
          · rw [e, AE.out]; exact h2
          · exact h1 i (by omega)
        · intro h
          exact ⟨fun i hi => h i (by omega), by rw [← AE.out]; exact h c (by omega)⟩
      cases f with
      | false =>
        go_wp2
        exact ⟨⟨c + 1, by have := HC.out; omega, by simp, ⟨false, rfl, NXT.out false rfl⟩, AR.out⟩, by have := HC.out; simp [intOf]; omega⟩
      | true =>
        cases d4 : decide (a < 4) with
        | false =>
          go_wp2
          exact ⟨⟨c + 1, by have := HC.out; omega, by simp, ⟨false, rfl, NXT.out false (by rw [d4]; rfl)⟩, AR.out⟩, by have := HC.out; simp [intOf]; omega⟩
        | true =>
          go_wp2
          exact ⟨⟨c + 1, by have := HC.out; omega, by simp, ⟨true, rfl, NXT.out true (by rw [d4]; rfl)⟩, AR.out⟩, by have := HC.out; simp [intOf]; omega⟩
    · have e6 : N = c := by omega
      subst e6
      cases f with
      | true =>
        have FEW := HFW.out.1 rfl
        have FW : Hid ((∀ c, c < N → W c < 4) ∨ ∀ c, c < N → ¬ (0 < W c ∧ 0 ≤ dn c ∧ flt (dp (W c) c) 4602678819172646912 = true)) := .inl FEW
        clear FEW HFW
        go_wp2
        go_loopw [11] (fun iv wz => iv = .int .i64 0 ∧ Ab v2 wz) (fun _ _ => 0)
        case atStart => exact ⟨rfl, AR.out⟩
        case round =>
          obtain ⟨rfl, aq⟩ := hrel
          rename World => wz
          have AZ := hid aq
          have x9 := cell_of_row _ _ 1 _ _ _ (AZ.out.heap R3.out)
          have n0 := HN.out.2
          have n0I : (0 : Int) < (N : Int) := by omega
          clear aq
          go_upto_region 19 with fail
          have R9 := hid (Ab.heap AZ.out R3.out)
          have x1 := cell_of_row _ _ 1 _ _ _ R9.out
          have J1 := hid (I1.out.below AZ.out)
          have J2 := hid (I2.out.below AZ.out)
          go_wp2_with fail
          refine (ints19_at _ _ N _ _ W _ (by have := HN.out; omega) (Sh.IsI.congr J1.out (fun k hk => (EQ.out FW.out k hk).1)) (IW.out.below (A3.out.trans AZ.out))).mono ?_
          rintro e9 u1 ⟨rfl, b5⟩
          have AU : Hid (Ab v2 u1) := AZ.out.trans b5
          have Ra := hid (Ab.heap AU.out R3.out)
          have x2 := cell_of_row _ _ 2 _ _ _ Ra.out
          clear b5
          go_wp2_with fail
          refine (ints19_at _ _ N _ _ T _ (by have := HN.out; omega) (Sh.IsI.congr (I2.out.below AU.out) (fun k hk => (EQ.out FW.out k hk).2)) (IT.out.below (A3.out.trans AU.out))).mono ?_
          rintro e9 u2 ⟨rfl, b6⟩
          have AF : Hid (Ab w u2) := A3.out.trans (AU.out.trans b6)
          clear b6
          go_wp2
          go_ret
          exact ⟨rfl, AF.out⟩
      | false =>
        clear HFW
        go_wp2
        go_loopw [11] (fun iv wz => ∃ c : Nat, c ≤ N ∧ iv = .int .i64 (c : Nat) ∧ Ab v2 wz ∧ ∀ i, i < c → ¬ (0 < W i ∧ 0 ≤ dn i ∧ flt (dp (W i) i) 4602678819172646912 = true)) (fun iv _ => N - (intOf iv).toNat)
        case atStart => exact ⟨0, by omega, rfl, AR.out, fun i hi => absurd hi (Nat.not_lt_zero i)⟩
        case round =>
          obtain ⟨c, hc, rfl, aq, no⟩ := hrel
          rename World => wz
          have AZ := hid aq
          have NO := hid no
          have x9 := cell_of_row _ _ 1 _ _ _ (AZ.out.heap R3.out)
          clear aq no
          by_cases hcn : c < N
          · have HC := hid hcn
            have cI : (c : Int) < N := by omega
            have cB : (c : Int) ≤ 6144 := by have := HN.out; omega
            obtain ⟨a, ha⟩ : ∃ x, W c = x := ⟨_, rfl⟩
            obtain ⟨d, hd⟩ : ∃ x, dn c = x := ⟨_, rfl⟩
            obtain ⟨r, hr⟩ : ∃ x, ar c = x := ⟨_, rfl⟩
            obtain ⟨z, hz⟩ : ∃ x, dp a c = x := ⟨_, rfl⟩
            have ab := (OW.out.1.b hcn).2
            rw [ha] at ab
            have ACC : Hid (∀ v, Ab v2 v → v.cell? ⟨q3, r3 + c, none⟩ = some (.int .i64 a)) := fun v q => by rw [← ha]; exact ((IW.out.below (A3.out.trans q)).at0 hcn).2.2
            have CD : Hid (∀ v, Ab v2 v → Calls Tryz.prog 12 #[.pointer (some ⟨gb, 0, none⟩), .slice pb N cb, .int .i64 (c : Nat)] v fun e w' => e = .returned (.int .i64 d) ∧ Below v.heap.size v w') := fun v q => by rw [← hd]; exact DW.out v gb c (A3.out.trans q) (G2.out.to q) hcn
            have CA : Hid (∀ v, Ab v2 v → Calls Tryz.prog 18 #[.pointer (some ⟨gb, 0, none⟩), .int .i64 (c : Nat)] v fun e w' => e = .returned (.int .i64 r) ∧ Below v.heap.size v w') := fun v q => by rw [← hr]; exact AR0.out v gb c (A3.out.trans q) (G2.out.to q) hcn
            have CP : Hid (∀ v, Calls Tryz.prog 17 #[.int .i64 a, .int .i64 r] v fun e w' => e = .returned (.float .f64 z) ∧ Below v.heap.size v w') := fun v => by rw [← hr, ← hz]; exact DP.out v c a hcn ab
            have NX : Hid (¬ (0 < a ∧ 0 ≤ d ∧ flt z 4602678819172646912 = true) → ∀ i, i < c + 1 → ¬ (0 < W i ∧ 0 ≤ dn i ∧ flt (dp (W i) i) 4602678819172646912 = true)) := fun h i hi => by
              by_cases e : i = c
              · rw [e, ha, hd, hz]; exact h
              · exact NO.out i (by omega)
            clear ha hd hr hz ab hcn hc
            cases f1 : decide (0 < a) with
            | false =>
              have nf : ¬ 0 < a := of_decide_eq_false f1
              go_upto_region 17 with fail
              obtain ⟨UU, E, hF1, hF2⟩ := cls wz
              have HU := hid hF2
              have HU1 := hid hF1
              have e1 : ∀ u, (E u).cell? ⟨gw, 1, none⟩ = some (.slice (some ⟨q3, r3, none⟩) N cw) := fun u => cell_of_row _ _ 1 _ _ _ ((AZ.out.trans (hF1 u)).heap R3.out)
              have e2 : ∀ u, (E u).cell? ⟨gw, 0, none⟩ = some (.slice pb N cb) := fun u => cell_of_row _ _ 0 _ _ _ ((AZ.out.trans (hF1 u)).heap R3.out)
              have e3 : ∀ u, (E u).cell? ⟨q3, r3 + c, none⟩ = some (.int .i64 a) := fun u => ACC.out _ (AZ.out.trans (hF1 u))
              have DD0 := HU.out _ (Ab.refl wz).drew
              clear hF1 hF2
              refine region_cls E (by kernel_rfl) (by kernel_rfl) DD0 ?_
              repeat (go_big_quiet_step (first | (go_at_call 12; exact calls_cls HU HU1 (CD.out _ (AZ.out.trans (HU1.out _)))) | (go_at_call 18; exact calls_cls HU HU1 (CA.out _ (AZ.out.trans (HU1.out _)))) | (go_at_call 17; exact calls_cls HU HU1 (CP.out _)) | (with_reducible rfl)))
              refine wpQuiet_nil ?_
              intro v6 hwz
              obtain ⟨u0, hu⟩ := hwz
              have A6 : Hid (Ab wz v6) := by rw [hu]; exact HU1.out u0
              clear hu u0
              clear HU HU1 DD0 e1 e2 e3
              clear E UU
              go_wp2
              exact ⟨⟨c + 1, by have := HC.out; omega, by simp, AZ.out.trans A6.out, NX.out (fun h => nf h.1)⟩, by have := HC.out; simp [intOf]; omega⟩
            | true =>
              cases f2 : decide (0 ≤ d) with
              | false =>
                have nf : ¬ 0 ≤ d := of_decide_eq_false f2
                go_upto_region 17 with fail
                obtain ⟨UU, E, hF1, hF2⟩ := cls wz
                have HU := hid hF2
                have HU1 := hid hF1
                have e1 : ∀ u, (E u).cell? ⟨gw, 1, none⟩ = some (.slice (some ⟨q3, r3, none⟩) N cw) := fun u => cell_of_row _ _ 1 _ _ _ ((AZ.out.trans (hF1 u)).heap R3.out)
                have e2 : ∀ u, (E u).cell? ⟨gw, 0, none⟩ = some (.slice pb N cb) := fun u => cell_of_row _ _ 0 _ _ _ ((AZ.out.trans (hF1 u)).heap R3.out)
                have e3 : ∀ u, (E u).cell? ⟨q3, r3 + c, none⟩ = some (.int .i64 a) := fun u => ACC.out _ (AZ.out.trans (hF1 u))
                have DD0 := HU.out _ (Ab.refl wz).drew
                clear hF1 hF2
                refine region_cls E (by kernel_rfl) (by kernel_rfl) DD0 ?_
                repeat (go_big_quiet_step (first | (go_at_call 12; exact calls_cls HU HU1 (CD.out _ (AZ.out.trans (HU1.out _)))) | (go_at_call 18; exact calls_cls HU HU1 (CA.out _ (AZ.out.trans (HU1.out _)))) | (go_at_call 17; exact calls_cls HU HU1 (CP.out _)) | (with_reducible rfl)))
                refine wpQuiet_nil ?_
                intro v6 hwz
                obtain ⟨u0, hu⟩ := hwz
                have A6 : Hid (Ab wz v6) := by rw [hu]; exact HU1.out u0
                clear hu u0
                clear HU HU1 DD0 e1 e2 e3
                clear E UU
                go_wp2
                exact ⟨⟨c + 1, by have := HC.out; omega, by simp, AZ.out.trans A6.out, NX.out (fun h => nf h.2.1)⟩, by have := HC.out; simp [intOf]; omega⟩
              | true =>
                cases f3 : flt z 4602678819172646912 with
                | false =>
                  have NF := hid f3
                  go_upto_region 17 with fail
                  obtain ⟨UU, E, hF1, hF2⟩ := cls wz
                  have HU := hid hF2
                  have HU1 := hid hF1
                  have e1 : ∀ u, (E u).cell? ⟨gw, 1, none⟩ = some (.slice (some ⟨q3, r3, none⟩) N cw) := fun u => cell_of_row _ _ 1 _ _ _ ((AZ.out.trans (hF1 u)).heap R3.out)
                  have e2 : ∀ u, (E u).cell? ⟨gw, 0, none⟩ = some (.slice pb N cb) := fun u => cell_of_row _ _ 0 _ _ _ ((AZ.out.trans (hF1 u)).heap R3.out)
                  have e3 : ∀ u, (E u).cell? ⟨q3, r3 + c, none⟩ = some (.int .i64 a) := fun u => ACC.out _ (AZ.out.trans (hF1 u))
                  have DD0 := HU.out _ (Ab.refl wz).drew
                  clear hF1 hF2
                  refine region_cls E (by kernel_rfl) (by kernel_rfl) DD0 ?_
                  repeat (go_big_quiet_step (first | (go_at_call 12; exact calls_cls HU HU1 (CD.out _ (AZ.out.trans (HU1.out _)))) | (go_at_call 18; exact calls_cls HU HU1 (CA.out _ (AZ.out.trans (HU1.out _)))) | (go_at_call 17; exact calls_cls HU HU1 (CP.out _)) | (with_reducible rfl)))
                  refine wpQuiet_nil ?_
                  intro v6 hwz
                  obtain ⟨u0, hu⟩ := hwz
                  have A6 : Hid (Ab wz v6) := by rw [hu]; exact HU1.out u0
                  clear hu u0
                  clear HU HU1 DD0 e1 e2 e3
                  clear E UU
                  go_wp2
                  exact ⟨⟨c + 1, by have := HC.out; omega, by simp, AZ.out.trans A6.out, NX.out (fun h => by have := h.2.2; rw [NF.out] at this; cases this)⟩, by have := HC.out; simp [intOf]; omega⟩
                | true =>
                  go_upto_region 17 with fail
                  obtain ⟨UU, E, hF1, hF2⟩ := cls wz
                  have HU := hid hF2
                  have HU1 := hid hF1
                  have e1 : ∀ u, (E u).cell? ⟨gw, 1, none⟩ = some (.slice (some ⟨q3, r3, none⟩) N cw) := fun u => cell_of_row _ _ 1 _ _ _ ((AZ.out.trans (hF1 u)).heap R3.out)
                  have e2 : ∀ u, (E u).cell? ⟨gw, 0, none⟩ = some (.slice pb N cb) := fun u => cell_of_row _ _ 0 _ _ _ ((AZ.out.trans (hF1 u)).heap R3.out)
                  have e3 : ∀ u, (E u).cell? ⟨q3, r3 + c, none⟩ = some (.int .i64 a) := fun u => ACC.out _ (AZ.out.trans (hF1 u))
                  have DD0 := HU.out _ (Ab.refl wz).drew
                  clear hF1 hF2
                  refine region_cls E (by kernel_rfl) (by kernel_rfl) DD0 ?_
                  repeat (go_big_quiet_step (first | (go_at_call 12; exact calls_cls HU HU1 (CD.out _ (AZ.out.trans (HU1.out _)))) | (go_at_call 18; exact calls_cls HU HU1 (CA.out _ (AZ.out.trans (HU1.out _)))) | (go_at_call 17; exact calls_cls HU HU1 (CP.out _)) | (with_reducible rfl)))
                  refine wpQuiet_nil ?_
                  intro v6 hwz
                  obtain ⟨u0, hu⟩ := hwz
                  have A6 : Hid (Ab wz v6) := by rw [hu]; exact HU1.out u0
                  clear hu u0
                  clear HU HU1 DD0 e1 e2 e3
                  clear E UU
                  go_wp2
                  go_ret
                  exact ⟨rfl, A3.out.trans (AZ.out.trans A6.out)⟩
          · have e7 : N = c := by omega
            subst e7
            have FW : Hid ((∀ c, c < N → W c < 4) ∨ ∀ c, c < N → ¬ (0 < W c ∧ 0 ≤ dn c ∧ flt (dp (W c) c) 4602678819172646912 = true)) := .inr NO.out
            go_upto_region 19 with fail
            have R9 := hid (Ab.heap AZ.out R3.out)
            have x1 := cell_of_row _ _ 1 _ _ _ R9.out
            have J1 := hid (I1.out.below AZ.out)
            have J2 := hid (I2.out.below AZ.out)
            go_wp2_with fail
            refine (ints19_at _ _ N _ _ W _ (by have := HN.out; omega) (Sh.IsI.congr J1.out (fun k hk => (EQ.out FW.out k hk).1)) (IW.out.below (A3.out.trans AZ.out))).mono ?_
            rintro e9 u1 ⟨rfl, b5⟩
            have AU : Hid (Ab v2 u1) := AZ.out.trans b5
            have Ra := hid (Ab.heap AU.out R3.out)
            have x2 := cell_of_row _ _ 2 _ _ _ Ra.out
            clear b5
            go_wp2_with fail
            refine (ints19_at _ _ N _ _ T _ (by have := HN.out; omega) (Sh.IsI.congr (I2.out.below AU.out) (fun k hk => (EQ.out FW.out k hk).2)) (IT.out.below (A3.out.trans AU.out))).mono ?_
            rintro e9 u2 ⟨rfl, b6⟩
            have AF : Hid (Ab w u2) := A3.out.trans (AU.out.trans b6)
            clear b6
            go_wp2
            go_ret
            exact ⟨rfl, AF.out⟩
set_option maxHeartbeats 4000000 in
theorem rdeep_at (DC : DownC) (OC : OrderC) (RC : RunC) (side : Int) {pb : Option Addr} {lb cb : Nat} {pw : Option Addr} {lw cw : Nat} {pt : Option Addr} {lt ct : Nat} {ps : Option Addr} {ls cs : Nat} {sky st : Int} {B : Nat → Nat} {W T : Nat → Int} {Sp : Nat → Nat} (w : World) (hF : Fr w) (ib : IsFl w pb lb B) (iw : Sh.IsI w pw lw W) (it : Sh.IsI w pt lt T) (is : IsFl w ps ls Sp) :
    Calls Tryz.prog 6 #[.int .i64 side, .agg #[.slice pb lb cb, .slice pw lw cw, .slice pt lt ct, .slice ps ls cs, .int .i64 sky, .int .i64 st]] w fun e w' => e = .returned (.bool true) ∧ Below w.heap.size w w' := by
  have LV : Hid (∀ v, Ab w v → Calls Tryz.prog 8 #[] v fun e w' => e = .returned (.bool true) ∧ Below v.heap.size v w') := fun v a => lives19_at DC OC RC v (hF.to a)
  by_cases h : 1 ≤ side ∧ side ≤ 32
  · obtain ⟨n, rfl⟩ : ∃ n : Nat, side = (n : Nat) := ⟨side.toNat, by omega⟩
    have hn : 1 ≤ n ∧ n ≤ 32 := by omega
    have NW : Hid (∀ v, Ab w v → Calls Tryz.prog 9 #[.int .i64 (n : Nat)] v fun e w' => ∃ gb, e = .returned (.tuple #[.pointer (some ⟨gb, 0, none⟩), .int .i64 0]) ∧ Ab v w' ∧ GridOf n gb w') := fun v a => (new_at n v hn (hF.to a)).mono fun e w' h => by
      obtain ⟨gb, rfl, a1, -, g⟩ := h
      exact ⟨gb, rfl, a1, g⟩
    have nb : 6 * n * n ≤ 6144 := by
      have h1 : n * n ≤ 32 * 32 := Nat.mul_le_mul hn.2 hn.2
      rw [Nat.mul_assoc]
      omega
    have n0 : 0 < 6 * n * n := by
      have p1 : 0 < n * n := Nat.mul_pos (by omega) (by omega)
      rw [Nat.mul_assoc]
      omega
    have RR := fun v gb (a : Ab w v) (g : GridOf n gb v) => RC n gb pb lb cb B pw lw cw W pt lt ct T ps ls cs Sp sky st v hn g (ib.below a) (iw.below a) (it.below a) (is.below a)
    by_cases g : good19 n lb lw lt ls W T
    · have k := runR_ok (B := B) hn.1 g
      have od := okD_R (B := B) hn.1
      have ow := g.2
      have RG : ∀ v gb, Ab w v → GridOf n gb v → Calls Tryz.prog 10 #[.pointer (some ⟨gb, 0, none⟩), .agg #[.slice pb lb cb, .slice pw lw cw, .slice pt lt ct, .slice ps ls cs, .int .i64 sky, .int .i64 st]] v fun e w' => ∃ p1 c1 p2 c2, e = .returned (.tuple #[.slice p1 (6 * n * n) c1, .slice p2 (6 * n * n) c2, .int .i64 0]) ∧ Below v.heap.size v w' ∧ Sh.IsI w' p1 (6 * n * n) (runR n B W T).1 ∧ Sh.IsI w' p2 (6 * n * n) (runR n B W T).2 := fun v gb a gg => ((RR v gb a gg).1 g).mono fun e w' h => by
        obtain ⟨va, vb, rfl, b, oa, ob, -⟩ := h
        obtain ⟨p1, c1, rfl, i1⟩ := own_w19 oa (fun c hc => by have := k.1.1.b hc; unfold Sh.W64; omega)
        obtain ⟨p2, c2, rfl, i2⟩ := own_w19 ob (fun c hc => by have := k.1.2.b hc; unfold Sh.W64; omega)
        exact ⟨p1, c1, p2, c2, rfl, b, i1, i2⟩
      have ls0 := g.1.2.2.2
      obtain ⟨⟨rfl, rfl, rfl, -⟩, -⟩ := g
      have DW : ∀ v gb (c : Nat), Ab w v → GridOf n gb v → c < 6 * n * n → Calls Tryz.prog 12 #[.pointer (some ⟨gb, 0, none⟩), .slice pb (6 * n * n) cb, .int .i64 (c : Nat)] v fun e w' => e = .returned (.int .i64 (dnR n B c)) ∧ Below v.heap.size v w' := fun v gb c a gg hc => (DC n gb pb _ cb B c v hn gg (ib.below a) (by unfold Sh.W64; omega)).mono fun e w' h => by
        obtain ⟨rfl, b⟩ := h
        exact ⟨by rw [if_pos ⟨rfl, by omega, by omega⟩, Int.toNat_natCast], b⟩
      have hd1 : ∀ v (c : Nat) (x : Int), c < 6 * n * n → x ≤ 4503599627370496 → Calls Tryz.prog 17 #[.int .i64 x, .int .i64 (arC n c)] v fun e w' => e = .returned (.float .f64 (dpB x (arC n c))) ∧ Below v.heap.size v w' := fun v c x _ hx => (depth_at x (arC n c) v (by omega) (arC_in n c).2).mono fun e w' h => by
        obtain ⟨rfl, j, rfl⟩ := h
        exact ⟨rfl, below_drewN (Below.refl _ _) j⟩
      refine deep19_go n (6 * n * n) (n : Nat) (runR n B W T).1 (runR n B W T).2 (dnR n B) (arC n) (fun x c => dpB x (arC n c)) w nb n0 iw it ow ?_ LV NW RG DW (fun v gb c a gg hc => (gArea_ok hn hc gg).mono fun e w' h => ?_) hd1
      · intro h c hc
        have e := rvL_still (n := 6 * n * n) (dn := dnR n B) (sh := shR n) (X := (W, T)) ow (fun c hc => by
          rcases h with h | h
          · exact .inl (h c hc)
          · by_cases q1 : 0 < W c
            · by_cases q2 : 0 ≤ dnR n B c
              · refine .inr (.inr (.inr ?_))
                show flt (dpB (W c) (arC n c)) 4602678819172646912 = false
                cases q3 : flt (dpB (W c) (arC n c)) 4602678819172646912 with
                | false => rfl
                | true => exact absurd ⟨q1, q2, q3⟩ (h c hc)
              · exact .inr (.inl (by omega))
            · exact .inr (.inr (.inl (by show W c ≤ 0; omega)))) (l := ordL (kB B) (6 * n * n)) (fun c h => ordL_mem.1 h)
        have e2 : runR n B W T = (W, T) := e
        rw [e2]
        exact ⟨rfl, rfl⟩
      · exact h
    · exact deep19_bad n (n : Nat) w LV NW (fun v gb a gg => (RR v gb a gg).2 g)
  · exact deep19_no side w LV (fun v => new_no side v h)
end Rv
end Go.Proofs.YtkckcohemalhiaaGreatDoor

namespace Go.Proofs.YtkckcohemalhiaaGreatDoor
open Go.RowKit Tf Cu Go.Deep
attribute [local go_sem] run_bits run_from raw_feq raw_fne raw_flt raw_fgt run_neg run_store_float
namespace Rv
/-- how two beds stand to each other -/
def cmp3 (x y : Nat) : Int := if kb x < kb y then -1 else if kb y < kb x then 1 else 0
theorem cmp3_lt {x y : Nat} (h : kb x < kb y) : cmp3 x y = -1 := if_pos h
theorem cmp3_gt {x y : Nat} (h : kb y < kb x) : cmp3 x y = 1 := by unfold cmp3; rw [if_neg (by omega), if_pos h]
theorem cmp3_eq {x y : Nat} (h : kb x = kb y) : cmp3 x y = 0 := by unfold cmp3; rw [if_neg (by omega), if_neg (by omega)]
/-- where a cell's water runs by the sides below k -/
def dk (K nb : Nat → Nat) (c : Nat) : Nat → Int
  | 0 => -1
  | k + 1 => if K (bst K nb k) < K c then ((bst K nb k : Nat) : Int) else -1
theorem bst_next (K nb : Nat → Nat) (k : Nat) : bst K nb (k + 1) = if lt2 K (nb (k + 1)) (bst K nb k) = true then nb (k + 1) else bst K nb k := rfl
theorem dk_no {K nb : Nat → Nat} {c k : Nat} (h : dk K nb c k < 0) : dk K nb c k = -1 ∧ dk K nb c (k + 1) = if K (nb k) < K c then ((nb k : Nat) : Int) else -1 := by
  cases k with
  | zero => exact ⟨rfl, rfl⟩
  | succ k =>
    have h1 : ¬ K (bst K nb k) < K c := fun q => by
      have h2 : (if K (bst K nb k) < K c then ((bst K nb k : Nat) : Int) else -1) < 0 := h
      rw [if_pos q] at h2
      omega
    refine ⟨if_neg h1, ?_⟩
    show (if K (bst K nb (k + 1)) < K c then ((bst K nb (k + 1) : Nat) : Int) else -1) = _
    rw [bst_next]
    by_cases q : lt2 K (nb (k + 1)) (bst K nb k) = true
    · rw [if_pos q]
    · rw [if_neg q, if_neg h1, if_neg]
      intro q2
      exact q (lt2_iff.2 (.inl (by omega)))
theorem dk_yes {K nb : Nat → Nat} {c k m : Nat} (h : dk K nb c k = (m : Nat)) : (∃ s, s < k ∧ nb s = m) ∧ K m < K c ∧ dk K nb c (k + 1) = if lt2 K (nb k) m = true then ((nb k : Nat) : Int) else ((m : Nat) : Int) := by
  cases k with
  | zero => have h2 : (-1 : Int) = (m : Nat) := h; omega
  | succ k =>
    have h1 : K (bst K nb k) < K c := by
      rcases Nat.lt_or_ge (K (bst K nb k)) (K c) with q | q
      · exact q
      · have h2 : (if K (bst K nb k) < K c then ((bst K nb k : Nat) : Int) else -1) = (m : Nat) := h
        rw [if_neg (by omega)] at h2
        omega
    have h2 : bst K nb k = m := by
      have h2 : (if K (bst K nb k) < K c then ((bst K nb k : Nat) : Int) else -1) = (m : Nat) := h
      rw [if_pos h1] at h2
      omega
    obtain ⟨s, l, e⟩ := bst_in K nb k
    rw [h2] at h1 e
    refine ⟨⟨s, by omega, e.symm⟩, h1, ?_⟩
    show (if K (bst K nb (k + 1)) < K c then ((bst K nb (k + 1) : Nat) : Int) else -1) = _
    rw [bst_next, h2]
    by_cases q : lt2 K (nb (k + 1)) m = true
    · rw [if_pos q, if_pos q, if_pos]
      rcases lt2_iff.1 q with q | q <;> omega
    · rw [if_neg q, if_neg q, if_pos h1]
/-- the bed that is least so far -/
def lk (B nb : Nat → Nat) (c k : Nat) : Nat := if dk (kB B) nb c k < 0 then B c else B (dk (kB B) nb c k).toNat
set_option maxRecDepth 100000 in
set_option maxHeartbeats 16000000 in
theorem compare19_at (a b : Nat) (w : World) (ha : a < 18446744073709551616) (hb : b < 18446744073709551616) :
    Calls Tryz.prog 41 #[.float .f64 a, .float .f64 b] w fun e w' => e = .returned (.int .i64 (cmp3 a b)) ∧ w' = w := by
  obtain ⟨x, hx⟩ : ∃ x, canonB a = x := ⟨_, rfl⟩
  obtain ⟨y, hy⟩ : ∃ x, canonB b = x := ⟨_, rfl⟩
  have C1 := hid (canon_at a x w ha hx)
  have C2 := hid (canon_at b y w hb hy)
  have lx : x < 18446744073709551616 := by rw [← hx]; exact canon_lt ha
  have ly : y < 18446744073709551616 := by rw [← hy]; exact canon_lt hb
  obtain ⟨o, ho⟩ : ∃ o, orderB x y = o := ⟨_, rfl⟩
  have O := hid (ord_at x y o w lx ly ho)
  have E : Hid (cmp3 a b = o) := by
    show _ = _
    unfold cmp3 kb
    rw [hx, hy, ← ho]
    rfl
  clear ho hx hy ha hb lx ly
  go_enter Tryz.func41, Tryz.ntmps41
  go_wp2_with fail
  refine C1.out.mono ?_
  rintro e9 v9 ⟨rfl, hv9⟩
  have hv8 := hv9.symm
  subst hv8
  go_wp2_with fail
  refine C2.out.mono ?_
  rintro e9 v9 ⟨rfl, hv9⟩
  have hv8 := hv9.symm
  subst hv8
  go_wp2_with fail
  refine O.out.mono ?_
  rintro e9 v9 ⟨rfl, hv9⟩
  have hv8 := hv9.symm
  subst hv8
  go_wp2
  go_ret
  exact ⟨by rw [E.out]; rfl, rfl⟩
theorem around19 {n gb c s : Nat} {v : World} (hn : 1 ≤ n ∧ n ≤ 32) (hc : c < 6 * n * n) (hs : s < 4) (g : GridOf n gb v) : Calls Tryz.prog 69 #[.pointer (some ⟨gb, 0, none⟩), .int .i64 (c : Nat), .int .i64 (s : Nat)] v fun e w' => e = .returned (.tuple #[.int .i64 (eE n (4 * c + s) : Nat), .int .i64 (eS n (4 * c + s))]) ∧ Below v.heap.size v w' := by
  have e : gT n (24 * n * n) (c : Nat) (s : Nat) = (((eE n (4 * c + s) : Nat) : Int), eS n (4 * c + s)) := by
    have ht := t_lt hc hs
    have hm := mt_lt hn.1 ht
    rw [gT_nat, if_pos ⟨hc, hs⟩]
    unfold gN eE eS
    by_cases q : isL n (4 * c + s) = true
    · simp [q, ht]
    · simp [q, hm]
  have b : c < 6144 := by
    have h1 : n * n ≤ 32 * 32 := Nat.mul_le_mul hn.2 hn.2
    rw [Nat.mul_assoc] at hc
    omega
  have h := gAround_at (n := n) (gb := gb) (c := (c : Nat)) (s := (s : Nat)) (w := v) ⟨by omega, by omega⟩ ⟨by omega, by omega⟩ g
  rwa [e] at h
set_option maxRecDepth 100000 in
set_option maxHeartbeats 16000000 in
theorem beside_pos (gb e l s r q : Nat) (cell over : Int) (w : World)
    (AR : Hid (∀ v, Ab w v → Calls Tryz.prog 69 #[.pointer (some ⟨gb, 0, none⟩), .int .i64 cell, .int .i64 over] v fun e9 w' => e9 = .returned (.tuple #[.int .i64 (e : Nat), .int .i64 (1)]) ∧ Below v.heap.size v w'))
    (ED : Hid (∀ v, Ab w v → Calls Tryz.prog 70 #[.pointer (some ⟨gb, 0, none⟩), .int .i64 (e : Nat)] v fun e9 w' => e9 = .returned (.tuple #[.agg #[.int .i64 (l : Nat), .int .i64 (s : Nat), .int .i64 (r : Nat), .int .i64 (q : Nat)], .bool true]) ∧ Below v.heap.size v w')) :
    Calls Tryz.prog 40 #[.pointer (some ⟨gb, 0, none⟩), .int .i64 cell, .int .i64 over] w fun e9 w' => e9 = .returned (.int .i64 (r : Nat)) ∧ Below w.heap.size w w' := by
  go_enter Tryz.func40, Tryz.ntmps40
  go_wp2_with fail
  refine (AR.out _ (Ab.refl w)).mono ?_
  rintro e9 v1 ⟨rfl, b1⟩
  have A1 : Hid (Ab w v1) := b1
  clear b1
  go_wp2_with fail
  refine (ED.out _ A1.out).mono ?_
  rintro e9 v2 ⟨rfl, b2⟩
  have A2 : Hid (Ab w v2) := A1.out.trans b2
  clear b2
  have A3 : Hid (Ab w (v2.alloc (.cells #[.int .i64 0, .int .i64 0, .int .i64 0, .int .i64 0] 102))) := A2.out.trans (bl1 _ _)
  have c0 : (v2.alloc (.cells #[.int .i64 (l : Nat), .int .i64 (s : Nat), .int .i64 (r : Nat), .int .i64 (q : Nat)] 102)).cell? ⟨v2.heap.size, 0, none⟩ = some (.int .i64 (l : Nat)) := cell_of_row _ _ 0 _ _ _ (heap_alloc_new _ _)
  have c2 : (v2.alloc (.cells #[.int .i64 (l : Nat), .int .i64 (s : Nat), .int .i64 (r : Nat), .int .i64 (q : Nat)] 102)).cell? ⟨v2.heap.size, 2, none⟩ = some (.int .i64 (r : Nat)) := cell_of_row _ _ 2 _ _ _ (heap_alloc_new _ _)
  go_wp2
  go_ret
  exact ⟨rfl, A2.out.trans (bl1 _ _)⟩
set_option maxRecDepth 100000 in
set_option maxHeartbeats 16000000 in
theorem beside_neg (gb e l s r q : Nat) (cell over : Int) (w : World)
    (AR : Hid (∀ v, Ab w v → Calls Tryz.prog 69 #[.pointer (some ⟨gb, 0, none⟩), .int .i64 cell, .int .i64 over] v fun e9 w' => e9 = .returned (.tuple #[.int .i64 (e : Nat), .int .i64 (-1)]) ∧ Below v.heap.size v w'))
    (ED : Hid (∀ v, Ab w v → Calls Tryz.prog 70 #[.pointer (some ⟨gb, 0, none⟩), .int .i64 (e : Nat)] v fun e9 w' => e9 = .returned (.tuple #[.agg #[.int .i64 (l : Nat), .int .i64 (s : Nat), .int .i64 (r : Nat), .int .i64 (q : Nat)], .bool true]) ∧ Below v.heap.size v w')) :
    Calls Tryz.prog 40 #[.pointer (some ⟨gb, 0, none⟩), .int .i64 cell, .int .i64 over] w fun e9 w' => e9 = .returned (.int .i64 (l : Nat)) ∧ Below w.heap.size w w' := by
  go_enter Tryz.func40, Tryz.ntmps40
  go_wp2_with fail
  refine (AR.out _ (Ab.refl w)).mono ?_
  rintro e9 v1 ⟨rfl, b1⟩
  have A1 : Hid (Ab w v1) := b1
  clear b1
  go_wp2_with fail
  refine (ED.out _ A1.out).mono ?_
  rintro e9 v2 ⟨rfl, b2⟩
  have A2 : Hid (Ab w v2) := A1.out.trans b2
  clear b2
  have A3 : Hid (Ab w (v2.alloc (.cells #[.int .i64 0, .int .i64 0, .int .i64 0, .int .i64 0] 102))) := A2.out.trans (bl1 _ _)
  have c0 : (v2.alloc (.cells #[.int .i64 (l : Nat), .int .i64 (s : Nat), .int .i64 (r : Nat), .int .i64 (q : Nat)] 102)).cell? ⟨v2.heap.size, 0, none⟩ = some (.int .i64 (l : Nat)) := cell_of_row _ _ 0 _ _ _ (heap_alloc_new _ _)
  have c2 : (v2.alloc (.cells #[.int .i64 (l : Nat), .int .i64 (s : Nat), .int .i64 (r : Nat), .int .i64 (q : Nat)] 102)).cell? ⟨v2.heap.size, 2, none⟩ = some (.int .i64 (r : Nat)) := cell_of_row _ _ 2 _ _ _ (heap_alloc_new _ _)
  go_wp2
  go_ret
  exact ⟨rfl, A2.out.trans (bl1 _ _)⟩
/-- the cell over a side -/
theorem beside19_at (n gb c s : Nat) (w : World) (hn : 1 ≤ n ∧ n ≤ 32) (hc : c < 6 * n * n) (hs : s < 4) (g : GridOf n gb w) :
    Calls Tryz.prog 40 #[.pointer (some ⟨gb, 0, none⟩), .int .i64 (c : Nat), .int .i64 (s : Nat)] w fun e9 w' => e9 = .returned (.int .i64 (bsC n c s : Nat)) ∧ Below w.heap.size w w' := by
  have ht : 4 * c + s < 24 * n * n := t_lt hc hs
  have hm := mt_lt hn.1 ht
  have e1 : (4 * c + s) / 4 = c := by omega
  have e2 : (4 * c + s) % 4 = s := by omega
  have ar := fun v (a : Ab w v) => around19 (v := v) hn hc hs (g.to a)
  by_cases q : isL n (4 * c + s) = true
  · have ee : eE n (4 * c + s) = eN n (4 * c + s) := by unfold eE; rw [if_pos q]
    have es : eS n (4 * c + s) = 1 := by unfold eS; rw [if_pos q]
    rw [ee, es] at ar
    have ed := fun v (a : Ab w v) => gEdge_ok (w := v) hn ht q (g.to a)
    rw [e1, e2] at ed
    exact beside_pos gb _ _ _ _ _ _ _ w ar ed
  · have ee : eE n (4 * c + s) = eN n (mt n (4 * c + s)) := by unfold eE; rw [if_neg q]
    have es : eS n (4 * c + s) = -1 := by unfold eS; rw [if_neg q]
    rw [ee, es] at ar
    have q2 : isL n (mt n (4 * c + s)) = true := by rw [isL_mt hn.1 ht]; simpa using q
    have ed := fun v (a : Ab w v) => gEdge_ok (w := v) hn hm q2 (g.to a)
    have d := (mt_dec hn.1 ht).1
    rw [e1, e2] at d
    rw [d] at ed
    exact beside_neg gb _ _ _ _ _ _ _ w ar ed
set_option maxRecDepth 100000 in
set_option maxHeartbeats 16000000 in
theorem down_len (n gb : Nat) (pb : Option Addr) (lb cb : Nat) (cell : Int) (w : World) (g : GridOf n gb w) (hl : lb ≠ 6 * n * n) :
    Calls Tryz.prog 12 #[.pointer (some ⟨gb, 0, none⟩), .slice pb lb cb, .int .i64 cell] w fun e w' => e = .returned (.int .i64 (-1)) ∧ Below w.heap.size w w' := by
  have CC := hid (gCells_at g)
  generalize 6 * n * n = N at *
  have e1 : ((lb : Int) != (N : Int)) = true := by simp; omega
  clear hl g
  go_enter Tryz.func12, Tryz.ntmps12
  go_wp2_with fail
  refine CC.out.mono ?_
  rintro e9 v9 ⟨rfl, hv9⟩
  have hv8 := hv9.symm
  subst hv8
  go_wp2
  go_ret
  exact ⟨rfl, Below.refl _ _⟩
set_option maxRecDepth 100000 in
set_option maxHeartbeats 16000000 in
theorem down_out (n gb : Nat) (pb : Option Addr) (lb cb : Nat) (cell : Int) (w : World) (g : GridOf n gb w) (hl : lb = 6 * n * n) (hc : ¬ (0 ≤ cell ∧ cell < (lb : Nat))) :
    Calls Tryz.prog 12 #[.pointer (some ⟨gb, 0, none⟩), .slice pb lb cb, .int .i64 cell] w fun e w' => e = .returned (.int .i64 (-1)) ∧ Below w.heap.size w w' := by
  have CC := hid (gCells_at g)
  rw [← hl] at CC
  have e1 : ((lb : Int) != (lb : Int)) = false := by simp
  clear hl g
  by_cases c0 : cell < 0
  · have e2 : decide (cell < 0) = true := decide_eq_true c0
    clear hc c0
    go_enter Tryz.func12, Tryz.ntmps12
    go_wp2_with fail
    refine CC.out.mono ?_
    rintro e9 v9 ⟨rfl, hv9⟩
    have hv8 := hv9.symm
    subst hv8
    go_wp2
    go_ret
    exact ⟨rfl, Below.refl _ _⟩
  · have e2 : decide (cell < 0) = false := decide_eq_false c0
    have e3 : decide ((lb : Int) ≤ cell) = true := decide_eq_true (by omega)
    clear hc c0
    go_enter Tryz.func12, Tryz.ntmps12
    go_wp2_with fail
    refine CC.out.mono ?_
    rintro e9 v9 ⟨rfl, hv9⟩
    have hv8 := hv9.symm
    subst hv8
    go_wp2
    go_ret
    exact ⟨rfl, Below.refl _ _⟩
set_option maxRecDepth 100000 in
set_option maxHeartbeats 16000000 in
theorem down_go (N gb : Nat) (qb ob : Nat) (cb : Nat) (B : Nat → Nat) (nb : Nat → Nat) (c : Nat) (w : World) (hN : N ≤ 6144) (hc : c < N) (IB : Hid (IsFl w (some ⟨qb, ob, none⟩) N B))
    (CC : Hid (Calls Tryz.prog 13 #[.pointer (some ⟨gb, 0, none⟩)] w fun e w' => e = .returned (.int .i64 (N : Nat)) ∧ w' = w))
    (BS : Hid (∀ v s, Ab w v → s < 4 → Calls Tryz.prog 40 #[.pointer (some ⟨gb, 0, none⟩), .int .i64 (c : Nat), .int .i64 (s : Nat)] v fun e w' => e = .returned (.int .i64 (nb s : Nat)) ∧ Below v.heap.size v w'))
    (NL : Hid (∀ s, s < 4 → nb s < N)) :
    Calls Tryz.prog 12 #[.pointer (some ⟨gb, 0, none⟩), .slice (some ⟨qb, ob, none⟩) N cb, .int .i64 (c : Nat)] w fun e w' => e = .returned (.int .i64 (dnI (kB B) nb c)) ∧ Below w.heap.size w w' := by
  have e1 : ((N : Int) != (N : Int)) = false := by simp
  have e2 : decide ((c : Int) < 0) = false := decide_eq_false (by omega)
  have e3 : decide ((N : Int) ≤ (c : Int)) = false := decide_eq_false (by omega)
  have e4 : decide (N ≤ c) = false := decide_eq_false (by omega)
  have HN := hid hN
  have HC := hid hc
  have cI : (c : Int) < N := by omega
  have cB : (c : Int) ≤ 6144 := by omega
  obtain ⟨xc, hxc⟩ : ∃ x, B c = x := ⟨_, rfl⟩
  have XCC := hid hxc
  have XC0 : Hid (∀ v, Ab w v → v.cell? ⟨qb, ob + c, none⟩ = some (.float .f64 xc)) := fun v a => by rw [← hxc]; exact ((IB.out.below a).at0 hc).2.2
  clear hN hc hxc
  go_enter Tryz.func12, Tryz.ntmps12
  go_wp2_with fail
  refine CC.out.mono ?_
  rintro e9 v9 ⟨rfl, hv9⟩
  have hv8 := hv9.symm
  subst hv8
  go_upto_region 3 with fail
  obtain ⟨UU, E, hF1, hF2⟩ := cls w
  have HU := hid hF2
  have HU1 := hid hF1
  have y1 : ∀ u, (E u).cell? ⟨qb, ob + c, none⟩ = some (.float .f64 xc) := fun u => XC0.out _ (hF1 u)
  have DD0 := HU.out _ (Ab.refl w).drew
  clear hF1 hF2
  refine region_cls E (by kernel_rfl) (by kernel_rfl) DD0 ?_
  repeat (go_big_quiet_step (with_reducible rfl))
  refine wpQuiet_nil ?_
  intro v0 hwz
  obtain ⟨u0, hu⟩ := hwz
  have A0 : Hid (Ab w v0) := by rw [hu]; exact HU1.out u0
  clear hu u0
  clear HU HU1 DD0 y1
  clear E UU
  go_wp2
  go_loopw [7, 8, 35] (fun bv lv iv wr => ∃ k : Nat, k ≤ 4 ∧ iv = .int .i64 (k : Nat) ∧ bv = .int .i64 (dk (kB B) nb c k) ∧ lv = .float .f64 (lk B nb c k) ∧ Ab w wr) (fun _ _ iv _ => 4 - (intOf iv).toNat)
  case atStart => exact ⟨0, by omega, rfl, rfl, by rw [← XCC.out]; rfl, A0.out⟩
  case round =>
    obtain ⟨k, hk, rfl, rfl, rfl, ar⟩ := hrel
    have AR := hid ar
    clear ar
    by_cases hk4 : k < 4
    · have HK := hid hk4
      have kI : (k : Int) < 4 := by omega
      obtain ⟨cc, hcc⟩ : ∃ x, nb k = x := ⟨_, rfl⟩
      have ccl := NL.out k hk4
      rw [hcc] at ccl
      have HCC := hid hcc
      have CL := hid ccl
      have BB := hid (BS.out wr k AR.out hk4)
      rw [hcc] at BB
      obtain ⟨x, hx⟩ : ∃ x, B cc = x := ⟨_, rfl⟩
      have XC : Hid (∀ v, Ab w v → v.cell? ⟨qb, ob + cc, none⟩ = some (.float .f64 x)) := fun v a => by rw [← hx]; exact ((IB.out.below a).at0 ccl).2.2
      have xl : x < 18446744073709551616 := by rw [← hx]; exact (IB.out cc ccl).1
      have HX := hid hx
      have ccI : (cc : Int) < N := by omega
      have ccB : (cc : Int) ≤ 6144 := by have := HN.out; omega
      by_cases q0 : dk (kB B) nb c k < 0
      · obtain ⟨g1, g2⟩ := dk_no q0
        have el : lk B nb c k = xc := by unfold lk; rw [if_pos q0]; exact XCC.out
        have DN : Hid (dk (kB B) nb c (k + 1) = if kb x < kb xc then ((cc : Nat) : Int) else -1) := by
          show _ = _
          rw [g2, hcc]
          unfold kB
          rw [hx, XCC.out]
        rw [g1, el]
        have yl : xc < 18446744073709551616 := by rw [← XCC.out]; exact (IB.out c HC.out).1
        have CM := hid (fun v => compare19_at x xc v xl yl)
        have b0 : decide ((cc : Int) < -1) = false := decide_eq_false (by omega)
        clear hcc hx ccl xl yl q0 g1 g2 el hk hk4
        by_cases d1 : kb x < kb xc
        · have DQ : Hid (dk (kB B) nb c (k + 1) = ((cc : Nat) : Int)) := by show _ = _; rw [DN.out, if_pos d1]
          have LQ : Hid (lk B nb c (k + 1) = x) := by show _ = _; unfold lk; rw [DQ.out, if_neg (by omega), Int.toNat_natCast]; exact HX.out
          rw [cmp3_lt d1] at CM
          clear d1
          go_wp2_with fail
          refine BB.out.mono ?_
          rintro e9 v1 ⟨rfl, b1⟩
          have A1 : Hid (Ab w v1) := AR.out.trans b1
          clear b1
          have z1 := XC.out _ A1.out
          go_wp2_with fail
          refine (CM.out _).mono ?_
          rintro e9 v9 ⟨rfl, hv9⟩
          have hv8 := hv9.symm
          subst hv8
          clear z1
          go_upto_region 10 with fail
          obtain ⟨UU, E, hF1, hF2⟩ := cls v1
          have HU := hid hF2
          have HU1 := hid hF1
          have y1 : ∀ u, (E u).cell? ⟨qb, ob + cc, none⟩ = some (.float .f64 x) := fun u => XC.out _ (A1.out.trans (hF1 u))
          have DD0 := HU.out _ (Ab.refl v1).drew
          clear hF1 hF2
          refine region_cls E (by kernel_rfl) (by kernel_rfl) DD0 ?_
          repeat (go_big_quiet_step (with_reducible rfl))
          refine wpQuiet_nil ?_
          intro v2 hwz
          obtain ⟨u0, hu⟩ := hwz
          have A2 : Hid (Ab v1 v2) := by rw [hu]; exact HU1.out u0
          clear hu u0
          clear HU HU1 DD0 y1
          clear E UU
          go_wp2
          exact ⟨⟨k + 1, by have := HK.out; omega, by simp, by rw [DQ.out], by rw [LQ.out], A1.out.trans A2.out⟩, by have := HK.out; simp [intOf]; omega⟩
        · have DQ : Hid (dk (kB B) nb c (k + 1) = -1) := by show _ = _; rw [DN.out, if_neg d1]
          have LQ : Hid (lk B nb c (k + 1) = xc) := by show _ = _; unfold lk; rw [DQ.out, if_pos (by decide)]; exact XCC.out
          by_cases d2 : kb xc < kb x
          · rw [cmp3_gt d2] at CM
            clear d1 d2
            go_wp2_with fail
            refine BB.out.mono ?_
            rintro e9 v1 ⟨rfl, b1⟩
            have A1 : Hid (Ab w v1) := AR.out.trans b1
            clear b1
            have z1 := XC.out _ A1.out
            go_wp2_with fail
            refine (CM.out _).mono ?_
            rintro e9 v9 ⟨rfl, hv9⟩
            have hv8 := hv9.symm
            subst hv8
            clear z1
            go_wp2
            exact ⟨⟨k + 1, by have := HK.out; omega, by simp, by rw [DQ.out], by rw [LQ.out], A1.out⟩, by have := HK.out; simp [intOf]; omega⟩
          · rw [cmp3_eq (show kb x = kb xc by omega)] at CM
            clear d1 d2
            go_wp2_with fail
            refine BB.out.mono ?_
            rintro e9 v1 ⟨rfl, b1⟩
            have A1 : Hid (Ab w v1) := AR.out.trans b1
            clear b1
            have z1 := XC.out _ A1.out
            go_wp2_with fail
            refine (CM.out _).mono ?_
            rintro e9 v9 ⟨rfl, hv9⟩
            have hv8 := hv9.symm
            subst hv8
            clear z1
            go_wp2
            exact ⟨⟨k + 1, by have := HK.out; omega, by simp, by rw [DQ.out], by rw [LQ.out], A1.out⟩, by have := HK.out; simp [intOf]; omega⟩
      · obtain ⟨m, hm⟩ : ∃ m : Nat, dk (kB B) nb c k = (m : Nat) := ⟨(dk (kB B) nb c k).toNat, by omega⟩
        obtain ⟨⟨s, s1, s2⟩, -, g3⟩ := dk_yes hm
        have ml : m < N := by rw [← s2]; exact NL.out s (by omega)
        obtain ⟨y, hy⟩ : ∃ x, B m = x := ⟨_, rfl⟩
        have el : lk B nb c k = y := by unfold lk; rw [if_neg q0, hm, Int.toNat_natCast]; exact hy
        have LT : Hid (lt2 (kB B) cc m = (decide (kb x < kb y) || (decide (kb x = kb y) && decide (cc < m)))) := by show lt2 _ _ _ = _; unfold lt2 kB; rw [hx, hy]
        have DN : Hid (dk (kB B) nb c (k + 1) = if lt2 (kB B) cc m = true then ((cc : Nat) : Int) else ((m : Nat) : Int)) := by
          show _ = _
          rw [g3, hcc]
        have HY := hid hy
        rw [hm, el]
        have yl : y < 18446744073709551616 := by rw [← hy]; exact (IB.out m ml).1
        have CM := hid (fun v => compare19_at x y v xl yl)
        have mI : (m : Int) < N := by omega
        have mB : (m : Int) ≤ 6144 := by have := HN.out; omega
        have TK : Hid (lt2 (kB B) cc m = true → dk (kB B) nb c (k + 1) = ((cc : Nat) : Int) ∧ lk B nb c (k + 1) = x) := fun h => by
          have e : dk (kB B) nb c (k + 1) = ((cc : Nat) : Int) := by rw [DN.out, if_pos h]
          exact ⟨e, by unfold lk; rw [e, if_neg (by omega), Int.toNat_natCast]; exact HX.out⟩
        have LV : Hid (lt2 (kB B) cc m = false → dk (kB B) nb c (k + 1) = ((m : Nat) : Int) ∧ lk B nb c (k + 1) = y) := fun h => by
          have e : dk (kB B) nb c (k + 1) = ((m : Nat) : Int) := by rw [DN.out, if_neg (by rw [h]; decide)]
          exact ⟨e, by unfold lk; rw [e, if_neg (by omega), Int.toNat_natCast]; exact HY.out⟩
        clear hcc hx hy ccl xl yl q0 g3 el hk hk4 s1 s2 ml hm DN
        by_cases d1 : kb x < kb y
        · have DQ : Hid (dk (kB B) nb c (k + 1) = ((cc : Nat) : Int)) := (TK.out (LT.out.trans (by rw [decide_eq_true d1]; rfl))).1
          have LQ : Hid (lk B nb c (k + 1) = x) := (TK.out (LT.out.trans (by rw [decide_eq_true d1]; rfl))).2
          rw [cmp3_lt d1] at CM
          clear d1 LT TK LV
          go_wp2_with fail
          refine BB.out.mono ?_
          rintro e9 v1 ⟨rfl, b1⟩
          have A1 : Hid (Ab w v1) := AR.out.trans b1
          clear b1
          have z1 := XC.out _ A1.out
          go_wp2_with fail
          refine (CM.out _).mono ?_
          rintro e9 v9 ⟨rfl, hv9⟩
          have hv8 := hv9.symm
          subst hv8
          clear z1
          go_upto_region 10 with fail
          obtain ⟨UU, E, hF1, hF2⟩ := cls v1
          have HU := hid hF2
          have HU1 := hid hF1
          have y1 : ∀ u, (E u).cell? ⟨qb, ob + cc, none⟩ = some (.float .f64 x) := fun u => XC.out _ (A1.out.trans (hF1 u))
          have DD0 := HU.out _ (Ab.refl v1).drew
          clear hF1 hF2
          refine region_cls E (by kernel_rfl) (by kernel_rfl) DD0 ?_
          repeat (go_big_quiet_step (with_reducible rfl))
          refine wpQuiet_nil ?_
          intro v2 hwz
          obtain ⟨u0, hu⟩ := hwz
          have A2 : Hid (Ab v1 v2) := by rw [hu]; exact HU1.out u0
          clear hu u0
          clear HU HU1 DD0 y1
          clear E UU
          go_wp2
          exact ⟨⟨k + 1, by have := HK.out; omega, by simp, by rw [DQ.out], by rw [LQ.out], A1.out.trans A2.out⟩, by have := HK.out; simp [intOf]; omega⟩
        · by_cases d2 : kb y < kb x
          · have lf : lt2 (kB B) cc m = false := LT.out.trans (by rw [decide_eq_false d1, decide_eq_false (show ¬ kb x = kb y by omega)]; rfl)
            have DQ := hid (LV.out lf).1
            have LQ := hid (LV.out lf).2
            rw [cmp3_gt d2] at CM
            clear d1 d2 LT TK LV lf
            go_wp2_with fail
            refine BB.out.mono ?_
            rintro e9 v1 ⟨rfl, b1⟩
            have A1 : Hid (Ab w v1) := AR.out.trans b1
            clear b1
            have z1 := XC.out _ A1.out
            go_wp2_with fail
            refine (CM.out _).mono ?_
            rintro e9 v9 ⟨rfl, hv9⟩
            have hv8 := hv9.symm
            subst hv8
            clear z1
            go_wp2
            exact ⟨⟨k + 1, by have := HK.out; omega, by simp, by rw [DQ.out], by rw [LQ.out], A1.out⟩, by have := HK.out; simp [intOf]; omega⟩
          · have ke : kb x = kb y := by omega
            rw [cmp3_eq ke] at CM
            by_cases d3 : cc < m
            · have d4 : decide ((cc : Int) < (m : Int)) = true := decide_eq_true (by omega)
              have d5 : decide (cc < m) = true := decide_eq_true d3
              have lf : lt2 (kB B) cc m = true := LT.out.trans (by rw [d5, decide_eq_true ke, Bool.and_true, Bool.or_true])
              have DQ := hid (TK.out lf).1
              have LQ := hid (TK.out lf).2
              clear d1 d2 d3 LT TK LV lf ke
              go_wp2_with fail
              refine BB.out.mono ?_
              rintro e9 v1 ⟨rfl, b1⟩
              have A1 : Hid (Ab w v1) := AR.out.trans b1
              clear b1
              have z1 := XC.out _ A1.out
              go_wp2_with fail
              refine (CM.out _).mono ?_
              rintro e9 v9 ⟨rfl, hv9⟩
              have hv8 := hv9.symm
              subst hv8
              clear z1
              go_upto_region 10 with fail
              obtain ⟨UU, E, hF1, hF2⟩ := cls v1
              have HU := hid hF2
              have HU1 := hid hF1
              have y1 : ∀ u, (E u).cell? ⟨qb, ob + cc, none⟩ = some (.float .f64 x) := fun u => XC.out _ (A1.out.trans (hF1 u))
              have DD0 := HU.out _ (Ab.refl v1).drew
              clear hF1 hF2
              refine region_cls E (by kernel_rfl) (by kernel_rfl) DD0 ?_
              repeat (go_big_quiet_step (with_reducible rfl))
              refine wpQuiet_nil ?_
              intro v2 hwz
              obtain ⟨u0, hu⟩ := hwz
              have A2 : Hid (Ab v1 v2) := by rw [hu]; exact HU1.out u0
              clear hu u0
              clear HU HU1 DD0 y1
              clear E UU
              go_wp2
              exact ⟨⟨k + 1, by have := HK.out; omega, by simp, by rw [DQ.out], by rw [LQ.out], A1.out.trans A2.out⟩, by have := HK.out; simp [intOf]; omega⟩
            · have d4 : decide ((cc : Int) < (m : Int)) = false := decide_eq_false (by omega)
              have d5 : decide (cc < m) = false := decide_eq_false d3
              have lf : lt2 (kB B) cc m = false := LT.out.trans (by rw [d5, decide_eq_false d1]; simp)
              have DQ := hid (LV.out lf).1
              have LQ := hid (LV.out lf).2
              clear d1 d2 d3 LT TK LV lf ke
              go_wp2_with fail
              refine BB.out.mono ?_
              rintro e9 v1 ⟨rfl, b1⟩
              have A1 : Hid (Ab w v1) := AR.out.trans b1
              clear b1
              have z1 := XC.out _ A1.out
              go_wp2_with fail
              refine (CM.out _).mono ?_
              rintro e9 v9 ⟨rfl, hv9⟩
              have hv8 := hv9.symm
              subst hv8
              clear z1
              go_wp2
              exact ⟨⟨k + 1, by have := HK.out; omega, by simp, by rw [DQ.out], by rw [LQ.out], A1.out⟩, by have := HK.out; simp [intOf]; omega⟩
    · have k4 : k = 4 := by omega
      subst k4
      go_wp2
      go_ret
      exact ⟨rfl, AR.out⟩
/-- WHAT Down ANSWERS -/
theorem downC : DownC := fun n gb pb lb cb B cell w hn g ib hw => by
  by_cases hl : lb = 6 * n * n
  · by_cases hc : 0 ≤ cell ∧ cell < (lb : Nat)
    · obtain ⟨c, rfl⟩ : ∃ c : Nat, cell = (c : Nat) := ⟨cell.toNat, by omega⟩
      have hc2 : c < lb := by omega
      rw [if_pos ⟨hl, hc.1, by rw [← hl]; exact hc.2⟩, Int.toNat_natCast]
      obtain ⟨qb, ob, rfl⟩ := ib.some0 (show 0 < lb by omega)
      have nb : lb ≤ 6144 := by
        have h1 : n * n ≤ 32 * 32 := Nat.mul_le_mul hn.2 hn.2
        rw [hl, Nat.mul_assoc]
        omega
      have cc := gCells_at g
      rw [← hl] at cc
      exact down_go lb gb qb ob cb B (fun s => bsC n c s) c w nb hc2 ib cc (fun v s a hs => beside19_at n gb c s v hn (by omega) hs (g.to a)) (fun s hs => by rw [hl]; exact bsC_lt hn.1 (by omega) hs)
    · rw [if_neg (by rw [← hl]; exact fun h => hc h.2)]
      exact down_out n gb pb lb cb cell w g hl hc
  · rw [if_neg (fun h => hl h.1)]
    exact down_len n gb pb lb cb cell w g hl
end Rv
end Go.Proofs.YtkckcohemalhiaaGreatDoor

namespace Go.Proofs.YtkckcohemalhiaaGreatDoor
open Go.RowKit Go.Deep
namespace Sh
theorem wpList_zero {ops : Array Oper} {rest : List Oper} {o : Oper} {a : Act} {w : World} {Q : Exit → Act → World → Prop} (hgd : o.guard = none) (s x : Operand)
    (ho : o.op = .call { callee := .builtin .append, args := #[s, x], argTypes := #[23, 23] })
    (g : Nat) (hs : a.eval s = .slice (some ⟨g, 0, none⟩) 0 0) (src : Value) (hx : a.eval x = src) (hsrc : Src Tryz.prog 1 23 src 0 [] w)
    (h : wpList Tryz.prog ops Q rest (a.put o.dst (.slice (some ⟨g, 0, none⟩) 0 0)) w) : wpList Tryz.prog ops Q (o :: rest) a w := by
  obtain ⟨i0, hi, hz0, hz1, hz2⟩ := info_i
  refine wpList_plain hgd fun _ hK => ?_
  have hr := run_append_room_src (P := Tryz.prog) w 23 23 o.type 2 i0 Tryz.underlying23 hi g 0 0 0 src 0 [] (by rw [hz1]; exact hsrc) (Nat.le_refl _) (fun j hj => absurd hj (Nat.not_lt_zero j)) (fun j hj => absurd hj (Nat.not_lt_zero j))
  unfold Oper.wp execOp
  simp only [ho, resolve, invoke, builtin, Sem.run_bind, Sem.run_pure, Result.andThen_ok, List.map_toArray, List.map_cons, List.map_nil, hs, hx, hr]
  exact hK _ _ h
theorem news_in {w : World} {b o N : Nat} {D : Nat → Int} (h : IsI w (some ⟨b, o, none⟩) N D) : ∀ j u, (((List.range N).map D).map (Value.int .i64))[j]? = some u → w.cell? ((⟨b, o, none⟩ : Addr).add j) = some u := fun j u hu => by
  have hj : j < N := by
    rcases Nat.lt_or_ge j N with h1 | h1
    · exact h1
    · rw [List.getElem?_eq_none (by simpa using h1)] at hu; cases hu
  simp [hj] at hu
  rw [add_off, ← hu]
  exact (h.at0 hj).2.2
end Sh
end Go.Proofs.YtkckcohemalhiaaGreatDoor
