/-
  Rains that can be, water that can be, a copy of a list: walks over the program (layer 18).
-/
import Derived.Test.YthcgbjkbnbeobaaRnC
import Derived.Lib.SliceRun
namespace Go.Proofs.Ythcgbjkbnbeobaa
open Go.RowKit Go.Deep
namespace Rn
open Sh
set_option maxRecDepth 100000 in
set_option maxHeartbeats 16000000 in
theorem valid18 (n r1 r2 r3 r4 : Int) (w : World) :
    Calls Try.prog 10 #[.int .i64 n, .agg #[.int .i64 r1, .int .i64 r2, .int .i64 r3, .int .i64 r4]] w fun e w' => e = .returned (.bool (vB n (r1, r2, r3, r4))) ∧ Below w.heap.size w w' := by
  have A0 : Hid (Ab w (w.alloc (.cells #[.int .i64 r1, .int .i64 r2, .int .i64 r3, .int .i64 r4] 29))) := bl1 _ _
  have R0 : Hid ((w.alloc (.cells #[.int .i64 r1, .int .i64 r2, .int .i64 r3, .int .i64 r4] 29)).heap[w.heap.size]? = some (.cells #[.int .i64 r1, .int .i64 r2, .int .i64 r3, .int .i64 r4] 29)) := heap_alloc_new _ _
  have VE : Hid (vB n (r1, r2, r3, r4) = (decide (0 ≤ r1) && decide (r1 < n) && decide (-4503599627370496 ≤ r2) && decide (r2 ≤ 4503599627370496) && decide (0 ≤ r3) && decide (r3 ≤ r4))) := rfl
  cases h0 : decide (0 ≤ r1) with
  | false =>
    have KO : Hid (vB n (r1, r2, r3, r4) = false) := VE.out.trans (by rw [h0] <;> rfl)
    clear VE
    go_enter Try.func10, Try.ntmps10
    go_upto_region 1 with fail
    generalize hW : World.alloc w _ = W0 at *
    obtain ⟨gw, hgw⟩ : ∃ g, w.heap.size = g := ⟨_, rfl⟩
    rw [hgw] at R0 ⊢
    clear hgw hW
    have x0 := cell_of_row _ _ 0 _ _ _ R0.out
    have x1 := cell_of_row _ _ 1 _ _ _ R0.out
    have x2 := cell_of_row _ _ 2 _ _ _ R0.out
    have x3 := cell_of_row _ _ 3 _ _ _ R0.out
    go_wp2
    go_ret
    exact ⟨by rw [KO.out]; rfl, A0.out⟩
  | true =>
    cases h1 : decide (r1 < n) with
    | false =>
      have KO : Hid (vB n (r1, r2, r3, r4) = false) := VE.out.trans (by rw [h0, h1] <;> rfl)
      clear VE
      go_enter Try.func10, Try.ntmps10
      go_upto_region 1 with fail
      generalize hW : World.alloc w _ = W0 at *
      obtain ⟨gw, hgw⟩ : ∃ g, w.heap.size = g := ⟨_, rfl⟩
      rw [hgw] at R0 ⊢
      clear hgw hW
      have x0 := cell_of_row _ _ 0 _ _ _ R0.out
      have x1 := cell_of_row _ _ 1 _ _ _ R0.out
      have x2 := cell_of_row _ _ 2 _ _ _ R0.out
      have x3 := cell_of_row _ _ 3 _ _ _ R0.out
      go_wp2
      go_ret
      exact ⟨by rw [KO.out]; rfl, A0.out⟩
    | true =>
      cases h2 : decide (-4503599627370496 ≤ r2) with
      | false =>
        have KO : Hid (vB n (r1, r2, r3, r4) = false) := VE.out.trans (by rw [h0, h1, h2] <;> rfl)
        clear VE
        go_enter Try.func10, Try.ntmps10
        go_upto_region 1 with fail
        generalize hW : World.alloc w _ = W0 at *
        obtain ⟨gw, hgw⟩ : ∃ g, w.heap.size = g := ⟨_, rfl⟩
        rw [hgw] at R0 ⊢
        clear hgw hW
        have x0 := cell_of_row _ _ 0 _ _ _ R0.out
        have x1 := cell_of_row _ _ 1 _ _ _ R0.out
        have x2 := cell_of_row _ _ 2 _ _ _ R0.out
        have x3 := cell_of_row _ _ 3 _ _ _ R0.out
        go_wp2
        go_ret
        exact ⟨by rw [KO.out]; rfl, A0.out⟩
      | true =>
        cases h3 : decide (r2 ≤ 4503599627370496) with
        | false =>
          have KO : Hid (vB n (r1, r2, r3, r4) = false) := VE.out.trans (by rw [h0, h1, h2, h3] <;> rfl)
          clear VE
          go_enter Try.func10, Try.ntmps10
          go_upto_region 1 with fail
          generalize hW : World.alloc w _ = W0 at *
          obtain ⟨gw, hgw⟩ : ∃ g, w.heap.size = g := ⟨_, rfl⟩
          rw [hgw] at R0 ⊢
          clear hgw hW
          have x0 := cell_of_row _ _ 0 _ _ _ R0.out
          have x1 := cell_of_row _ _ 1 _ _ _ R0.out
          have x2 := cell_of_row _ _ 2 _ _ _ R0.out
          have x3 := cell_of_row _ _ 3 _ _ _ R0.out
          go_wp2
          go_ret
          exact ⟨by rw [KO.out]; rfl, A0.out⟩
        | true =>
          cases h4 : decide (0 ≤ r3) with
          | false =>
            have KO : Hid (vB n (r1, r2, r3, r4) = false) := VE.out.trans (by rw [h0, h1, h2, h3, h4] <;> rfl)
            clear VE
            go_enter Try.func10, Try.ntmps10
            go_upto_region 1 with fail
            generalize hW : World.alloc w _ = W0 at *
            obtain ⟨gw, hgw⟩ : ∃ g, w.heap.size = g := ⟨_, rfl⟩
            rw [hgw] at R0 ⊢
            clear hgw hW
            have x0 := cell_of_row _ _ 0 _ _ _ R0.out
            have x1 := cell_of_row _ _ 1 _ _ _ R0.out
            have x2 := cell_of_row _ _ 2 _ _ _ R0.out
            have x3 := cell_of_row _ _ 3 _ _ _ R0.out
            go_wp2
            go_ret
            exact ⟨by rw [KO.out]; rfl, A0.out⟩
          | true =>
            cases h5 : decide (r3 ≤ r4) with
            | false =>
              have KO : Hid (vB n (r1, r2, r3, r4) = false) := VE.out.trans (by rw [h0, h1, h2, h3, h4, h5] <;> rfl)
              clear VE
              go_enter Try.func10, Try.ntmps10
              go_upto_region 1 with fail
              generalize hW : World.alloc w _ = W0 at *
              obtain ⟨gw, hgw⟩ : ∃ g, w.heap.size = g := ⟨_, rfl⟩
              rw [hgw] at R0 ⊢
              clear hgw hW
              have x0 := cell_of_row _ _ 0 _ _ _ R0.out
              have x1 := cell_of_row _ _ 1 _ _ _ R0.out
              have x2 := cell_of_row _ _ 2 _ _ _ R0.out
              have x3 := cell_of_row _ _ 3 _ _ _ R0.out
              go_wp2
              go_ret
              exact ⟨by rw [KO.out]; rfl, A0.out⟩
            | true =>
              have KO : Hid (vB n (r1, r2, r3, r4) = true) := VE.out.trans (by rw [h0, h1, h2, h3, h4, h5] <;> rfl)
              clear VE
              go_enter Try.func10, Try.ntmps10
              go_upto_region 1 with fail
              generalize hW : World.alloc w _ = W0 at *
              obtain ⟨gw, hgw⟩ : ∃ g, w.heap.size = g := ⟨_, rfl⟩
              rw [hgw] at R0 ⊢
              clear hgw hW
              have x0 := cell_of_row _ _ 0 _ _ _ R0.out
              have x1 := cell_of_row _ _ 1 _ _ _ R0.out
              have x2 := cell_of_row _ _ 2 _ _ _ R0.out
              have x3 := cell_of_row _ _ 3 _ _ _ R0.out
              go_wp2
              go_ret
              exact ⟨by rw [KO.out]; rfl, A0.out⟩
/-- what Valid answers -/
theorem validC : ValidC := fun n r w _ _ => by
  obtain ⟨r1, r2, r3, r4⟩ := r
  exact valid18 n r1 r2 r3 r4 w
/-- whether so much water can't be -/
def out18 (x : Int) : Bool := decide (x < 0) || decide (4503599627370496 < x)
set_option maxRecDepth 100000 in
set_option maxHeartbeats 16000000 in
theorem out_at (x : Int) (w : World) : Calls Try.prog 15 #[.int .i64 x] w fun e w' => e = .returned (.bool (out18 x)) ∧ w' = w := by
  cases h1 : decide (x < 0) with
  | true =>
    have F : Hid (out18 x = true) := by show _ = _; unfold out18; rw [h1]; rfl
    go_enter Try.func15, Try.ntmps15
    go_wp2
    go_ret
    exact ⟨by rw [F.out]; rfl, rfl⟩
  | false =>
    cases h2 : decide (4503599627370496 < x) with
    | true =>
      have F : Hid (out18 x = true) := by show _ = _; unfold out18; rw [h1, h2]; rfl
      go_enter Try.func15, Try.ntmps15
      go_wp2
      go_ret
      exact ⟨by rw [F.out]; rfl, rfl⟩
    | false =>
      have F : Hid (out18 x = false) := by show _ = _; unfold out18; rw [h1, h2]; rfl
      go_enter Try.func15, Try.ntmps15
      go_wp2
      go_ret
      exact ⟨by rw [F.out]; rfl, rfl⟩
theorem out_iff {x : Int} : out18 x = false ↔ 0 ≤ x ∧ x ≤ 4503599627370496 := by
  unfold out18
  rw [Bool.or_eq_false_iff, decide_eq_false_iff_not, decide_eq_false_iff_not]
  omega
set_option maxRecDepth 100000 in
set_option maxHeartbeats 8000000 in
theorem idxout_no (p : Option Addr) (n cp : Nat) (f : Nat → Int) (w : World) (hn : n ≤ 17592186044416) (hf : IsI w p n f) (HA : Hid (∀ i, i < n → out18 (f i) = false)) :
    Calls Try.prog 24 #[.slice p n cp, .func (.func 15) #[] #[]] w fun e w' => e = .returned (.int .i64 (-1)) ∧ w' = w := by
  have HF := hid hf
  have HN := hid hn
  clear hf hn
  go_enter Try.func24, Try.ntmps24
  go_wp2
  go_loopw [8] (fun iv wr => ∃ c : Nat, c ≤ n ∧ iv = .int .i64 (c : Nat) ∧ wr = w) (fun iv _ => n - (intOf iv).toNat)
  case atStart => exact ⟨0, by omega, rfl, rfl⟩
  case round =>
    obtain ⟨c, hc, rfl, hwr⟩ := hrel
    have hwr2 := hwr.symm
    subst hwr2
    by_cases hcn : c < n
    · have HC := hid hcn
      have hcI : (c : Int) < n := by omega
      have hcB : (c : Int) ≤ 17592186044416 := by have := HN.out; omega
      obtain ⟨b0, o0, rfl⟩ := HF.out.some0 (show 0 < n by omega)
      obtain ⟨x, hx⟩ : ∃ x, f c = x := ⟨_, rfl⟩
      have at0 := HF.out.at0 hcn
      have hp := HA.out c hcn
      rw [hx] at at0 hp
      have xc := at0.2.2
      have CF := hid (out_at x w)
      rw [hp] at CF
      clear at0 hx hcn hc hp
      go_wp2_with fail
      refine CF.out.mono ?_
      rintro e9 v9 ⟨rfl, hv9⟩
      have hv8 := hv9.symm
      subst hv8
      go_wp2
      exact ⟨⟨c + 1, by have := HC.out; omega, by simp, by first | trivial | rfl⟩, by have := HC.out; simp [intOf]; omega⟩
    · have e6 : n = c := by omega
      subst e6
      go_wp2
      go_ret
      exact ⟨rfl, by first | trivial | rfl⟩
set_option maxRecDepth 100000 in
set_option maxHeartbeats 8000000 in
theorem idxout_yes (p : Option Addr) (n cp : Nat) (f : Nat → Int) (w : World) (hn : n ≤ 17592186044416) (hf : IsI w p n f) (HA : Hid (¬ ∀ i, i < n → out18 (f i) = false)) :
    Calls Try.prog 24 #[.slice p n cp, .func (.func 15) #[] #[]] w fun e w' => (∃ i : Nat, i ≤ 17592186044416 ∧ e = .returned (.int .i64 (i : Nat))) ∧ w' = w := by
  have HF := hid hf
  have HN := hid hn
  clear hf hn
  go_enter Try.func24, Try.ntmps24
  go_wp2
  go_loopw [8] (fun iv wr => ∃ c : Nat, c ≤ n ∧ iv = .int .i64 (c : Nat) ∧ (∀ i, i < c → out18 (f i) = false) ∧ wr = w) (fun iv _ => n - (intOf iv).toNat)
  case atStart => exact ⟨0, by omega, rfl, fun i hi => absurd hi (Nat.not_lt_zero i), rfl⟩
  case round =>
    obtain ⟨c, hc, rfl, g1, hwr⟩ := hrel
    have hwr2 := hwr.symm
    subst hwr2
    have G1 := hid g1
    clear g1
    by_cases hcn : c < n
    · have HC := hid hcn
      have hcI : (c : Int) < n := by omega
      have hcB : (c : Int) ≤ 17592186044416 := by have := HN.out; omega
      obtain ⟨b0, o0, rfl⟩ := HF.out.some0 (show 0 < n by omega)
      obtain ⟨x, hx⟩ : ∃ x, f c = x := ⟨_, rfl⟩
      have at0 := HF.out.at0 hcn
      rw [hx] at at0
      have xc := at0.2.2
      have CF := hid (out_at x w)
      have XE := hid hx
      clear at0 hx hcn hc
      cases hp : out18 x with
      | true =>
        rw [hp] at CF
        have hp2 := hid hp
        clear hp
        go_wp2_with fail
        refine CF.out.mono ?_
        rintro e9 v9 ⟨rfl, hv9⟩
        have hv8 := hv9.symm
        subst hv8
        go_wp2
        go_ret
        exact ⟨⟨c, by have := HC.out; have := HN.out; omega, rfl⟩, by first | trivial | rfl⟩
      | false =>
        rw [hp] at CF
        have hp2 := hid hp
        clear hp
        go_wp2_with fail
        refine CF.out.mono ?_
        rintro e9 v9 ⟨rfl, hv9⟩
        have hv8 := hv9.symm
        subst hv8
        go_wp2
        refine ⟨⟨c + 1, by have := HC.out; omega, by simp, fun i hi => ?_, by first | trivial | rfl⟩, by have := HC.out; simp [intOf]; omega⟩
        by_cases l : i < c
        · exact G1.out i l
        · obtain rfl : i = c := by omega
          rw [XE.out]
          exact hp2.out
    · have e6 : n = c := by omega
      subst e6
      exact absurd G1.out HA.out
set_option maxRecDepth 100000 in
set_option maxHeartbeats 4000000 in
theorem hasout_no (p : Option Addr) (n cp : Nat) (f : Nat → Int) (w : World) (hn : n ≤ 17592186044416) (hf : IsI w p n f) (HA : ∀ i, i < n → out18 (f i) = false) :
    Calls Try.prog 16 #[.slice p n cp, .func (.func 15) #[] #[]] w fun e w' => e = .returned (.bool false) ∧ w' = w := by
  have IX := hid (idxout_no p n cp f w hn hf HA)
  clear hn hf HA
  go_enter Try.func16, Try.ntmps16
  go_wp2_with fail
  refine IX.out.mono ?_
  rintro e9 v9 ⟨rfl, hv9⟩
  have hv8 := hv9.symm
  subst hv8
  go_wp2
  go_ret
  exact ⟨rfl, rfl⟩
set_option maxRecDepth 100000 in
set_option maxHeartbeats 4000000 in
theorem hasout_yes (p : Option Addr) (n cp : Nat) (f : Nat → Int) (w : World) (hn : n ≤ 17592186044416) (hf : IsI w p n f) (HA : ¬ ∀ i, i < n → out18 (f i) = false) :
    Calls Try.prog 16 #[.slice p n cp, .func (.func 15) #[] #[]] w fun e w' => e = .returned (.bool true) ∧ w' = w := by
  have IX := hid (idxout_yes p n cp f w hn hf HA)
  clear hn hf HA
  go_enter Try.func16, Try.ntmps16
  go_wp2_with fail
  refine IX.out.mono ?_
  rintro e9 v9 ⟨⟨i, hi, rfl⟩, hv9⟩
  have hv8 := hv9.symm
  subst hv8
  go_wp2
  go_ret
  exact ⟨rfl, rfl⟩
set_option maxRecDepth 100000 in
set_option maxHeartbeats 16000000 in
theorem falls_at (r1 r2 r3 r4 st : Int) (w : World) : Calls Try.prog 22 #[.agg #[.int .i64 r1, .int .i64 r2, .int .i64 r3, .int .i64 r4], .int .i64 st] w fun e w' => e = .returned (.bool (fallB st (r1, r2, r3, r4))) ∧ Below w.heap.size w w' := by
  have A0 : Hid (Ab w (w.alloc (.cells #[.int .i64 r1, .int .i64 r2, .int .i64 r3, .int .i64 r4] 29))) := bl1 _ _
  have R0 : Hid ((w.alloc (.cells #[.int .i64 r1, .int .i64 r2, .int .i64 r3, .int .i64 r4] 29)).heap[w.heap.size]? = some (.cells #[.int .i64 r1, .int .i64 r2, .int .i64 r3, .int .i64 r4] 29)) := heap_alloc_new _ _
  have VE : Hid (fallB st (r1, r2, r3, r4) = (decide (r3 ≤ st) && decide (st < r4))) := rfl
  cases h0 : decide (r3 ≤ st) with
  | false =>
    have KO : Hid (fallB st (r1, r2, r3, r4) = false) := VE.out.trans (by rw [h0] <;> rfl)
    clear VE
    go_enter Try.func22, Try.ntmps22
    go_upto_region 1 with fail
    generalize hW : World.alloc w _ = W0 at *
    obtain ⟨gw, hgw⟩ : ∃ g, w.heap.size = g := ⟨_, rfl⟩
    rw [hgw] at R0 ⊢
    clear hgw hW
    have x2 := cell_of_row _ _ 2 _ _ _ R0.out
    have x3 := cell_of_row _ _ 3 _ _ _ R0.out
    go_wp2
    go_ret
    exact ⟨by rw [KO.out]; rfl, A0.out⟩
  | true =>
    cases h1 : decide (st < r4) with
    | false =>
      have KO : Hid (fallB st (r1, r2, r3, r4) = false) := VE.out.trans (by rw [h0, h1] <;> rfl)
      clear VE
      go_enter Try.func22, Try.ntmps22
      go_upto_region 1 with fail
      generalize hW : World.alloc w _ = W0 at *
      obtain ⟨gw, hgw⟩ : ∃ g, w.heap.size = g := ⟨_, rfl⟩
      rw [hgw] at R0 ⊢
      clear hgw hW
      have x2 := cell_of_row _ _ 2 _ _ _ R0.out
      have x3 := cell_of_row _ _ 3 _ _ _ R0.out
      go_wp2
      go_ret
      exact ⟨by rw [KO.out]; rfl, A0.out⟩
    | true =>
      have KO : Hid (fallB st (r1, r2, r3, r4) = true) := VE.out.trans (by rw [h0, h1] <;> rfl)
      clear VE
      go_enter Try.func22, Try.ntmps22
      go_upto_region 1 with fail
      generalize hW : World.alloc w _ = W0 at *
      obtain ⟨gw, hgw⟩ : ∃ g, w.heap.size = g := ⟨_, rfl⟩
      rw [hgw] at R0 ⊢
      clear hgw hW
      have x2 := cell_of_row _ _ 2 _ _ _ R0.out
      have x3 := cell_of_row _ _ 3 _ _ _ R0.out
      go_wp2
      go_ret
      exact ⟨by rw [KO.out]; rfl, A0.out⟩
set_option maxRecDepth 100000 in
set_option maxHeartbeats 16000000 in
theorem allv_yes (lw : Nat) (pr : Option Addr) (lr cr : Nat) (R : Nat → Int × Int × Int × Int) (w : World) (hlr : lr ≤ 1024) (IR : Hid (IsRn w pr lr R)) (HV : Hid (∀ k, k < lr → vB (lw : Nat) (R k) = true)) :
    Calls Try.prog 17 #[.int .i64 (lw : Nat), .slice pr lr cr] w fun e w' => e = .returned (.bool true) ∧ Below w.heap.size w w' := by
  have h4 : decide ((1024 : Int) < (lr : Int)) = false := decide_eq_false (by omega)
  have HLR := hid hlr
  clear hlr
  go_enter Try.func17, Try.ntmps17
  go_wp2
  go_loopw [12] (fun iv wq => ∃ c : Nat, c ≤ lr ∧ iv = .int .i64 (c : Nat) ∧ Ab w wq) (fun iv _ => lr - (intOf iv).toNat)
  case atStart => exact ⟨0, by omega, rfl, Ab.refl w⟩
  case round =>
    obtain ⟨c, hc, rfl, ar⟩ := hrel
    have AQ := hid ar
    clear ar
    by_cases hcn : c < lr
    · have HC := hid hcn
      have hcI : (c : Int) < lr := by omega
      have hcB : (c : Int) ≤ 1024 := by have := HLR.out; omega
      obtain ⟨rb, ro, rfl⟩ := IR.out.some0 (show 0 < lr by omega)
      obtain ⟨r1, r2, r3, r4, hr⟩ : ∃ a b c' d, R c = (a, b, c', d) := ⟨_, _, _, _, rfl⟩
      have at0 := ((IR.out.below AQ.out).at0 hcn)
      rw [hr] at at0
      have y0 := at0.2.2.1
      have y1 := at0.2.2.2.1
      have y2 := at0.2.2.2.2.1
      have y3 := at0.2.2.2.2.2
      have RE := hid hr
      clear at0 hr hcn hc
      have A1 : Hid (Ab wr (wr.alloc (.cells #[.int .i64 r1, .int .i64 r2, .int .i64 r3, .int .i64 r4] 29))) := bl1 _ _
      have CV := hid (fun v => valid18 (lw : Nat) r1 r2 r3 r4 v)
      rw [← RE.out, HV.out c HC.out] at CV
      go_wp2_with fail
      refine (CV.out _).mono ?_
      rintro e9 v9 ⟨rfl, b9⟩
      have A9 : Hid (Ab w v9) := AQ.out.trans (A1.out.trans b9)
      clear b9
      go_wp2
      exact ⟨⟨c + 1, by have := HC.out; omega, by simp, A9.out⟩, by have := HC.out; simp [intOf]; omega⟩
    · have e6 : lr = c := by omega
      subst e6
      go_wp2
      go_ret
      exact ⟨rfl, AQ.out⟩
set_option maxRecDepth 100000 in
set_option maxHeartbeats 16000000 in
theorem allv_no (lw : Nat) (pr : Option Addr) (lr cr : Nat) (R : Nat → Int × Int × Int × Int) (w : World) (hlr : lr ≤ 1024) (IR : Hid (IsRn w pr lr R)) (HB : Hid (¬ ∀ k, k < lr → vB (lw : Nat) (R k) = true)) :
    Calls Try.prog 17 #[.int .i64 (lw : Nat), .slice pr lr cr] w fun e w' => e = .returned (.bool false) ∧ Below w.heap.size w w' := by
  have h4 : decide ((1024 : Int) < (lr : Int)) = false := decide_eq_false (by omega)
  have HLR := hid hlr
  clear hlr
  go_enter Try.func17, Try.ntmps17
  go_wp2
  go_loopw [12] (fun iv wq => ∃ c : Nat, c ≤ lr ∧ iv = .int .i64 (c : Nat) ∧ Ab w wq ∧ (∀ k, k < c → vB (lw : Nat) (R k) = true)) (fun iv _ => lr - (intOf iv).toNat)
  case atStart => exact ⟨0, by omega, rfl, Ab.refl w, fun i hi => absurd hi (Nat.not_lt_zero i)⟩
  case round =>
    obtain ⟨c, hc, rfl, ar, g1⟩ := hrel
    have AQ := hid ar
    clear ar
    have G1 := hid g1
    clear g1
    by_cases hcn : c < lr
    · have HC := hid hcn
      have hcI : (c : Int) < lr := by omega
      have hcB : (c : Int) ≤ 1024 := by have := HLR.out; omega
      obtain ⟨rb, ro, rfl⟩ := IR.out.some0 (show 0 < lr by omega)
      obtain ⟨r1, r2, r3, r4, hr⟩ : ∃ a b c' d, R c = (a, b, c', d) := ⟨_, _, _, _, rfl⟩
      have at0 := ((IR.out.below AQ.out).at0 hcn)
      rw [hr] at at0
      have y0 := at0.2.2.1
      have y1 := at0.2.2.2.1
      have y2 := at0.2.2.2.2.1
      have y3 := at0.2.2.2.2.2
      have RE := hid hr
      clear at0 hr hcn hc
      have A1 : Hid (Ab wr (wr.alloc (.cells #[.int .i64 r1, .int .i64 r2, .int .i64 r3, .int .i64 r4] 29))) := bl1 _ _
      cases vb : vB (lw : Nat) (R c) with
      | false =>
        have CV := hid (fun v => valid18 (lw : Nat) r1 r2 r3 r4 v)
        rw [← RE.out, vb] at CV
        go_wp2_with fail
        refine (CV.out _).mono ?_
        rintro e9 v9 ⟨rfl, b9⟩
        have A9 : Hid (Ab w v9) := AQ.out.trans (A1.out.trans b9)
        clear b9
        go_wp2
        go_ret
        exact ⟨rfl, A9.out⟩
      | true =>
        have VB := hid vb
        have CV := hid (fun v => valid18 (lw : Nat) r1 r2 r3 r4 v)
        rw [← RE.out, vb] at CV
        clear vb
        go_wp2_with fail
        refine (CV.out _).mono ?_
        rintro e9 v9 ⟨rfl, b9⟩
        have A9 : Hid (Ab w v9) := AQ.out.trans (A1.out.trans b9)
        clear b9
        go_wp2
        refine ⟨⟨c + 1, by have := HC.out; omega, by simp, A9.out, fun k hk => ?_⟩, by have := HC.out; simp [intOf]; omega⟩
        by_cases l : k < c
        · exact G1.out k l
        · obtain rfl : k = c := by omega
          exact VB.out
    · have e6 : lr = c := by omega
      subst e6
      exact absurd G1.out HB.out
set_option maxRecDepth 100000 in
set_option maxHeartbeats 16000000 in
theorem allv_long (lw : Nat) (pr : Option Addr) (lr cr : Nat) (w : World) (h4 : decide ((1024 : Int) < (lr : Int)) = true) :
    Calls Try.prog 17 #[.int .i64 (lw : Nat), .slice pr lr cr] w fun e w' => e = .returned (.bool false) ∧ Below w.heap.size w w' := by
  go_enter Try.func17, Try.ntmps17
  go_wp2
  go_ret
  exact ⟨rfl, Below.refl _ _⟩
end Rn
end Go.Proofs.Ythcgbjkbnbeobaa
