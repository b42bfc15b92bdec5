/-
  Takes: walks over the reference (layer 17).
-/
import Derived.Test.YtehadalddjbclaaTrB
namespace Go.Proofs.Ytehadalddjbclaa
open Go.RowKit Go.Deep
namespace Tr
open Sh
set_option maxRecDepth 100000 in
set_option maxHeartbeats 16000000 in
theorem rtk_neg1 (W h : Int) (p : Option Addr) (n cp : Nat) (w : World) (hW : W < 0) :
    Calls Try.prog 7 #[.int .i64 W, .int .i64 h, .slice p n cp] w fun e w' => e = .returned (.tuple #[.slice none 0 0, .int .i64 1]) ∧ Below w.heap.size w w' := by
  have d0 : decide (W < 0) = true := decide_eq_true hW
  go_enter Try.func7, Try.ntmps7
  go_wp2
  go_ret2
  exact ⟨rfl, Below.refl _ _⟩
set_option maxRecDepth 100000 in
set_option maxHeartbeats 16000000 in
theorem rtk_neg2 (W h : Int) (p : Option Addr) (n cp : Nat) (w : World) (hW : 0 ≤ W) (hh : h < 0) :
    Calls Try.prog 7 #[.int .i64 W, .int .i64 h, .slice p n cp] w fun e w' => e = .returned (.tuple #[.slice none 0 0, .int .i64 1]) ∧ Below w.heap.size w w' := by
  have d0 : decide (W < 0) = false := decide_eq_false (by omega)
  have d1 : decide (h < 0) = true := decide_eq_true hh
  go_enter Try.func7, Try.ntmps7
  go_wp2
  go_ret2
  exact ⟨rfl, Below.refl _ _⟩
set_option maxRecDepth 100000 in
set_option maxHeartbeats 16000000 in
theorem rtk_no (W h : Int) (p : Option Addr) (n cp : Nat) (f : Nat → Int) (w : World) (hW : 0 ≤ W) (hh : 0 ≤ h) (hW2 : W ≤ 9223372036854775807) (hh2 : h ≤ 9223372036854775807) (hn : n ≤ 65536) (hf : IsI w p n f) (HG : Hid (¬ okA W f n)) :
    Calls Try.prog 7 #[.int .i64 W, .int .i64 h, .slice p n cp] w fun e w' => e = .returned (.tuple #[.slice none 0 0, .int .i64 1]) ∧ Below w.heap.size w w' := by
  have HF := hid hf
  have HN := hid hn
  have HH := hid (And.intro hh hh2)
  have HW := hid (And.intro hW hW2)
  clear hf hn
  have d0 : decide (W < 0) = false := decide_eq_false (by omega)
  have d1 : decide (h < 0) = false := decide_eq_false (by omega)
  have RP : Hid (∀ y z v, W64 y → W64 z → Calls Try.prog 10 #[.int .i64 h, .int .i64 y, .int .i64 z] v fun e w' => e = .returned (.int .i64 (Sh.part h y z)) ∧ w' = v) := fun y z v hy hz => rpart_at h y z v ⟨by omega, hh2⟩ hy hz
  clear hh hh2
  have o0 := hid (own_new w w.heap.size (Nat.le_refl _))
  have B0 := hid (bl1 w (.cells #[] 2))
  go_enter Try.func7, Try.ntmps7
  go_upto_region 4 with fail
  generalize hV : World.alloc w _ = V at *
  obtain ⟨gq, hgq⟩ : ∃ g, w.heap.size = g := ⟨_, rfl⟩
  go_wp2
  go_loopw [8, 9, 10, 11] (fun ov sv lv iv wr => ∃ c : Nat, c ≤ n ∧ iv = .int .i64 (c : Nat) ∧ sv = .int .i64 (sumN f c) ∧ lv = .int .i64 (Sh.part h (sumN f c) W) ∧ (∀ i, i < c → 0 ≤ f i) ∧ sumN f c ≤ W ∧ Own w.heap.size ov ((List.range c).map (tkA h W f)) wr ∧ Ab w wr) (fun _ _ _ iv _ => n - (intOf iv).toNat)
  case atStart => exact ⟨0, by omega, rfl, rfl, by show Value.int .i64 0 = .int .i64 (Sh.part h 0 W); rw [part_0], fun i hi => absurd hi (Nat.not_lt_zero i), hW, o0.out, B0.out⟩
  case round =>
    obtain ⟨c, hc, rfl, rfl, rfl, g1, g2, ow, ar⟩ := hrel
    have G1 := hid g1
    have OX := hid ow
    have AR := hid ar
    have s0 := sumN_nn g1
    obtain ⟨s, hs⟩ : ∃ s, sumN f c = s := ⟨_, rfl⟩
    obtain ⟨l, hl⟩ : ∃ l, Sh.part h s W = l := ⟨_, rfl⟩
    have SE := hid hs
    have LE := hid hl
    have lb := part_in h s W
    rw [hl] at lb
    rw [hs] at s0 g2 ⊢
    rw [hl]
    clear g1 hs hl ow ar o0 B0 hgq hV
    by_cases hcn : c < n
    · have HC2 := hid hcn
      have hcI : (c : Int) < n := by omega
      have hcB : (c : Int) ≤ 65536 := by have := HN.out; omega
      obtain ⟨b0, o0, rfl⟩ := HF.out.some0 (show 0 < n by omega)
      obtain ⟨x, hx⟩ : ∃ x, f c = x := ⟨_, rfl⟩
      have at0 := HF.out.at0 hcn
      rw [hx] at at0
      have XE := hid hx
      have xc : wr.cell? ⟨b0, o0 + c, none⟩ = some (.int .i64 x) := (Below.cell AR.out at0.2.1).trans at0.2.2
      have x1 := at0.1.1
      have x2 := at0.1.2
      clear at0 hx hcn hc
      by_cases q0 : x < 0
      · have d2 : decide (x < 0) = true := decide_eq_true q0
        go_wp2
        go_ret2
        exact ⟨rfl, AR.out⟩
      · have d2 : decide (x < 0) = false := decide_eq_false q0
        by_cases q1 : W - s < x
        · have d3 : decide (W - s < x) = true := decide_eq_true q1
          go_wp2
          go_ret2
          exact ⟨rfl, AR.out⟩
        · have d3 : decide (W - s < x) = false := decide_eq_false q1
          obtain ⟨y, hy⟩ : ∃ y, Sh.part h (s + x) W = y := ⟨_, rfl⟩
          have YE := hid hy
          have yb := part_in h (s + x) W
          rw [hy] at yb
          have PC := hid (RP.out (s + x) W wr (by unfold W64; omega) (by unfold W64; have := HW.out; omega))
          rw [hy] at PC
          clear hy
          have sum1 : Hid (sumN f (c + 1) = s + x) := by show _ = _; show sumN f c + f c = _; rw [SE.out, XE.out]
          have tk1 : Hid (tkA h W f c = y - l) := by show _ = _; unfold tkA; rw [sum1.out, SE.out, YE.out, LE.out]
          go_wp2_with fail
          refine PC.out.mono ?_
          rintro e9 wq ⟨rfl, hwq⟩
          have hwq2 := hwq.symm
          subst hwq2
          have N1 : Hid (∀ j u, (([y - l] : List Int).map (Value.int .i64))[j]? = some u → (wr.alloc (.cells #[.int .i64 (y - l)] 2)).cell? ((⟨wr.heap.size, 0, none⟩ : Addr).add j) = some u) := World.news_of_block (cs := #[.int .i64 (y - l)]) (t := 2) (heap_alloc_new wr _)
          have O2 := hid (Own.alloc OX.out (.cells #[.int .i64 (y - l)] 2))
          have LS : Hid (w.heap.size ≤ (wr.alloc (.cells #[.int .i64 (y - l)] 2)).heap.size) := Nat.le_trans AR.out.size (by simp)
          have LN : Hid (((List.range c).map (tkA h W f)).length = c) := by show _ = _; simp
          go_wp2_with (first
            | (at_builtin; refine wpList_app rfl (.tmp 51) (.tmp 55) rfl w.heap.size _ _ rfl O2.out ⟨wr.heap.size, 0, none⟩ 1 1 [y - l] rfl rfl N1.out (by decide) (by have := LN.out; have := HC2.out; have := HN.out; omega) LS.out (c + 1) (by rw [LN.out]) ?_; intro g1 c1 w2 o1 x1 _ _; have O1 := hid o1; have X1 := hid x1; clear o1 x1))
          refine ⟨⟨c + 1, by have := HC2.out; omega, by simp, by rw [sum1.out], by rw [sum1.out, YE.out], fun i hi => ?_, by rw [sum1.out]; omega, ?_, ?_⟩, by have := HC2.out; simp [intOf]; omega⟩
          · by_cases l : i < c
            · exact G1.out i l
            · obtain rfl : i = c := by omega
              rw [XE.out]; omega
          · rw [List.range_succ, List.map_append]
            have h9 := O1.out
            simp only [List.map_cons, List.map_nil, tk1.out]
            exact h9
          · exact Below.grown (Ab.trans AR.out (bl1 wr _) : Below _ _ _) X1.out LS.out (fun k hk => (World.ownsRow.lt OX.out k hk).1)
    · have e6 : n = c := by omega
      subst e6
      exact absurd ⟨G1.out, by rw [SE.out]; exact g2⟩ HG.out
set_option maxRecDepth 100000 in
set_option maxHeartbeats 16000000 in
theorem rtk_go (W h : Int) (p : Option Addr) (n cp : Nat) (f : Nat → Int) (w : World) (hW : 0 ≤ W) (hh : 0 ≤ h) (hW2 : W ≤ 9223372036854775807) (hh2 : h ≤ 9223372036854775807) (hn : n ≤ 65536) (hf : IsI w p n f) (HG : Hid (okA W f n)) :
    Calls Try.prog 7 #[.int .i64 W, .int .i64 h, .slice p n cp] w fun e w' => ∃ v, e = .returned (.tuple #[v, .int .i64 0]) ∧ Below w.heap.size w w' ∧ Own w.heap.size v (tkL W h n f) w' := by
  have HF := hid hf
  have HN := hid hn
  have HH := hid (And.intro hh hh2)
  have HW := hid (And.intro hW hW2)
  clear hf hn
  have d0 : decide (W < 0) = false := decide_eq_false (by omega)
  have d1 : decide (h < 0) = false := decide_eq_false (by omega)
  have RP : Hid (∀ y z v, W64 y → W64 z → Calls Try.prog 10 #[.int .i64 h, .int .i64 y, .int .i64 z] v fun e w' => e = .returned (.int .i64 (Sh.part h y z)) ∧ w' = v) := fun y z v hy hz => rpart_at h y z v ⟨by omega, hh2⟩ hy hz
  clear hh hh2
  have o0 := hid (own_new w w.heap.size (Nat.le_refl _))
  have B0 := hid (bl1 w (.cells #[] 2))
  go_enter Try.func7, Try.ntmps7
  go_upto_region 4 with fail
  generalize hV : World.alloc w _ = V at *
  obtain ⟨gq, hgq⟩ : ∃ g, w.heap.size = g := ⟨_, rfl⟩
  go_wp2
  go_loopw [8, 9, 10, 11] (fun ov sv lv iv wr => ∃ c : Nat, c ≤ n ∧ iv = .int .i64 (c : Nat) ∧ sv = .int .i64 (sumN f c) ∧ lv = .int .i64 (Sh.part h (sumN f c) W) ∧ (∀ i, i < c → 0 ≤ f i) ∧ sumN f c ≤ W ∧ Own w.heap.size ov ((List.range c).map (tkA h W f)) wr ∧ Ab w wr) (fun _ _ _ iv _ => n - (intOf iv).toNat)
  case atStart => exact ⟨0, by omega, rfl, rfl, by show Value.int .i64 0 = .int .i64 (Sh.part h 0 W); rw [part_0], fun i hi => absurd hi (Nat.not_lt_zero i), hW, o0.out, B0.out⟩
  case round =>
    obtain ⟨c, hc, rfl, rfl, rfl, g1, g2, ow, ar⟩ := hrel
    have G1 := hid g1
    have OX := hid ow
    have AR := hid ar
    have s0 := sumN_nn g1
    obtain ⟨s, hs⟩ : ∃ s, sumN f c = s := ⟨_, rfl⟩
    obtain ⟨l, hl⟩ : ∃ l, Sh.part h s W = l := ⟨_, rfl⟩
    have SE := hid hs
    have LE := hid hl
    have lb := part_in h s W
    rw [hl] at lb
    rw [hs] at s0 g2 ⊢
    rw [hl]
    clear g1 hs hl ow ar o0 B0 hgq hV
    by_cases hcn : c < n
    · have HC2 := hid hcn
      have hcI : (c : Int) < n := by omega
      have hcB : (c : Int) ≤ 65536 := by have := HN.out; omega
      obtain ⟨b0, o0, rfl⟩ := HF.out.some0 (show 0 < n by omega)
      obtain ⟨x, hx⟩ : ∃ x, f c = x := ⟨_, rfl⟩
      have at0 := HF.out.at0 hcn
      rw [hx] at at0
      have XE := hid hx
      have xc : wr.cell? ⟨b0, o0 + c, none⟩ = some (.int .i64 x) := (Below.cell AR.out at0.2.1).trans at0.2.2
      have x1 := at0.1.1
      have x2 := at0.1.2
      clear at0 hx hcn hc
      have q0 : 0 ≤ x := by rw [← XE.out]; exact HG.out.1 c HC2.out
      have q1 : s + x ≤ W := by
        have m := sumN_mono HG.out.1 (m := c + 1) (by have := HC2.out; omega)
        have e : sumN f (c + 1) = s + x := by show sumN f c + f c = _; rw [SE.out, XE.out]
        have := HG.out.2
        omega
      have d2 : decide (x < 0) = false := decide_eq_false (by omega)
      have d3 : decide (W - s < x) = false := decide_eq_false (by omega)
      obtain ⟨y, hy⟩ : ∃ y, Sh.part h (s + x) W = y := ⟨_, rfl⟩
      have YE := hid hy
      have yb := part_in h (s + x) W
      rw [hy] at yb
      have PC := hid (RP.out (s + x) W wr (by unfold W64; omega) (by unfold W64; have := HW.out; omega))
      rw [hy] at PC
      clear hy
      have sum1 : Hid (sumN f (c + 1) = s + x) := by show _ = _; show sumN f c + f c = _; rw [SE.out, XE.out]
      have tk1 : Hid (tkA h W f c = y - l) := by show _ = _; unfold tkA; rw [sum1.out, SE.out, YE.out, LE.out]
      go_wp2_with fail
      refine PC.out.mono ?_
      rintro e9 wq ⟨rfl, hwq⟩
      have hwq2 := hwq.symm
      subst hwq2
      have N1 : Hid (∀ j u, (([y - l] : List Int).map (Value.int .i64))[j]? = some u → (wr.alloc (.cells #[.int .i64 (y - l)] 2)).cell? ((⟨wr.heap.size, 0, none⟩ : Addr).add j) = some u) := World.news_of_block (cs := #[.int .i64 (y - l)]) (t := 2) (heap_alloc_new wr _)
      have O2 := hid (Own.alloc OX.out (.cells #[.int .i64 (y - l)] 2))
      have LS : Hid (w.heap.size ≤ (wr.alloc (.cells #[.int .i64 (y - l)] 2)).heap.size) := Nat.le_trans AR.out.size (by simp)
      have LN : Hid (((List.range c).map (tkA h W f)).length = c) := by show _ = _; simp
      go_wp2_with (first
        | (at_builtin; refine wpList_app rfl (.tmp 51) (.tmp 55) rfl w.heap.size _ _ rfl O2.out ⟨wr.heap.size, 0, none⟩ 1 1 [y - l] rfl rfl N1.out (by decide) (by have := LN.out; have := HC2.out; have := HN.out; omega) LS.out (c + 1) (by rw [LN.out]) ?_; intro g1 c1 w2 o1 x1 _ _; have O1 := hid o1; have X1 := hid x1; clear o1 x1))
      refine ⟨⟨c + 1, by have := HC2.out; omega, by simp, by rw [sum1.out], by rw [sum1.out, YE.out], fun i hi => ?_, by rw [sum1.out]; omega, ?_, ?_⟩, by have := HC2.out; simp [intOf]; omega⟩
      · by_cases l : i < c
        · exact G1.out i l
        · obtain rfl : i = c := by omega
          rw [XE.out]; omega
      · rw [List.range_succ, List.map_append]
        have h9 := O1.out
        simp only [List.map_cons, List.map_nil, tk1.out]
        exact h9
      · exact Below.grown (Ab.trans AR.out (bl1 wr _) : Below _ _ _) X1.out LS.out (fun k hk => (World.ownsRow.lt OX.out k hk).1)
    · have e6 : n = c := by omega
      subst e6
      go_wp2
      go_ret2
      exact ⟨_, rfl, AR.out, OX.out⟩
/-- the reference's Takes -/
theorem rtakes_at (W h : Int) (p : Option Addr) (n cp : Nat) (f : Nat → Int) (w : World) (hW : W64 W) (hh : W64 h) (hn : n ≤ 65536) (hf : IsI w p n f) :
    (good17 W h n f → Calls Try.prog 7 #[.int .i64 W, .int .i64 h, .slice p n cp] w fun e w' => ∃ v, e = .returned (.tuple #[v, .int .i64 0]) ∧ Below w.heap.size w w' ∧ Own w.heap.size v (tkL W h n f) w') ∧
    (¬ good17 W h n f → Calls Try.prog 7 #[.int .i64 W, .int .i64 h, .slice p n cp] w fun e w' => e = .returned (.tuple #[.slice none 0 0, .int .i64 1]) ∧ Below w.heap.size w w') := by
  refine ⟨fun g => rtk_go W h p n cp f w g.1 g.2.1 hW.2 hh.2 hn hf g.2.2, fun g => ?_⟩
  by_cases c1 : W < 0
  · exact rtk_neg1 W h p n cp w c1
  · by_cases c2 : h < 0
    · exact rtk_neg2 W h p n cp w (by omega) c2
    · exact rtk_no W h p n cp f w (by omega) (by omega) hW.2 hh.2 hn hf (fun o => g ⟨by omega, by omega, o⟩)
end Tr
end Go.Proofs.Ytehadalddjbclaa
