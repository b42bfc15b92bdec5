/-
  Some of the texts of this proof, one behind the other.
-/
import Derived.Deep.QuietTactic
import Derived.StillTail
import Derived.Test.YtidmgnllphnbbaaGreatDoorZ11
namespace Go.Proofs.YtidmgnllphnbbaaGreatDoor
open Go.RowKit Go.Deep Cu
namespace Tr
open Sh
/-- what Flows is to answer -/
def FlowsC : Prop := ∀ (n gb : Nat) (pw : Option Addr) (lw cw : Nat) (W : Nat → Int) (ph : Option Addr) (lh ch : Nat) (H : Nat → Int) (pf : Option Addr) (lf cf : Nat) (F : Nat → Int) (w : World), (1 ≤ n ∧ n ≤ 32) → GridOf n gb w → lw ≤ 65536 → lh ≤ 65536 → lf ≤ 65536 → IsI w pw lw W → IsI w ph lh H → IsI w pf lf F →
    (fits17 n lw W lh H lf F → Calls Tryz.prog 6 #[.pointer (some ⟨gb, 0, none⟩), .slice pw lw cw, .slice ph lh ch, .slice pf lf cf] w fun e w' => ∃ v, e = .returned (.tuple #[v, .int .i64 0]) ∧ Below w.heap.size w w' ∧ Own w.heap.size v ((List.range (12 * n * n)).map (flF n W H F)) w') ∧
    (¬ fits17 n lw W lh H lf F → Calls Tryz.prog 6 #[.pointer (some ⟨gb, 0, none⟩), .slice pw lw cw, .slice ph lh ch, .slice pf lf cf] w fun e w' => e = .returned (.tuple #[.slice none 0 0, .int .i64 1]) ∧ Below w.heap.size w w')
/-- what Flows of no net is to answer -/
def FlowsN : Prop := ∀ (pw : Option Addr) (lw cw : Nat) (ph : Option Addr) (lh ch : Nat) (pf : Option Addr) (lf cf : Nat) (w : World), Calls Tryz.prog 6 #[.pointer none, .slice pw lw cw, .slice ph lh ch, .slice pf lf cf] w fun e w' => e = .returned (.tuple #[.slice none 0 0, .int .i64 2]) ∧ Below w.heap.size w w'
theorem own_fl {n B : Nat} {W H F : Nat → Int} {v : Value} {w : World} (hn : 1 ≤ n) (hH : ∀ c, c < 6 * n * n → 0 ≤ H c ∧ H c ≤ 9223372036854775807) (o : ∀ c, c < 6 * n * n → oS n F c ≤ W c) (h : Own B v ((List.range (12 * n * n)).map (flF n W H F)) w) : ∃ a0 cap, v = .slice a0 (12 * n * n) cap ∧ IsI w a0 (12 * n * n) (flF n W H F) := by
  obtain ⟨a0, cap, e, i⟩ := own_in h (fun x hx => by
    obtain ⟨j, hj, rfl⟩ := List.mem_map.1 hx
    have c := flF_in hn (List.mem_range.1 hj) hH o
    unfold Sh.W64
    omega)
  rw [List.length_map, List.length_range] at e i
  exact ⟨a0, cap, e, i.congr (fun k hk => by simp [List.getD, hk])⟩
end Tr
end Go.Proofs.YtidmgnllphnbbaaGreatDoor

namespace Go.Proofs.YtidmgnllphnbbaaGreatDoor
open Go.RowKit Go.Deep
namespace Tr
open Sh
set_option maxRecDepth 100000 in
set_option maxHeartbeats 16000000 in
theorem rtk_neg1 (W h : Int) (p : Option Addr) (n cp : Nat) (w : World) (hW : W < 0) :
    Calls Tryz.prog 17 #[.int .i64 W, .int .i64 h, .slice p n cp] w fun e w' => e = .returned (.tuple #[.slice none 0 0, .int .i64 1]) ∧ Below w.heap.size w w' := by
  have d0 : decide (W < 0) = true := decide_eq_true hW
  go_enter Tryz.func17, Tryz.ntmps17
  go_wp2
  go_ret2
  exact ⟨rfl, Below.refl _ _⟩
set_option maxRecDepth 100000 in
set_option maxHeartbeats 16000000 in
theorem rtk_neg2 (W h : Int) (p : Option Addr) (n cp : Nat) (w : World) (hW : 0 ≤ W) (hh : h < 0) :
    Calls Tryz.prog 17 #[.int .i64 W, .int .i64 h, .slice p n cp] w fun e w' => e = .returned (.tuple #[.slice none 0 0, .int .i64 1]) ∧ Below w.heap.size w w' := by
  have d0 : decide (W < 0) = false := decide_eq_false (by omega)
  have d1 : decide (h < 0) = true := decide_eq_true hh
  go_enter Tryz.func17, Tryz.ntmps17
  go_wp2
  go_ret2
  exact ⟨rfl, Below.refl _ _⟩
set_option maxRecDepth 100000 in
set_option maxHeartbeats 16000000 in
theorem rtk_no (W h : Int) (p : Option Addr) (n cp : Nat) (f : Nat → Int) (w : World) (hW : 0 ≤ W) (hh : 0 ≤ h) (hW2 : W ≤ 9223372036854775807) (hh2 : h ≤ 9223372036854775807) (hn : n ≤ 65536) (hf : IsI w p n f) (HG : Hid (¬ okA W f n)) :
    Calls Tryz.prog 17 #[.int .i64 W, .int .i64 h, .slice p n cp] w fun e w' => e = .returned (.tuple #[.slice none 0 0, .int .i64 1]) ∧ Below w.heap.size w w' := by
  have HF := hid hf
  have HN := hid hn
  have HH := hid (And.intro hh hh2)
  have HW := hid (And.intro hW hW2)
  clear hf hn
  have d0 : decide (W < 0) = false := decide_eq_false (by omega)
  have d1 : decide (h < 0) = false := decide_eq_false (by omega)
  have RP : Hid (∀ y z v, Sh.W64 y → Sh.W64 z → Calls Tryz.prog 38 #[.int .i64 h, .int .i64 y, .int .i64 z] v fun e w' => e = .returned (.int .i64 (Sh.part h y z)) ∧ w' = v) := fun y z v hy hz => rpart_at h y z v ⟨by omega, hh2⟩ hy hz
  clear hh hh2
  have o0 := hid (own_new w w.heap.size (Nat.le_refl _))
  have B0 := hid (bl1 w (.cells #[] 2))
  go_enter Tryz.func17, Tryz.ntmps17
  go_upto_region 4 with fail
  generalize hV : World.alloc w _ = V at *
  obtain ⟨gq, hgq⟩ : ∃ g, w.heap.size = g := ⟨_, rfl⟩
  go_wp2
  go_loopw [8, 9, 10, 11] (fun ov sv lv iv wr => ∃ c : Nat, c ≤ n ∧ iv = .int .i64 (c : Nat) ∧ sv = .int .i64 (sumN f c) ∧ lv = .int .i64 (Sh.part h (sumN f c) W) ∧ (∀ i, i < c → 0 ≤ f i) ∧ sumN f c ≤ W ∧ Own w.heap.size ov ((List.range c).map (tkA h W f)) wr ∧ Ab w wr) (fun _ _ _ iv _ => n - (intOf iv).toNat)
  case atStart => exact ⟨0, by omega, rfl, rfl, by show Value.int .i64 0 = .int .i64 (Sh.part h 0 W); rw [part_0], fun i hi => absurd hi (Nat.not_lt_zero i), hW, o0.out, B0.out⟩
  case round =>
    obtain ⟨c, hc, rfl, rfl, rfl, g1, g2, ow, ar⟩ := hrel
    have G1 := hid g1
    have OX := hid ow
    have AR := hid ar
    have s0 := sumN_nn g1
    obtain ⟨s, hs⟩ : ∃ s, sumN f c = s := ⟨_, rfl⟩
    obtain ⟨l, hl⟩ : ∃ l, Sh.part h s W = l := ⟨_, rfl⟩
    have SE := hid hs
    have LE := hid hl
    have lb := part_in h s W
    rw [hl] at lb
    rw [hs] at s0 g2 ⊢
    rw [hl]
    clear g1 hs hl ow ar o0 B0 hgq hV
    by_cases hcn : c < n
    · have HC2 := hid hcn
      have hcI : (c : Int) < n := by omega
      have hcB : (c : Int) ≤ 65536 := by have := HN.out; omega
      obtain ⟨b0, o0, rfl⟩ := HF.out.some0 (show 0 < n by omega)
      obtain ⟨x, hx⟩ : ∃ x, f c = x := ⟨_, rfl⟩
      have at0 := HF.out.at0 hcn
      rw [hx] at at0
      have XE := hid hx
      have xc : wr.cell? ⟨b0, o0 + c, none⟩ = some (.int .i64 x) := (Below.cell AR.out at0.2.1).trans at0.2.2
      have x1 := at0.1.1
      have x2 := at0.1.2
      clear at0 hx hcn hc
      by_cases q0 : x < 0
      · have d2 : decide (x < 0) = true := decide_eq_true q0
        go_wp2
        go_ret2
        exact ⟨rfl, AR.out⟩
      · have d2 : decide (x < 0) = false := decide_eq_false q0
        by_cases q1 : W - s < x
        · have d3 : decide (W - s < x) = true := decide_eq_true q1
          go_wp2
          go_ret2
          exact ⟨rfl, AR.out⟩
        · have d3 : decide (W - s < x) = false := decide_eq_false q1
          obtain ⟨y, hy⟩ : ∃ y, Sh.part h (s + x) W = y := ⟨_, rfl⟩
          have YE := hid hy
          have yb := part_in h (s + x) W
          rw [hy] at yb
          have PC := hid (RP.out (s + x) W wr (by unfold Sh.W64; omega) (by unfold Sh.W64; have := HW.out; omega))
          rw [hy] at PC
          clear hy
          have sum1 : Hid (sumN f (c + 1) = s + x) := by show _ = _; show sumN f c + f c = _; rw [SE.out, XE.out]
          have tk1 : Hid (tkA h W f c = y - l) := by show _ = _; unfold tkA; rw [sum1.out, SE.out, YE.out, LE.out]
          go_wp2_with fail
          refine PC.out.mono ?_
          rintro e9 wq ⟨rfl, hwq⟩
          have hwq2 := hwq.symm
          subst hwq2
          have N1 : Hid (∀ j u, (([y - l] : List Int).map (Value.int .i64))[j]? = some u → (wr.alloc (.cells #[.int .i64 (y - l)] 2)).cell? ((⟨wr.heap.size, 0, none⟩ : Addr).add j) = some u) := World.news_of_block (cs := #[.int .i64 (y - l)]) (t := 2) (heap_alloc_new wr _)
          have O2 := hid (Own.alloc OX.out (.cells #[.int .i64 (y - l)] 2))
          have LS : Hid (w.heap.size ≤ (wr.alloc (.cells #[.int .i64 (y - l)] 2)).heap.size) := Nat.le_trans AR.out.size (by simp)
          have LN : Hid (((List.range c).map (tkA h W f)).length = c) := by show _ = _; simp
          go_wp2_with (first
            | (at_builtin; refine wpList_app rfl (.tmp 51) (.tmp 55) rfl w.heap.size _ _ rfl O2.out ⟨wr.heap.size, 0, none⟩ 1 1 [y - l] rfl rfl N1.out (by decide) (by have := LN.out; have := HC2.out; have := HN.out; omega) LS.out (c + 1) (by rw [LN.out]) ?_; intro g1 c1 w2 o1 x1 _ _; have O1 := hid o1; have X1 := hid x1; clear o1 x1))
          refine ⟨⟨c + 1, by have := HC2.out; omega, by simp, by rw [sum1.out], by rw [sum1.out, YE.out], fun i hi => ?_, by rw [sum1.out]; omega, ?_, ?_⟩, by have := HC2.out; simp [intOf]; omega⟩
          · by_cases l : i < c
            · exact G1.out i l
            · obtain rfl : i = c := by omega
              rw [XE.out]; omega
          · rw [List.range_succ, List.map_append]
            have h9 := O1.out
            simp only [List.map_cons, List.map_nil, tk1.out]
            exact h9
          · exact Below.grown (Ab.trans AR.out (bl1 wr _) : Below _ _ _) X1.out LS.out (fun k hk => (World.ownsRow.lt OX.out k hk).1)
    · have e6 : n = c := by omega
      subst e6
      exact absurd ⟨G1.out, by rw [SE.out]; exact g2⟩ HG.out
set_option maxRecDepth 100000 in
set_option maxHeartbeats 16000000 in
theorem rtk_go (W h : Int) (p : Option Addr) (n cp : Nat) (f : Nat → Int) (w : World) (hW : 0 ≤ W) (hh : 0 ≤ h) (hW2 : W ≤ 9223372036854775807) (hh2 : h ≤ 9223372036854775807) (hn : n ≤ 65536) (hf : IsI w p n f) (HG : Hid (okA W f n)) :
    Calls Tryz.prog 17 #[.int .i64 W, .int .i64 h, .slice p n cp] w fun e w' => ∃ v, e = .returned (.tuple #[v, .int .i64 0]) ∧ Below w.heap.size w w' ∧ Own w.heap.size v (tkL W h n f) w' := by
  have HF := hid hf
  have HN := hid hn
  have HH := hid (And.intro hh hh2)
  have HW := hid (And.intro hW hW2)
  clear hf hn
  have d0 : decide (W < 0) = false := decide_eq_false (by omega)
  have d1 : decide (h < 0) = false := decide_eq_false (by omega)
  have RP : Hid (∀ y z v, Sh.W64 y → Sh.W64 z → Calls Tryz.prog 38 #[.int .i64 h, .int .i64 y, .int .i64 z] v fun e w' => e = .returned (.int .i64 (Sh.part h y z)) ∧ w' = v) := fun y z v hy hz => rpart_at h y z v ⟨by omega, hh2⟩ hy hz
  clear hh hh2
  have o0 := hid (own_new w w.heap.size (Nat.le_refl _))
  have B0 := hid (bl1 w (.cells #[] 2))
  go_enter Tryz.func17, Tryz.ntmps17
  go_upto_region 4 with fail
  generalize hV : World.alloc w _ = V at *
  obtain ⟨gq, hgq⟩ : ∃ g, w.heap.size = g := ⟨_, rfl⟩
  go_wp2
  go_loopw [8, 9, 10, 11] (fun ov sv lv iv wr => ∃ c : Nat, c ≤ n ∧ iv = .int .i64 (c : Nat) ∧ sv = .int .i64 (sumN f c) ∧ lv = .int .i64 (Sh.part h (sumN f c) W) ∧ (∀ i, i < c → 0 ≤ f i) ∧ sumN f c ≤ W ∧ Own w.heap.size ov ((List.range c).map (tkA h W f)) wr ∧ Ab w wr) (fun _ _ _ iv _ => n - (intOf iv).toNat)
  case atStart => exact ⟨0, by omega, rfl, rfl, by show Value.int .i64 0 = .int .i64 (Sh.part h 0 W); rw [part_0], fun i hi => absurd hi (Nat.not_lt_zero i), hW, o0.out, B0.out⟩
  case round =>
    obtain ⟨c, hc, rfl, rfl, rfl, g1, g2, ow, ar⟩ := hrel
    have G1 := hid g1
    have OX := hid ow
    have AR := hid ar
    have s0 := sumN_nn g1
    obtain ⟨s, hs⟩ : ∃ s, sumN f c = s := ⟨_, rfl⟩
    obtain ⟨l, hl⟩ : ∃ l, Sh.part h s W = l := ⟨_, rfl⟩
    have SE := hid hs
    have LE := hid hl
    have lb := part_in h s W
    rw [hl] at lb
    rw [hs] at s0 g2 ⊢
    rw [hl]
    clear g1 hs hl ow ar o0 B0 hgq hV
    by_cases hcn : c < n
    · have HC2 := hid hcn
      have hcI : (c : Int) < n := by omega
      have hcB : (c : Int) ≤ 65536 := by have := HN.out; omega
      obtain ⟨b0, o0, rfl⟩ := HF.out.some0 (show 0 < n by omega)
      obtain ⟨x, hx⟩ : ∃ x, f c = x := ⟨_, rfl⟩
      have at0 := HF.out.at0 hcn
      rw [hx] at at0
      have XE := hid hx
      have xc : wr.cell? ⟨b0, o0 + c, none⟩ = some (.int .i64 x) := (Below.cell AR.out at0.2.1).trans at0.2.2
      have x1 := at0.1.1
      have x2 := at0.1.2
      clear at0 hx hcn hc
      have q0 : 0 ≤ x := by rw [← XE.out]; exact HG.out.1 c HC2.out
      have q1 : s + x ≤ W := by
        have m := sumN_mono HG.out.1 (m := c + 1) (by have := HC2.out; omega)
        have e : sumN f (c + 1) = s + x := by show sumN f c + f c = _; rw [SE.out, XE.out]
        have := HG.out.2
        omega
      have d2 : decide (x < 0) = false := decide_eq_false (by omega)
      have d3 : decide (W - s < x) = false := decide_eq_false (by omega)
      obtain ⟨y, hy⟩ : ∃ y, Sh.part h (s + x) W = y := ⟨_, rfl⟩
      have YE := hid hy
      have yb := part_in h (s + x) W
      rw [hy] at yb
      have PC := hid (RP.out (s + x) W wr (by unfold Sh.W64; omega) (by unfold Sh.W64; have := HW.out; omega))
      rw [hy] at PC
      clear hy
      have sum1 : Hid (sumN f (c + 1) = s + x) := by show _ = _; show sumN f c + f c = _; rw [SE.out, XE.out]
      have tk1 : Hid (tkA h W f c = y - l) := by show _ = _; unfold tkA; rw [sum1.out, SE.out, YE.out, LE.out]
      go_wp2_with fail
      refine PC.out.mono ?_
      rintro e9 wq ⟨rfl, hwq⟩
      have hwq2 := hwq.symm
      subst hwq2
      have N1 : Hid (∀ j u, (([y - l] : List Int).map (Value.int .i64))[j]? = some u → (wr.alloc (.cells #[.int .i64 (y - l)] 2)).cell? ((⟨wr.heap.size, 0, none⟩ : Addr).add j) = some u) := World.news_of_block (cs := #[.int .i64 (y - l)]) (t := 2) (heap_alloc_new wr _)
      have O2 := hid (Own.alloc OX.out (.cells #[.int .i64 (y - l)] 2))
      have LS : Hid (w.heap.size ≤ (wr.alloc (.cells #[.int .i64 (y - l)] 2)).heap.size) := Nat.le_trans AR.out.size (by simp)
      have LN : Hid (((List.range c).map (tkA h W f)).length = c) := by show _ = _; simp
      go_wp2_with (first
        | (at_builtin; refine wpList_app rfl (.tmp 51) (.tmp 55) rfl w.heap.size _ _ rfl O2.out ⟨wr.heap.size, 0, none⟩ 1 1 [y - l] rfl rfl N1.out (by decide) (by have := LN.out; have := HC2.out; have := HN.out; omega) LS.out (c + 1) (by rw [LN.out]) ?_; intro g1 c1 w2 o1 x1 _ _; have O1 := hid o1; have X1 := hid x1; clear o1 x1))
      refine ⟨⟨c + 1, by have := HC2.out; omega, by simp, by rw [sum1.out], by rw [sum1.out, YE.out], fun i hi => ?_, by rw [sum1.out]; omega, ?_, ?_⟩, by have := HC2.out; simp [intOf]; omega⟩
      · by_cases l : i < c
        · exact G1.out i l
        · obtain rfl : i = c := by omega
          rw [XE.out]; omega
      · rw [List.range_succ, List.map_append]
        have h9 := O1.out
        simp only [List.map_cons, List.map_nil, tk1.out]
        exact h9
      · exact Below.grown (Ab.trans AR.out (bl1 wr _) : Below _ _ _) X1.out LS.out (fun k hk => (World.ownsRow.lt OX.out k hk).1)
    · have e6 : n = c := by omega
      subst e6
      go_wp2
      go_ret2
      exact ⟨_, rfl, AR.out, OX.out⟩
/-- the reference's Takes -/
theorem rtakes_at (W h : Int) (p : Option Addr) (n cp : Nat) (f : Nat → Int) (w : World) (hW : Sh.W64 W) (hh : Sh.W64 h) (hn : n ≤ 65536) (hf : IsI w p n f) :
    (good17 W h n f → Calls Tryz.prog 17 #[.int .i64 W, .int .i64 h, .slice p n cp] w fun e w' => ∃ v, e = .returned (.tuple #[v, .int .i64 0]) ∧ Below w.heap.size w w' ∧ Own w.heap.size v (tkL W h n f) w') ∧
    (¬ good17 W h n f → Calls Tryz.prog 17 #[.int .i64 W, .int .i64 h, .slice p n cp] w fun e w' => e = .returned (.tuple #[.slice none 0 0, .int .i64 1]) ∧ Below w.heap.size w w') := by
  refine ⟨fun g => rtk_go W h p n cp f w g.1 g.2.1 hW.2 hh.2 hn hf g.2.2, fun g => ?_⟩
  by_cases c1 : W < 0
  · exact rtk_neg1 W h p n cp w c1
  · by_cases c2 : h < 0
    · exact rtk_neg2 W h p n cp w (by omega) c2
    · exact rtk_no W h p n cp f w (by omega) (by omega) hW.2 hh.2 hn hf (fun o => g ⟨by omega, by omega, o⟩)
end Tr
end Go.Proofs.YtidmgnllphnbbaaGreatDoor

namespace Go.Proofs.YtidmgnllphnbbaaGreatDoor
open Go.RowKit Go.Deep Cu
namespace Sh
theorem row_of {w : World} {b : Nat} {a0 a1 a2 a3 : Value} {T : TypeId} (h : w.heap[b]? = some (.cells #[a0, a1, a2, a3] T)) (f : Nat → Value) (e0 : f 0 = a0) (e1 : f 1 = a1) (e2 : f 2 = a2) (e3 : f 3 = a3) : w.rowIs b T 4 f := ⟨_, h, rfl, fun i hi => by
  match i, hi with
  | 0, _ => simp [e0]
  | 1, _ => simp [e1]
  | 2, _ => simp [e2]
  | 3, _ => simp [e3]⟩
set_option maxRecDepth 100000 in
set_option maxHeartbeats 8000000 in
theorem routs_go (rb M N c fb0 fo cf : Nat) (F O sg : Nat → Int) (E : Nat → Nat) (w : World) (hc : c < M)
    (ARD : Hid (∀ v c s, Ab w v → c < M → s < 4 → Calls Tryz.prog 19 #[.pointer (some ⟨rb, 0, none⟩), .int .i64 (c : Nat), .int .i64 (s : Nat)] v fun e w' => e = .returned (.tuple #[.int .i64 (E (4 * c + s) : Nat), .int .i64 (sg (4 * c + s))]) ∧ Below v.heap.size v w'))
    (TT : Hid (∀ t, t < 4 * M → E t < N ∧ (sg t = 1 ∨ sg t = -1) ∧ O t = if 0 < F (E t) * sg t then F (E t) * sg t else 0))
    (FB : Hid (∀ e, e < N → -4503599627370496 ≤ F e ∧ F e ≤ 4503599627370496))
    (HF : Hid (IsI w (some ⟨fb0, fo, none⟩) N F)) :
    Calls Tryz.prog 18 #[.pointer (some ⟨rb, 0, none⟩), .slice (some ⟨fb0, fo, none⟩) N cf, .int .i64 (c : Nat)] w fun e w' => ∃ b, e = .returned (.slice (some ⟨b, 0, none⟩) 4 4) ∧ Below w.heap.size w w' ∧ w'.rowIs b 2 4 (fun i => .int .i64 (O (4 * c + i))) ∧ w.heap.size ≤ b := by
  have HC := hid hc
  have A0 : Hid (Ab w (w.alloc (.cells #[.int .i64 0, .int .i64 0, .int .i64 0, .int .i64 0] 2))) := bl1 _ _
  have R0 : Hid ((w.alloc (.cells #[.int .i64 0, .int .i64 0, .int .i64 0, .int .i64 0] 2)).rowIs w.heap.size 2 4 (fun s => .int .i64 (if s < 0 then O (4 * c + s) else 0))) := row_of (heap_alloc_new _ _) _ rfl rfl rfl rfl
  clear hc
  go_enter Tryz.func18, Tryz.ntmps18
  go_upto_region 3 with fail
  generalize hV : World.alloc w _ = V at *
  obtain ⟨b, hb⟩ : ∃ b, w.heap.size = b := ⟨_, rfl⟩
  have LB : Hid (w.heap.size ≤ b) := by show _ ≤ _; omega
  rw [hb] at R0
  rw [hb]
  clear hV hb
  go_loopw [8] (fun iv wr => ∃ s : Nat, s ≤ 4 ∧ iv = .int .i64 (s : Nat) ∧ Ab w wr ∧ wr.rowIs b 2 4 (fun i => .int .i64 (if i < s then O (4 * c + i) else 0))) (fun iv _ => 4 - (intOf iv).toNat)
  case atStart => exact ⟨0, by omega, rfl, A0.out, R0.out⟩
  case round =>
    obtain ⟨s, hs, rfl, ar, rx⟩ := hrel
    have AR := hid ar
    have RX := hid rx
    clear ar rx A0 R0
    by_cases hs4 : s < 4
    · have HS := hid hs4
      have hsI : (s : Int) < 4 := by omega
      have AC := hid (ARD.out wr c s AR.out HC.out hs4)
      have tt := TT.out (4 * c + s) (by have := HC.out; omega)
      obtain ⟨t, ht⟩ : ∃ t, 4 * c + s = t := ⟨_, rfl⟩
      have OE : Hid (O (4 * c + s) = O t) := by show _ = _; rw [ht]
      rw [ht] at AC tt
      obtain ⟨te, hte⟩ : ∃ e, E t = e := ⟨_, rfl⟩
      obtain ⟨ts, hts⟩ : ∃ e, sg t = e := ⟨_, rfl⟩
      rw [hte, hts] at AC tt
      obtain ⟨x, hx⟩ : ∃ x, F te = x := ⟨_, rfl⟩
      have fb := FB.out te tt.1
      rw [hx] at fb tt
      have CX : Hid (∀ v, Ab w v → v.cell? ⟨fb0, fo + te, none⟩ = some (.int .i64 x)) := fun v a => by rw [← hx]; exact (Below.cell a (HF.out.at0 tt.1).2.1).trans (HF.out.at0 tt.1).2.2
      have teI : (te : Int) < N := by have := tt.1; omega
      have xb : -4503599627370496 ≤ x * ts ∧ x * ts ≤ 4503599627370496 := by rcases tt.2.1 with h | h <;> rw [h] <;> omega
      have xb1 := xb.1
      have xb2 := xb.2
      have OV := hid tt.2.2
      clear tt ht hte hts hx fb xb hs4
      go_wp2_with fail
      refine AC.out.mono ?_
      rintro e9 v8 ⟨rfl, b8⟩
      have A8 : Hid (Ab w v8) := AR.out.trans b8
      have R8 := hid (row_ab RX.out b8)
      clear b8
      have ya := CX.out _ A8.out
      have oc := R8.out.cell HS.out
      have of := R8.out.frozen s
      have FE : Hid (∀ y, y = O (4 * c + s) → ∀ j, (if j = s then Value.int .i64 y else Value.int .i64 (if j < s then O (4 * c + j) else 0)) = .int .i64 (if j < s + 1 then O (4 * c + j) else 0)) := fun y hy j => by
        by_cases e : j = s
        · subst e; simp [hy]
        · by_cases l : j < s
          · simp [e, l, show j < s + 1 by omega]
          · simp [e, l, show ¬ j < s + 1 by omega]
      by_cases p : 0 < x * ts
      · have d1 : decide (0 < x * ts) = true := decide_eq_true p
        have HPO := hid p
        clear p
        go_wp2
        exact ⟨⟨s + 1, by have := HS.out; omega, by simp, A8.out.setk LB.out _, (R8.out.set s _).congr (fun j _ => FE.out (x * ts) (by rw [OE.out, OV.out, if_pos HPO.out]) j)⟩, by have := HS.out; simp [intOf]; omega⟩
      · have d1 : decide (0 < x * ts) = false := decide_eq_false p
        have HPO := hid p
        clear p
        go_wp2
        refine ⟨⟨s + 1, by have := HS.out; omega, by simp, A8.out, R8.out.congr (fun j _ => ?_)⟩, by have := HS.out; simp [intOf]; omega⟩
        have h := FE.out 0 (by rw [OE.out, OV.out, if_neg (by have := HPO.out; omega)]) j
        rw [← h]
        by_cases e : j = s <;> simp [e]
    · obtain rfl : s = 4 := by omega
      go_wp2
      go_ret
      exact ⟨b, rfl, AR.out, RX.out.congr (fun i hi => by simp [hi]), LB.out⟩
set_option maxRecDepth 100000 in
set_option maxHeartbeats 8000000 in
theorem rfits_len (rb M N lw cw lf cf : Nat) (pw pf : Option Addr) (w : World)
    (CC : Hid (∀ v, Ab w v → Calls Tryz.prog 36 #[.pointer (some ⟨rb, 0, none⟩)] v fun e w' => e = .returned (.int .i64 (M : Nat)) ∧ w' = v)) (CE : Hid (∀ v, Ab w v → Calls Tryz.prog 37 #[.pointer (some ⟨rb, 0, none⟩)] v fun e w' => e = .returned (.int .i64 (N : Nat)) ∧ w' = v))
    (hq : ((lw : Int) != (M : Int)) = true ∨ (((lw : Int) != (M : Int)) = false ∧ ((lf : Int) != (N : Int)) = true)) :
    Calls Tryz.prog 16 #[.pointer (some ⟨rb, 0, none⟩), .slice pw lw cw, .slice pf lf cf] w fun e w' => e = .returned (.bool false) ∧ w' = w := by
  rcases hq with q1 | ⟨q1, q2⟩
  · go_enter Tryz.func16, Tryz.ntmps16
    go_wp2_with fail
    refine (CC.out _ (Ab.refl w)).mono ?_
    rintro e9 v1 ⟨rfl, hv⟩
    have hv2 := hv.symm
    subst hv2
    go_wp2
    go_ret
    exact ⟨rfl, by first | trivial | rfl⟩
  · go_enter Tryz.func16, Tryz.ntmps16
    go_wp2_with fail
    refine (CC.out _ (Ab.refl w)).mono ?_
    rintro e9 v1 ⟨rfl, hv⟩
    have hv2 := hv.symm
    subst hv2
    go_wp2_with fail
    refine (CE.out _ (Ab.refl w)).mono ?_
    rintro e9 v2 ⟨rfl, hv⟩
    have hv2 := hv.symm
    subst hv2
    go_wp2
    go_ret
    exact ⟨rfl, by first | trivial | rfl⟩
set_option maxRecDepth 100000 in
set_option maxHeartbeats 8000000 in
theorem rfits_yes (rb M N cw cf : Nat) (pw pf : Option Addr) (W F : Nat → Int) (w : World) (HL : Hid (M ≤ 65536 ∧ N ≤ 65536)) (HW : Hid (IsI w pw M W)) (HF : Hid (IsI w pf N F))
    (CC : Hid (∀ v, Ab w v → Calls Tryz.prog 36 #[.pointer (some ⟨rb, 0, none⟩)] v fun e w' => e = .returned (.int .i64 (M : Nat)) ∧ w' = v)) (CE : Hid (∀ v, Ab w v → Calls Tryz.prog 37 #[.pointer (some ⟨rb, 0, none⟩)] v fun e w' => e = .returned (.int .i64 (N : Nat)) ∧ w' = v))
    (HG : Hid ((∀ i, i < M → 0 ≤ W i) ∧ (∀ i, i < N → -4503599627370496 ≤ F i ∧ F i ≤ 4503599627370496))) :
    Calls Tryz.prog 16 #[.pointer (some ⟨rb, 0, none⟩), .slice pw M cw, .slice pf N cf] w fun e w' => e = .returned (.bool true) ∧ w' = w := by
  have mm : ((M : Int) != (M : Int)) = false := by simp
  have nn : ((N : Int) != (N : Int)) = false := by simp
  go_enter Tryz.func16, Tryz.ntmps16
  go_wp2_with fail
  refine (CC.out _ (Ab.refl w)).mono ?_
  rintro e9 v1 ⟨rfl, hv⟩
  have hv2 := hv.symm
  subst hv2
  go_wp2_with fail
  refine (CE.out _ (Ab.refl w)).mono ?_
  rintro e9 v2 ⟨rfl, hv⟩
  have hv2 := hv.symm
  subst hv2
  go_wp2
  go_loopw [7] (fun iv wr => ∃ c : Nat, c ≤ M ∧ iv = .int .i64 (c : Nat) ∧ (∀ i, i < c → 0 ≤ W i) ∧ wr = w) (fun iv _ => M - (intOf iv).toNat)
  case atStart => exact ⟨0, by omega, rfl, fun i hi => absurd hi (Nat.not_lt_zero i), rfl⟩
  case round =>
    obtain ⟨c, hc, rfl, g1, hwr⟩ := hrel
    have hwr2 := hwr.symm
    subst hwr2
    have G1 := hid g1
    clear g1
    by_cases hcM : c < M
    · have HC := hid hcM
      have hcI : (c : Int) < M := by omega
      have hcB : (c : Int) ≤ 65536 := by have := HL.out; omega
      obtain ⟨b0, o0, rfl⟩ := HW.out.some0 (show 0 < M by omega)
      obtain ⟨x, hx⟩ : ∃ x, W c = x := ⟨_, rfl⟩
      have xc := (HW.out.at0 hcM).2.2
      rw [hx] at xc
      have XE := hid hx
      clear hx hcM
      have q0 : 0 ≤ x := by rw [← XE.out]; exact HG.out.1 c HC.out
      have d1 : decide (x < 0) = false := decide_eq_false (by omega)
      go_wp2
      exact ⟨⟨c + 1, by have := HC.out; omega, by simp, fun i hi => by
        by_cases l : i < c
        · exact G1.out i l
        · obtain rfl : i = c := by omega
          rw [XE.out]; omega, by first | trivial | rfl⟩, by have := HC.out; simp [intOf]; omega⟩
    · obtain rfl : c = M := by omega
      go_wp2
      go_loopw [8] (fun iv wr => ∃ c : Nat, c ≤ N ∧ iv = .int .i64 (c : Nat) ∧ (∀ i, i < c → -4503599627370496 ≤ F i ∧ F i ≤ 4503599627370496) ∧ wr = w) (fun iv _ => N - (intOf iv).toNat)
      case atStart => exact ⟨0, by omega, rfl, fun i hi => absurd hi (Nat.not_lt_zero i), rfl⟩
      case round =>
        obtain ⟨c, hc, rfl, g1, hwr⟩ := hrel
        have hwr2 := hwr.symm
        subst hwr2
        have G2 := hid g1
        clear g1
        by_cases hcN : c < N
        · have HC := hid hcN
          have hcI : (c : Int) < N := by omega
          have hcB : (c : Int) ≤ 65536 := by have := HL.out; omega
          obtain ⟨b1, o1, rfl⟩ := HF.out.some0 (show 0 < N by omega)
          obtain ⟨x, hx⟩ : ∃ x, F c = x := ⟨_, rfl⟩
          have xc := (HF.out.at0 hcN).2.2
          rw [hx] at xc
          have XE := hid hx
          clear hx hcN
          have q0 : -4503599627370496 ≤ x ∧ x ≤ 4503599627370496 := by rw [← XE.out]; exact HG.out.2 c HC.out
          have d1 : decide (x < -4503599627370496) = false := decide_eq_false (by omega)
          have d2 : decide (4503599627370496 < x) = false := decide_eq_false (by omega)
          go_wp2
          exact ⟨⟨c + 1, by have := HC.out; omega, by simp, fun i hi => by
            by_cases l : i < c
            · exact G2.out i l
            · obtain rfl : i = c := by omega
              rw [XE.out]; exact ⟨by omega, by omega⟩, by first | trivial | rfl⟩, by have := HC.out; simp [intOf]; omega⟩
        · obtain rfl : c = N := by omega
          go_wp2
          go_ret
          exact ⟨rfl, by first | trivial | rfl⟩
set_option maxRecDepth 100000 in
set_option maxHeartbeats 8000000 in
theorem rfits_no (rb M N cw cf : Nat) (pw pf : Option Addr) (W F : Nat → Int) (w : World) (HL : Hid (M ≤ 65536 ∧ N ≤ 65536)) (HW : Hid (IsI w pw M W)) (HF : Hid (IsI w pf N F))
    (CC : Hid (∀ v, Ab w v → Calls Tryz.prog 36 #[.pointer (some ⟨rb, 0, none⟩)] v fun e w' => e = .returned (.int .i64 (M : Nat)) ∧ w' = v)) (CE : Hid (∀ v, Ab w v → Calls Tryz.prog 37 #[.pointer (some ⟨rb, 0, none⟩)] v fun e w' => e = .returned (.int .i64 (N : Nat)) ∧ w' = v))
    (HG : Hid (¬ ((∀ i, i < M → 0 ≤ W i) ∧ (∀ i, i < N → -4503599627370496 ≤ F i ∧ F i ≤ 4503599627370496)))) :
    Calls Tryz.prog 16 #[.pointer (some ⟨rb, 0, none⟩), .slice pw M cw, .slice pf N cf] w fun e w' => e = .returned (.bool false) ∧ w' = w := by
  have mm : ((M : Int) != (M : Int)) = false := by simp
  have nn : ((N : Int) != (N : Int)) = false := by simp
  go_enter Tryz.func16, Tryz.ntmps16
  go_wp2_with fail
  refine (CC.out _ (Ab.refl w)).mono ?_
  rintro e9 v1 ⟨rfl, hv⟩
  have hv2 := hv.symm
  subst hv2
  go_wp2_with fail
  refine (CE.out _ (Ab.refl w)).mono ?_
  rintro e9 v2 ⟨rfl, hv⟩
  have hv2 := hv.symm
  subst hv2
  go_wp2
  go_loopw [7] (fun iv wr => ∃ c : Nat, c ≤ M ∧ iv = .int .i64 (c : Nat) ∧ (∀ i, i < c → 0 ≤ W i) ∧ wr = w) (fun iv _ => M - (intOf iv).toNat)
  case atStart => exact ⟨0, by omega, rfl, fun i hi => absurd hi (Nat.not_lt_zero i), rfl⟩
  case round =>
    obtain ⟨c, hc, rfl, g1, hwr⟩ := hrel
    have hwr2 := hwr.symm
    subst hwr2
    have G1 := hid g1
    clear g1
    by_cases hcM : c < M
    · have HC := hid hcM
      have hcI : (c : Int) < M := by omega
      have hcB : (c : Int) ≤ 65536 := by have := HL.out; omega
      obtain ⟨b0, o0, rfl⟩ := HW.out.some0 (show 0 < M by omega)
      obtain ⟨x, hx⟩ : ∃ x, W c = x := ⟨_, rfl⟩
      have xc := (HW.out.at0 hcM).2.2
      rw [hx] at xc
      have XE := hid hx
      clear hx hcM
      by_cases q0 : x < 0
      · have d1 : decide (x < 0) = true := decide_eq_true q0
        go_wp2
        go_ret
        exact ⟨rfl, by first | trivial | rfl⟩
      · have d1 : decide (x < 0) = false := decide_eq_false q0
        go_wp2
        exact ⟨⟨c + 1, by have := HC.out; omega, by simp, fun i hi => by
          by_cases l : i < c
          · exact G1.out i l
          · obtain rfl : i = c := by omega
            rw [XE.out]; omega, by first | trivial | rfl⟩, by have := HC.out; simp [intOf]; omega⟩
    · obtain rfl : c = M := by omega
      go_wp2
      go_loopw [8] (fun iv wr => ∃ c : Nat, c ≤ N ∧ iv = .int .i64 (c : Nat) ∧ (∀ i, i < c → -4503599627370496 ≤ F i ∧ F i ≤ 4503599627370496) ∧ wr = w) (fun iv _ => N - (intOf iv).toNat)
      case atStart => exact ⟨0, by omega, rfl, fun i hi => absurd hi (Nat.not_lt_zero i), rfl⟩
      case round =>
        obtain ⟨c, hc, rfl, g1, hwr⟩ := hrel
        have hwr2 := hwr.symm
        subst hwr2
        have G2 := hid g1
        clear g1
        by_cases hcN : c < N
        · have HC := hid hcN
          have hcI : (c : Int) < N := by omega
          have hcB : (c : Int) ≤ 65536 := by have := HL.out; omega
          obtain ⟨b1, o1, rfl⟩ := HF.out.some0 (show 0 < N by omega)
          obtain ⟨x, hx⟩ : ∃ x, F c = x := ⟨_, rfl⟩
          have xc := (HF.out.at0 hcN).2.2
          rw [hx] at xc
          have XE := hid hx
          clear hx hcN
          by_cases q0 : x < -4503599627370496
          · have d1 : decide (x < -4503599627370496) = true := decide_eq_true q0
            go_wp2
            go_ret
            exact ⟨rfl, by first | trivial | rfl⟩
          · have d1 : decide (x < -4503599627370496) = false := decide_eq_false q0
            by_cases q2 : 4503599627370496 < x
            · have d2 : decide (4503599627370496 < x) = true := decide_eq_true q2
              go_wp2
              go_ret
              exact ⟨rfl, by first | trivial | rfl⟩
            · have d2 : decide (4503599627370496 < x) = false := decide_eq_false q2
              go_wp2
              exact ⟨⟨c + 1, by have := HC.out; omega, by simp, fun i hi => by
                by_cases l : i < c
                · exact G2.out i l
                · obtain rfl : i = c := by omega
                  rw [XE.out]; exact ⟨by omega, by omega⟩, by first | trivial | rfl⟩, by have := HC.out; simp [intOf]; omega⟩
        · obtain rfl : c = N := by omega
          exact absurd ⟨G1.out, G2.out⟩ HG.out
end Sh
end Go.Proofs.YtidmgnllphnbbaaGreatDoor

namespace Go.Proofs.YtidmgnllphnbbaaGreatDoor
open Go.RowKit Go.Deep Cu
namespace Tr
open Sh
set_option maxRecDepth 100000 in
set_option maxHeartbeats 16000000 in
theorem rfl_nil (pw ph pf : Option Addr) (lw cw lh ch lf cf : Nat) (w : World) :
    Calls Tryz.prog 7 #[.pointer none, .slice pw lw cw, .slice ph lh ch, .slice pf lf cf] w fun e w' => e = .returned (.tuple #[.slice none 0 0, .int .i64 2]) ∧ w' = w := by
  go_enter Tryz.func7, Tryz.ntmps7
  go_wp2
  go_ret2
  exact ⟨rfl, rfl⟩
set_option maxRecDepth 100000 in
set_option maxHeartbeats 16000000 in
theorem rfl_no (rb : Nat) (pw ph pf : Option Addr) (lw cw lh ch lf cf : Nat) (q : Bool) (w : World) (hq : q = false ∨ (q = true ∧ ((lh : Int) != (lw : Int)) = true))
    (FT : Hid (Calls Tryz.prog 16 #[.pointer (some ⟨rb, 0, none⟩), .slice pw lw cw, .slice pf lf cf] w fun e w' => e = .returned (.bool q) ∧ w' = w)) :
    Calls Tryz.prog 7 #[.pointer (some ⟨rb, 0, none⟩), .slice pw lw cw, .slice ph lh ch, .slice pf lf cf] w fun e w' => e = .returned (.tuple #[.slice none 0 0, .int .i64 1]) ∧ w' = w := by
  go_enter Tryz.func7, Tryz.ntmps7
  go_wp2_with fail
  refine FT.out.mono ?_
  rintro e9 v1 ⟨rfl, hv⟩
  have hv2 := hv.symm
  subst hv2
  rcases hq with rfl | ⟨rfl, q2⟩
  · go_wp2
    go_ret2
    exact ⟨rfl, by first | trivial | rfl⟩
  · go_wp2
    go_ret2
    exact ⟨rfl, by first | trivial | rfl⟩
set_option maxRecDepth 100000 in
set_option maxHeartbeats 16000000 in
theorem rfl_go (rb M N fb0 fo cf wb wo cw hb ho ch : Nat) (W Hs O T D sg : Nat → Int) (P : Nat → Nat → Int) (E : Nat → Nat) (G : Nat → Prop) (w : World) (hl : M ≤ 65536 ∧ N ≤ 65536)
    (ARD : Hid (∀ v c s, Ab w v → c < M → s < 4 → Calls Tryz.prog 19 #[.pointer (some ⟨rb, 0, none⟩), .int .i64 (c : Nat), .int .i64 (s : Nat)] v fun e w' => e = .returned (.tuple #[.int .i64 (E (4 * c + s) : Nat), .int .i64 (sg (4 * c + s))]) ∧ Below v.heap.size v w'))
    (TT : Hid (∀ t, t < 4 * M → E t < N ∧ (sg t = 1 ∨ sg t = -1)))
    (TB : Hid (∀ t, t < 4 * M → G (t / 4) → 0 ≤ T t ∧ T t ≤ 9223372036854775807))
    (PZ : Hid (∀ e, e < N → P (4 * 0) e = 0)) (PS : Hid ((∀ c, c < M → G c) → ∀ t, t < 4 * M → ∀ e, e < N → P (t + 1) e = if e = E t ∧ 0 < T t then T t * sg t else P t e)) (PE : Hid (∀ e, e < N → P (4 * M) e = D e))
    (HW : Hid (IsI w (some ⟨wb, wo, none⟩) M W)) (HH : Hid (IsI w (some ⟨hb, ho, none⟩) M Hs))
    (FT : Hid (Calls Tryz.prog 16 #[.pointer (some ⟨rb, 0, none⟩), .slice (some ⟨wb, wo, none⟩) M cw, .slice (some ⟨fb0, fo, none⟩) N cf] w fun e w' => e = .returned (.bool true) ∧ w' = w))
    (OU : Hid (∀ v c, Ab w v → c < M → Calls Tryz.prog 18 #[.pointer (some ⟨rb, 0, none⟩), .slice (some ⟨fb0, fo, none⟩) N cf, .int .i64 (c : Nat)] v fun e w' => ∃ b, e = .returned (.slice (some ⟨b, 0, none⟩) 4 4) ∧ Below v.heap.size v w' ∧ w'.rowIs b 2 4 (fun i => .int .i64 (O (4 * c + i))) ∧ v.heap.size ≤ b))
    (CT : Hid (∀ v c bo, Ab w v → c < M → G c → v.rowIs bo 2 4 (fun i => .int .i64 (O (4 * c + i))) → Calls Tryz.prog 17 #[.int .i64 (W c), .int .i64 (Hs c), .slice (some ⟨bo, 0, none⟩) 4 4] v fun e w' => ∃ l, e = .returned (.tuple #[l, .int .i64 0]) ∧ Below v.heap.size v w' ∧ ∃ kb kc, l = .slice (some ⟨kb, 0, none⟩) 4 kc ∧ v.heap.size ≤ kb ∧ IsI w' (some ⟨kb, 0, none⟩) 4 (fun i => T (4 * c + i))))
    (CN : Hid (∀ v c bo, Ab w v → c < M → ¬ G c → v.rowIs bo 2 4 (fun i => .int .i64 (O (4 * c + i))) → Calls Tryz.prog 17 #[.int .i64 (W c), .int .i64 (Hs c), .slice (some ⟨bo, 0, none⟩) 4 4] v fun e w' => e = .returned (.tuple #[.slice none 0 0, .int .i64 1]) ∧ Below v.heap.size v w')) :
    Calls Tryz.prog 7 #[.pointer (some ⟨rb, 0, none⟩), .slice (some ⟨wb, wo, none⟩) M cw, .slice (some ⟨hb, ho, none⟩) M ch, .slice (some ⟨fb0, fo, none⟩) N cf] w fun e w' => ((∀ c, c < M → G c) ∧ ∃ b, e = .returned (.tuple #[.slice (some ⟨b, 0, none⟩) N N, .int .i64 0]) ∧ Below w.heap.size w w' ∧ w'.rowIs b 2 N (fun e => .int .i64 (D e)) ∧ w.heap.size ≤ b) ∨ (¬ (∀ c, c < M → G c) ∧ e = .returned (.tuple #[.slice none 0 0, .int .i64 1]) ∧ Below w.heap.size w w') := by
  have M1 : ∀ v : World, (Instr.makeSlice 22 (.int .i64 (N : Nat)) (.int .i64 (N : Nat))).run Tryz.prog v = .ok (.slice (some ⟨v.heap.size, 0, none⟩) N N) (v.alloc (Obj.cells (madeCells #[.int .i64 0] N) 2)) := fun v =>
    run_make_row' (P := Tryz.prog) 22 2 (.int .i64 0) 8 Tryz.underlying22 Sh.info64 rfl .i64 .i64 N (by omega) (by omega) v
  have HL := hid hl
  have A0 : Hid (Ab w (w.alloc (Obj.cells (madeCells #[.int .i64 0] N) 2))) := bl1 _ _
  have R0 : Hid ((w.alloc (Obj.cells (madeCells #[.int .i64 0] N) 2)).rowIs w.heap.size 2 N (fun e => .int .i64 (P (4 * 0) e))) := (World.rowIs_made _ _ _ _).congr (fun i hi => by rw [PZ.out i hi])
  have mm : ((M : Int) != (M : Int)) = false := by simp
  clear hl
  go_enter Tryz.func7, Tryz.ntmps7
  go_wp2_with fail
  refine FT.out.mono ?_
  rintro e9 v1 ⟨rfl, hv⟩
  have hv2 := hv.symm
  subst hv2
  go_upto_region 7 with fail
  generalize hV : World.alloc w _ = V at *
  obtain ⟨b, hb⟩ : ∃ b, w.heap.size = b := ⟨_, rfl⟩
  have LB : Hid (w.heap.size ≤ b) := by show _ ≤ _; omega
  rw [hb] at R0
  rw [hb]
  clear hV hb M1
  go_wp2
  go_loopw [12] (fun iv wr => ∃ c : Nat, c ≤ M ∧ iv = .int .i64 (c : Nat) ∧ (∀ d, d < c → G d) ∧ Ab w wr ∧ ∃ X : Nat → Int, wr.rowIs b 2 N (fun e => .int .i64 (X e)) ∧ ((∀ d, d < M → G d) → ∀ e, e < N → X e = P (4 * c) e)) (fun iv _ => M - (intOf iv).toNat)
  case atStart => exact ⟨0, by omega, rfl, fun d hd => absurd hd (Nat.not_lt_zero d), A0.out, _, R0.out, fun _ _ _ => rfl⟩
  case round =>
    obtain ⟨c, hc, rfl, gd, ar, X, rx, ex⟩ := hrel
    have AR := hid ar
    have GD := hid gd
    have EX := hid ex
    have RX := hid rx
    clear ar rx gd ex A0 R0
    by_cases hcM : c < M
    · have HC := hid hcM
      have hcI : (c : Int) < M := by omega
      have hcB : (c : Int) ≤ 65536 := by have := HL.out; omega
      by_cases hG : G c
      · obtain ⟨x, hx⟩ : ∃ x, W c = x := ⟨_, rfl⟩
        obtain ⟨h, hh⟩ : ∃ x, Hs c = x := ⟨_, rfl⟩
        have CW : Hid (∀ v, Ab w v → v.cell? ⟨wb, wo + c, none⟩ = some (.int .i64 x)) := fun v a => by rw [← hx]; exact (Below.cell a (HW.out.at0 HC.out).2.1).trans (HW.out.at0 HC.out).2.2
        have CH : Hid (∀ v, Ab w v → v.cell? ⟨hb, ho + c, none⟩ = some (.int .i64 h)) := fun v a => by rw [← hh]; exact (Below.cell a (HH.out.at0 HC.out).2.1).trans (HH.out.at0 HC.out).2.2
        have OUc := hid (fun v (a : Ab w v) => OU.out v c a HC.out)
        have CTc := hid (fun v bo (a : Ab w v) q => CT.out v c bo a HC.out hG q)
        rw [hx, hh] at CTc
        have HGc := hid hG
        clear hx hh hcM hG
        go_upto_region 10 with fail
        have KS : Hid (∀ w', Ab wr w' → Ab wr w' ∧ w'.cell? ⟨wb, wo + c, none⟩ = some (.int .i64 x) ∧ w'.cell? ⟨hb, ho + c, none⟩ = some (.int .i64 h)) := fun w' q => ⟨q, CW.out _ (AR.out.trans q), CH.out _ (AR.out.trans q)⟩
        have AD0 := Ab.refl wr
        have AD := (Ab.refl wr).drew
        go_region_held3 (fun w' => Ab wr w' ∧ w'.cell? ⟨wb, wo + c, none⟩ = some (.int .i64 x) ∧ w'.cell? ⟨hb, ho + c, none⟩ = some (.int .i64 h)) ((refine KS.out _ ?_; (with_reducible (repeat (first | assumption | apply Ab.drew | apply Ab.alloc))); done)) (first
          | (go_at_call 18; refine (OUc.out _ (AR.out.trans AD)).mono ?_; rintro e9 w3 ⟨bo, rfl, b3, r3, -⟩; have A3 := Ab.call AD b3; have R3 := hid r3; clear b3 r3)
          | (go_at_call 17; refine (CTc.out _ bo (AR.out.trans A3) R3.out).mono ?_; rintro e9 w5 ⟨lk, rfl, b5, i5⟩; have A5 := Ab.call A3 b5; have S3 := hid A3.size; have I5 := hid i5; clear b5 i5))
        obtain ⟨kb, kc, hlk, lkb, ik⟩ := I5.out
        subst hlk
        have KB : Hid (kb ≠ b) := by have h1 := RX.out.lt; have h2 := S3.out; show kb ≠ b; omega
        have IK := hid ik
        have AW5 : Hid (Ab wr w5) := A5
        have R5 := hid (row_ab RX.out A5)
        clear I5 lkb ik R3 A3 A5 S3 AD AD0 KS RX
        go_wp2
        go_loopw [15] (fun iv w6 => ∃ s : Nat, s ≤ 4 ∧ iv = .int .i64 (s : Nat) ∧ Abx w5 b N 2 w6 ∧ ∃ X : Nat → Int, w6.rowIs b 2 N (fun e => .int .i64 (X e)) ∧ ((∀ d, d < M → G d) → ∀ e, e < N → X e = P (4 * c + s) e)) (fun iv _ => 4 - (intOf iv).toNat)
        case atStart =>
          refine ⟨0, by omega, rfl, ?_, _, R5.out, EX.out⟩
          obtain ⟨q, hb, hq, _⟩ := R5.out
          exact (Ab.refl w5).x hq hb
        case round =>
          obtain ⟨s, hs, rfl, ax, Y, rx, ey⟩ := hrel
          have AX := hid ax
          have RX := hid rx
          have EY := hid ey
          clear ax rx ey R5
          have AV : Hid (Ab w wr) := AX.out.ab (AR.out.trans AW5.out) LB.out
          have IK6 := hid (isI_abo IK.out AX.out.1 KB.out)
          by_cases hs4 : s < 4
          · have HS := hid hs4
            have hsI : (s : Int) < 4 := by omega
            have AC := hid (ARD.out wr c s AV.out HC.out hs4)
            have tt := TT.out (4 * c + s) (by have := HC.out; omega)
            have tb := TB.out (4 * c + s) (by have := HC.out; omega) (by rw [show (4 * c + s) / 4 = c by omega]; exact HGc.out)
            have ps := fun ga => PS.out ga (4 * c + s) (by have := HC.out; omega)
            obtain ⟨y, hy⟩ : ∃ y, T (4 * c + s) = y := ⟨_, rfl⟩
            obtain ⟨te, hte⟩ : ∃ e, E (4 * c + s) = e := ⟨_, rfl⟩
            obtain ⟨ts, hts⟩ : ∃ e, sg (4 * c + s) = e := ⟨_, rfl⟩
            rw [hte, hts] at AC tt
            rw [hy] at tb
            simp only [hy, hte, hts] at ps
            have CY : Hid (∀ v, Ab wr v → v.cell? ⟨kb, 0 + s, none⟩ = some (.int .i64 y)) := fun v a => by rw [← hy]; exact (Below.cell a (IK6.out.at0 HS.out).2.1).trans (IK6.out.at0 HS.out).2.2
            have teN := tt.1
            have teI : (te : Int) < N := by omega
            have yb : -9223372036854775807 ≤ y * ts ∧ y * ts ≤ 9223372036854775807 := by rcases tt.2 with h | h <;> rw [h] <;> omega
            have yb1 := yb.1
            have yb2 := yb.2
            have HP := hid ps
            have HT := hid teN
            clear tt tb ps hy hte hts yb hs4 teN
            go_wp2_with fail
            refine AC.out.mono ?_
            rintro e9 v8 ⟨rfl, b8⟩
            have A8 : Hid (Ab wr v8) := b8
            have AX8 := hid (AX.out.call b8)
            have R8 := hid (row_ab RX.out b8)
            clear b8
            have ya := CY.out _ A8.out
            rw [Nat.zero_add] at ya
            have oc := R8.out.cell HT.out
            have of := R8.out.frozen te
            obtain ⟨ov, hov⟩ : ∃ v, Value.int .i64 (Y te) = v := ⟨_, rfl⟩
            rw [hov] at oc
            clear hov
            by_cases p : 0 < y
            · have d1 : decide (0 < y) = true := decide_eq_true p
              have HPO := hid p
              clear p
              go_wp2
              refine ⟨⟨s + 1, by have := HS.out; omega, by simp, AX8.out.set te _, fun j => if j = te then y * ts else Y j, (R8.out.set te _).congr (fun j hj => ?_), fun ga j hj => ?_⟩, by have := HS.out; simp [intOf]; omega⟩
              · dsimp only
                by_cases e : j = te
                · rw [if_pos e, if_pos e]
                · rw [if_neg e, if_neg e]
              · dsimp only
                rw [show 4 * c + (s + 1) = 4 * c + s + 1 by omega, HP.out ga j hj]
                by_cases e : j = te
                · rw [if_pos e, if_pos ⟨e, HPO.out⟩]
                · rw [if_neg e, if_neg (fun h => e h.1)]
                  exact EY.out ga j hj
            · have d1 : decide (0 < y) = false := decide_eq_false p
              have HPO := hid p
              clear p
              go_wp2
              refine ⟨⟨s + 1, by have := HS.out; omega, by simp, AX8.out, Y, R8.out, fun ga j hj => ?_⟩, by have := HS.out; simp [intOf]; omega⟩
              rw [show 4 * c + (s + 1) = 4 * c + s + 1 by omega, HP.out ga j hj, if_neg (fun h => by have h1 := HPO.out; have h2 := h.2; omega)]
              exact EY.out ga j hj
          · obtain rfl : s = 4 := by omega
            go_wp2
            exact ⟨⟨c + 1, by have := HC.out; omega, by simp, fun d hd => by
              by_cases l : d < c
              · exact GD.out d l
              · obtain rfl : d = c := by omega
                exact HGc.out, AV.out, Y, RX.out, EY.out⟩, by have := HC.out; simp [intOf]; omega⟩
      · obtain ⟨x, hx⟩ : ∃ x, W c = x := ⟨_, rfl⟩
        obtain ⟨h, hh⟩ : ∃ x, Hs c = x := ⟨_, rfl⟩
        have CW : Hid (∀ v, Ab w v → v.cell? ⟨wb, wo + c, none⟩ = some (.int .i64 x)) := fun v a => by rw [← hx]; exact (Below.cell a (HW.out.at0 HC.out).2.1).trans (HW.out.at0 HC.out).2.2
        have CH : Hid (∀ v, Ab w v → v.cell? ⟨hb, ho + c, none⟩ = some (.int .i64 h)) := fun v a => by rw [← hh]; exact (Below.cell a (HH.out.at0 HC.out).2.1).trans (HH.out.at0 HC.out).2.2
        have OUc := hid (fun v (a : Ab w v) => OU.out v c a HC.out)
        have CTc := hid (fun v bo (a : Ab w v) q => CN.out v c bo a HC.out hG q)
        rw [hx, hh] at CTc
        have HGc := hid hG
        clear hx hh hcM hG
        go_upto_region 10 with fail
        have KS : Hid (∀ w', Ab wr w' → Ab wr w' ∧ w'.cell? ⟨wb, wo + c, none⟩ = some (.int .i64 x) ∧ w'.cell? ⟨hb, ho + c, none⟩ = some (.int .i64 h)) := fun w' q => ⟨q, CW.out _ (AR.out.trans q), CH.out _ (AR.out.trans q)⟩
        have AD0 := Ab.refl wr
        have AD := (Ab.refl wr).drew
        go_region_held3 (fun w' => Ab wr w' ∧ w'.cell? ⟨wb, wo + c, none⟩ = some (.int .i64 x) ∧ w'.cell? ⟨hb, ho + c, none⟩ = some (.int .i64 h)) ((refine KS.out _ ?_; (with_reducible (repeat (first | assumption | apply Ab.drew | apply Ab.alloc))); done)) (first
          | (go_at_call 18; refine (OUc.out _ (AR.out.trans AD)).mono ?_; rintro e9 w3 ⟨bo, rfl, b3, r3, -⟩; have A3 := Ab.call AD b3; have R3 := hid r3; clear b3 r3)
          | (go_at_call 17; refine (CTc.out _ bo (AR.out.trans A3) R3.out).mono ?_; rintro e9 w5 ⟨rfl, b5⟩; have A5 := Ab.call A3 b5; clear b5))
        have AW5 : Hid (Ab wr w5) := A5
        clear AD AD0 A3 A5 R3 KS
        go_wp2
        go_ret2
        exact .inr ⟨fun ga => HGc.out (ga c HC.out), rfl, AR.out.trans AW5.out⟩
    · have e6 : M = c := by omega
      subst e6
      go_wp2
      go_ret2
      exact .inl ⟨GD.out, b, rfl, AR.out, RX.out.congr (fun i hi => by rw [EX.out GD.out i hi, PE.out i hi]), LB.out⟩
end Tr
end Go.Proofs.YtidmgnllphnbbaaGreatDoor

namespace Go.Proofs.YtidmgnllphnbbaaGreatDoor
open Go.RowKit Go.Deep Cu
namespace Sh
theorem side9 (side : Int) : ∃ n : Nat, n ≤ 8 ∧ wrap64 ((IntKind.u64.wrap side).tmod 9) = (n : Nat) := by
  have w0 : 0 ≤ IntKind.u64.wrap side := by rw [wrapu]; omega
  rw [tmod_e w0]
  unfold wrap64
  exact ⟨(IntKind.u64.wrap side % 9).toNat, by omega, by omega⟩
end Sh
end Go.Proofs.YtidmgnllphnbbaaGreatDoor
