/-
  Takes: walks over the program (layer 17).
-/
import Derived.Test.YtehadalddjbclaaTrB
import Derived.Test.YtehadalddjbclaaYl
namespace Go.Proofs.Ytehadalddjbclaa
open Go.RowKit Go.Deep
namespace Tr
open Sh
/-- a list of the call's own, as a row -/
theorem own_row17 {B : Nat} {v : Value} {l : List Int} {w : World} (h : Own B v l w) (h0 : 0 < l.length) : ∃ g cap F, v = .slice (some ⟨g, 0, none⟩) l.length cap ∧ B ≤ g ∧ l.length ≤ cap ∧ cap ≤ maxLen ∧ w.rowIs g 2 cap F ∧ ∀ i, i < l.length → F i = .int .i64 (l.getD i 0) := by
  rcases h.2 with ⟨rfl, hz⟩ | ⟨g, cap, cur, e, hb, hg, h1, h2, h3, h4⟩
  · omega
  · refine ⟨g, cap, fun i => (cur[i]?).getD (.bool false), e, hb, h1, h2, ⟨cur, hg, by omega, fun i hi => ?_⟩, fun i hi => ?_⟩
    · have : i < cur.size := by omega
      simp [this]
    · have q : (cur.toList.take l.length)[i]? = (l.map (Value.int .i64))[i]? := by
        have h4' : cur.toList.take l.length = l.map (Value.int .i64) := by simpa using h4
        rw [h4']
      rw [List.getElem?_take, if_pos hi, Array.getElem?_toList] at q
      dsimp only
      rw [q]
      simp [hi, List.getD]
theorem own_two17 {B n : Nat} {v : Value} {x : Nat → Int} {w : World} (h : Own B v ((List.range n).map x) w) (h0 : 0 < n) : ∃ g cap F, v = .slice (some ⟨g, 0, none⟩) n cap ∧ B ≤ g ∧ n ≤ cap ∧ cap ≤ maxLen ∧ w.rowIs g 2 cap F ∧ ∀ i, i < n → F i = .int .i64 (x i) := by
  have e : ((List.range n).map x).length = n := by simp
  obtain ⟨g, cap, F, h1, h2, h3, h4, h5, h6⟩ := own_row17 h (by rw [e]; exact h0)
  rw [e] at h1 h3 h6
  exact ⟨g, cap, F, h1, h2, h3, h4, h5, fun i hi => by rw [h6 i hi]; simp [List.getD, hi]⟩
theorem row_own17 {B g cap n : Nat} {F : Nat → Value} {x : Nat → Int} {w : World} (h : w.rowIs g 2 cap F) (hB : B ≤ g) (hn : n ≤ cap) (hc : cap ≤ maxLen) (hF : ∀ i, i < n → F i = .int .i64 (x i)) : Own B (.slice (some ⟨g, 0, none⟩) n cap) ((List.range n).map x) w := by
  obtain ⟨c, hb, hs, hf⟩ := h
  refine ⟨by simp, .inr ⟨g, cap, c, by simp, hB, hb, by simpa using hn, hc, by omega, ?_⟩⟩
  apply List.ext_getElem?
  intro i
  rw [List.getElem?_take, List.length_map, List.length_range]
  by_cases hi : i < n
  · have e := hf i (by omega)
    rw [hF i hi] at e
    rw [if_pos (by omega)]
    rw [← Array.getElem?_toList] at e
    rw [e]
    simp [hi]
  · rw [if_neg (by omega), List.getElem?_eq_none (by simp; omega)]
set_option maxRecDepth 100000 in
set_option maxHeartbeats 4000000 in
theorem takes_neg (W h : Int) (p : Option Addr) (n cp : Nat) (w : World) (c : W < 0 ∨ h < 0) :
    Calls Try.prog 6 #[.int .i64 W, .int .i64 h, .slice p n cp] w fun e w' => e = .returned (.tuple #[.slice none 0 0, .int .i64 1]) ∧ w' = w := by
  by_cases c1 : W < 0
  · have d1 : decide (W < 0) = true := decide_eq_true c1
    clear c
    go_enter Try.func6, Try.ntmps6
    go_wp2
    go_ret2
    exact ⟨rfl, rfl⟩
  · have d1 : decide (W < 0) = false := decide_eq_false c1
    have d2 : decide (h < 0) = true := decide_eq_true (by omega)
    clear c
    go_enter Try.func6, Try.ntmps6
    go_wp2
    go_ret2
    exact ⟨rfl, rfl⟩
set_option maxRecDepth 100000 in
set_option maxHeartbeats 16000000 in
theorem takes_yes (W h : Int) (p : Option Addr) (n cp : Nat) (f : Nat → Int) (w : World) (hW : 0 ≤ W) (hh : 0 ≤ h) (WW : Hid (W64 W ∧ W64 h)) (hn : n ≤ 65536) (hf : IsI w p n f) (HG : Hid (okA W f n)) :
    Calls Try.prog 6 #[.int .i64 W, .int .i64 h, .slice p n cp] w fun e w' => ∃ v, e = .returned (.tuple #[v, .int .i64 0]) ∧ Below w.heap.size w w' ∧ Own w.heap.size v (tkL W h n f) w' := by
  have MK := run_make_row' (P := Try.prog) 22 2 (.int .i64 0) 8 Try.underlying22 info64 rfl .i64 .i64 n (by omega) (by omega) w
  have HF := hid hf
  have HN := hid hn
  clear hf hn
  have d1 : decide (W < 0) = false := decide_eq_false (by omega)
  have d2 : decide (h < 0) = false := decide_eq_false (by omega)
  obtain ⟨ob, hob⟩ : ∃ b, w.heap.size = b := ⟨_, rfl⟩
  have RW : Hid ((w.alloc (.cells (madeCells #[.int .i64 0] n) 2)).rowIs ob 2 n (fun _ => .int .i64 0)) := by rw [← hob]; exact World.rowIs_made _ _ _ _
  have A0 : Hid (Ab w (w.alloc (.cells (madeCells #[.int .i64 0] n) 2))) := bl1 w _
  have HO : Hid (w.heap.size ≤ ob) := Nat.le_of_eq hob
  generalize w.alloc (.cells (madeCells #[.int .i64 0] n) 2) = wm at *
  go_enter Try.func6, Try.ntmps6
  go_wp2
  clear MK hob
  go_loopw [9, 10, 25] (fun gv tv iv wr => ∃ c : Nat, c ≤ n ∧ iv = .int .i64 (c : Nat) ∧ gv = .int .i64 (sumN f c) ∧ tv = .int .i64 (Sh.part h (sumN f c) W) ∧ okA W f c ∧ Ab w wr ∧ wr.rowIs ob 2 n (fun j => .int .i64 (if j < c then tkA h W f j else 0))) (fun _ _ iv _ => n - (intOf iv).toNat)
  case atStart => exact ⟨0, by omega, rfl, rfl, by rw [show sumN f 0 = 0 from rfl, part_0], ⟨fun i hi => absurd hi (Nat.not_lt_zero i), by show (0 : Int) ≤ _; omega⟩, A0.out, RW.out.congr (fun i _ => by simp)⟩
  case round =>
    obtain ⟨c, hc, rfl, rfl, rfl, ok, a1, r1⟩ := hrel
    have AR := hid a1
    have RR := hid r1
    have OK := hid ok
    have HC := hid hc
    have s0 := (ok.sum (Nat.le_refl c)).1
    have s1 := (ok.sum (Nat.le_refl c)).2
    have W2 := WW.out.1.2
    obtain ⟨s, hs⟩ : ∃ s, sumN f c = s := ⟨_, rfl⟩
    have SE := hid hs
    rw [hs] at s0 s1 ⊢
    obtain ⟨q, hq⟩ : ∃ q, Sh.part h s W = q := ⟨_, rfl⟩
    have q0 := (Sh.part_in h s W).1
    have q1 := (Sh.part_in h s W).2
    have QE := hid hq
    rw [hq] at q0 q1 ⊢
    clear hs hq a1 r1 ok A0 RW
    by_cases hcn : c < n
    · have HC2 := hid hcn
      have hcI : (c : Int) < n := by omega
      have hcB : (c : Int) ≤ 65536 := by have := HN.out; omega
      obtain ⟨b0, o0, rfl⟩ := HF.out.some0 (show 0 < n by omega)
      obtain ⟨x, hx⟩ : ∃ x, f c = x := ⟨_, rfl⟩
      have at0 := (HF.out.below AR.out).at0 hcn
      rw [hx] at at0
      have xc := at0.2.2
      have x1 := at0.1.1
      have x2 := at0.1.2
      have XE := hid hx
      clear at0 hx hcn hc
      have OK2 : Hid (0 ≤ x → x ≤ W - s → okA W f (c + 1)) := fun a b => ⟨fun i hi => by
        by_cases l : i < c
        · exact OK.out.1 i l
        · obtain rfl : i = c := by omega
          rw [XE.out]; exact a, by
        show sumN f c + f c ≤ W
        rw [SE.out, XE.out]
        omega⟩
      have x0 : 0 ≤ x := by rw [← XE.out]; exact HG.out.1 c HC2.out
      have x3 : x ≤ W - s := by
        have m := (HG.out.sum (k := c + 1) (by have := HC2.out; omega)).2
        have e : sumN f (c + 1) = s + x := by show sumN f c + f c = _; rw [SE.out, XE.out]
        omega
      have d3 : decide (x < 0) = false := decide_eq_false (by omega)
      have d4 : decide (W - s < x) = false := decide_eq_false (by omega)
      obtain ⟨y, hy⟩ : ∃ y, Sh.part h (s + x) W = y := ⟨_, rfl⟩
      have y0 := (Sh.part_in h (s + x) W).1
      have y1 := (Sh.part_in h (s + x) W).2
      have PC := hid (partC h (s + x) W wr WW.out.2 ⟨by omega, by omega⟩ WW.out.1)
      have YE := hid hy
      rw [hy] at y0 y1 PC
      have TK : Hid (tkA h W f c = y - q) := by
        show Sh.part h (sumN f c + f c) W - Sh.part h (sumN f c) W = _
        rw [SE.out, XE.out, YE.out, QE.out]
      clear hy
      go_wp2_with fail
      refine PC.out.mono ?_
      rintro e9 v1 ⟨rfl, b1⟩
      have A1 : Hid (Ab wr v1) := b1
      clear b1 PC
      have R1 := hid (row_ab RR.out A1.out)
      have z1 := R1.out.cell (show c < n from HC2.out)
      have z2 := R1.out.frozen c
      go_wp2
      refine ⟨⟨c + 1, by have := HC2.out; omega, by simp, ?_, ?_, OK2.out (by omega) (by omega), (AR.out.trans A1.out).set HO.out _, (R1.out.set c _).congr (fun i _ => ?_)⟩, by have := HC2.out; simp [intOf]; omega⟩
      · show _ = Value.int .i64 (sumN f c + f c)
        rw [SE.out, XE.out]
      · show _ = Value.int .i64 (Sh.part h (sumN f c + f c) W)
        rw [SE.out, XE.out, YE.out]
      · by_cases e : i = c
        · subst e; simp [TK.out]
        · have e2 : (i < c + 1) ↔ i < c := by omega
          simp [e, e2]
    · have e6 : n = c := by omega
      subst e6
      go_wp2
      go_ret2
      exact ⟨_, rfl, AR.out, row_own17 RR.out HO.out (Nat.le_refl _) (by unfold maxLen; have := HN.out; omega) (fun i hi => by simp [hi])⟩
set_option maxRecDepth 100000 in
set_option maxHeartbeats 16000000 in
theorem takes_no (W h : Int) (p : Option Addr) (n cp : Nat) (f : Nat → Int) (w : World) (hW : 0 ≤ W) (hh : 0 ≤ h) (WW : Hid (W64 W ∧ W64 h)) (hn : n ≤ 65536) (hf : IsI w p n f) (HB : Hid (¬ okA W f n)) :
    Calls Try.prog 6 #[.int .i64 W, .int .i64 h, .slice p n cp] w fun e w' => e = .returned (.tuple #[.slice none 0 0, .int .i64 1]) ∧ Below w.heap.size w w' := by
  have MK := run_make_row' (P := Try.prog) 22 2 (.int .i64 0) 8 Try.underlying22 info64 rfl .i64 .i64 n (by omega) (by omega) w
  have HF := hid hf
  have HN := hid hn
  clear hf hn
  have d1 : decide (W < 0) = false := decide_eq_false (by omega)
  have d2 : decide (h < 0) = false := decide_eq_false (by omega)
  obtain ⟨ob, hob⟩ : ∃ b, w.heap.size = b := ⟨_, rfl⟩
  have RW : Hid ((w.alloc (.cells (madeCells #[.int .i64 0] n) 2)).rowIs ob 2 n (fun _ => .int .i64 0)) := by rw [← hob]; exact World.rowIs_made _ _ _ _
  have A0 : Hid (Ab w (w.alloc (.cells (madeCells #[.int .i64 0] n) 2))) := bl1 w _
  have HO : Hid (w.heap.size ≤ ob) := Nat.le_of_eq hob
  generalize w.alloc (.cells (madeCells #[.int .i64 0] n) 2) = wm at *
  go_enter Try.func6, Try.ntmps6
  go_wp2
  clear MK hob
  go_loopw [9, 10, 25] (fun gv tv iv wr => ∃ c : Nat, c ≤ n ∧ iv = .int .i64 (c : Nat) ∧ gv = .int .i64 (sumN f c) ∧ tv = .int .i64 (Sh.part h (sumN f c) W) ∧ okA W f c ∧ Ab w wr ∧ wr.rowIs ob 2 n (fun j => .int .i64 (if j < c then tkA h W f j else 0))) (fun _ _ iv _ => n - (intOf iv).toNat)
  case atStart => exact ⟨0, by omega, rfl, rfl, by rw [show sumN f 0 = 0 from rfl, part_0], ⟨fun i hi => absurd hi (Nat.not_lt_zero i), by show (0 : Int) ≤ _; omega⟩, A0.out, RW.out.congr (fun i _ => by simp)⟩
  case round =>
    obtain ⟨c, hc, rfl, rfl, rfl, ok, a1, r1⟩ := hrel
    have AR := hid a1
    have RR := hid r1
    have OK := hid ok
    have HC := hid hc
    have s0 := (ok.sum (Nat.le_refl c)).1
    have s1 := (ok.sum (Nat.le_refl c)).2
    have W2 := WW.out.1.2
    obtain ⟨s, hs⟩ : ∃ s, sumN f c = s := ⟨_, rfl⟩
    have SE := hid hs
    rw [hs] at s0 s1 ⊢
    obtain ⟨q, hq⟩ : ∃ q, Sh.part h s W = q := ⟨_, rfl⟩
    have q0 := (Sh.part_in h s W).1
    have q1 := (Sh.part_in h s W).2
    have QE := hid hq
    rw [hq] at q0 q1 ⊢
    clear hs hq a1 r1 ok A0 RW
    by_cases hcn : c < n
    · have HC2 := hid hcn
      have hcI : (c : Int) < n := by omega
      have hcB : (c : Int) ≤ 65536 := by have := HN.out; omega
      obtain ⟨b0, o0, rfl⟩ := HF.out.some0 (show 0 < n by omega)
      obtain ⟨x, hx⟩ : ∃ x, f c = x := ⟨_, rfl⟩
      have at0 := (HF.out.below AR.out).at0 hcn
      rw [hx] at at0
      have xc := at0.2.2
      have x1 := at0.1.1
      have x2 := at0.1.2
      have XE := hid hx
      clear at0 hx hcn hc
      have OK2 : Hid (0 ≤ x → x ≤ W - s → okA W f (c + 1)) := fun a b => ⟨fun i hi => by
        by_cases l : i < c
        · exact OK.out.1 i l
        · obtain rfl : i = c := by omega
          rw [XE.out]; exact a, by
        show sumN f c + f c ≤ W
        rw [SE.out, XE.out]
        omega⟩
      by_cases x0 : x < 0
      · have d3 : decide (x < 0) = true := decide_eq_true x0
        go_wp2
        go_ret2
        exact ⟨rfl, AR.out⟩
      · have d3 : decide (x < 0) = false := decide_eq_false x0
        by_cases x3 : W - s < x
        · have d4 : decide (W - s < x) = true := decide_eq_true x3
          go_wp2
          go_ret2
          exact ⟨rfl, AR.out⟩
        · have d4 : decide (W - s < x) = false := decide_eq_false x3
          obtain ⟨y, hy⟩ : ∃ y, Sh.part h (s + x) W = y := ⟨_, rfl⟩
          have y0 := (Sh.part_in h (s + x) W).1
          have y1 := (Sh.part_in h (s + x) W).2
          have PC := hid (partC h (s + x) W wr WW.out.2 ⟨by omega, by omega⟩ WW.out.1)
          have YE := hid hy
          rw [hy] at y0 y1 PC
          have TK : Hid (tkA h W f c = y - q) := by
            show Sh.part h (sumN f c + f c) W - Sh.part h (sumN f c) W = _
            rw [SE.out, XE.out, YE.out, QE.out]
          clear hy
          go_wp2_with fail
          refine PC.out.mono ?_
          rintro e9 v1 ⟨rfl, b1⟩
          have A1 : Hid (Ab wr v1) := b1
          clear b1 PC
          have R1 := hid (row_ab RR.out A1.out)
          have z1 := R1.out.cell (show c < n from HC2.out)
          have z2 := R1.out.frozen c
          go_wp2
          refine ⟨⟨c + 1, by have := HC2.out; omega, by simp, ?_, ?_, OK2.out (by omega) (by omega), (AR.out.trans A1.out).set HO.out _, (R1.out.set c _).congr (fun i _ => ?_)⟩, by have := HC2.out; simp [intOf]; omega⟩
          · show _ = Value.int .i64 (sumN f c + f c)
            rw [SE.out, XE.out]
          · show _ = Value.int .i64 (Sh.part h (sumN f c + f c) W)
            rw [SE.out, XE.out, YE.out]
          · by_cases e : i = c
            · subst e; simp [TK.out]
            · have e2 : (i < c + 1) ↔ i < c := by omega
              simp [e, e2]
    · have e6 : n = c := by omega
      subst e6
      exact absurd OK.out HB.out
/-- TAKES -/
theorem takesC : TakesC := by
  intro W h p n c f w hW hh hn hf
  constructor
  · rintro ⟨g1, g2, g3⟩
    exact takes_yes W h p n c f w g1 g2 ⟨hW, hh⟩ hn hf g3
  · intro b
    by_cases l : W < 0 ∨ h < 0
    · refine (takes_neg W h p n c w l).mono ?_
      rintro e w' ⟨rfl, rfl⟩
      exact ⟨rfl, Below.refl _ _⟩
    · exact takes_no W h p n c f w (by omega) (by omega) ⟨hW, hh⟩ hn hf (fun o => b ⟨by omega, by omega, o⟩)
end Tr
end Go.Proofs.Ytehadalddjbclaa
