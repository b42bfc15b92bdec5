/-
  Some of the texts of this proof, one behind the other.
-/
import Derived.Test.YtbibhgikmnpbfaaGreatDoorRb17
namespace Go.Proofs.YtbibhgikmnpbfaaGreatDoor
open Go.RowKit Tf Cu Go.Deep
attribute [local go_sem] run_bits run_from raw_feq raw_fne raw_flt raw_fgt run_neg run_store_float
namespace Rv
theorem row_own19 {B g cap n : Nat} {F : Nat → Value} {x : Nat → Int} {w : World} (h : w.rowIs g 2 cap F) (hB : B ≤ g) (hn : n ≤ cap) (hc : cap ≤ maxLen) (hF : ∀ i, i < n → F i = .int .i64 (x i)) : Sh.Own B (.slice (some ⟨g, 0, none⟩) n cap) ((List.range n).map x) w := by
  obtain ⟨c, hb, hs, hf⟩ := h
  refine ⟨by simp, .inr ⟨g, cap, c, by simp, hB, hb, by simpa using hn, hc, by omega, ?_⟩⟩
  apply List.ext_getElem?
  intro i
  rw [List.getElem?_take, List.length_map, List.length_range]
  by_cases hi : i < n
  · have e := hf i (by omega)
    rw [hF i hi] at e
    rw [if_pos (by omega)]
    rw [← Array.getElem?_toList] at e
    rw [e]
    simp [hi]
  · rw [if_neg (by omega), List.getElem?_eq_none (by simp; omega)]
theorem rfits19 {n rb : Nat} (pb pw pt ps : Option Addr) (lb cb lw cw lt ct ls cs : Nat) (sky st : Int) (q : Bool) (w : World) (hn : 1 ≤ n ∧ n ≤ 32) (g : RefOf n rb w) (hq : q = true ↔ (lb = 6 * n * n ∧ lw = 6 * n * n ∧ lt = 6 * n * n ∧ ls = 12 * n * n)) :
    Calls Tryz.prog 35 #[(.pointer (some ⟨rb, 0, none⟩)), .agg #[.slice pb lb cb, .slice pw lw cw, .slice pt lt ct, .slice ps ls cs, .int .i64 sky, .int .i64 st]] w fun e w' => e = .returned (.bool q) ∧ Below w.heap.size w w' := by
  refine rfits13_at rb pb pw pt ps lb cb lw cw lt ct ls cs sky st (6 * n * n) (12 * n * n) q w ?_ (fun v hv => (rCells_at hn (g.to hv)).mono fun _ _ h => ⟨h.1, by obtain ⟨_, rfl⟩ := h; exact Below.refl _ _⟩) (fun v hv => (rEdges_at (g.to hv)).mono fun _ _ h => ⟨h.1, by obtain ⟨_, rfl⟩ := h; exact Below.refl _ _⟩)
  generalize 6 * n * n = M at *
  generalize 12 * n * n = N at *
  have e : ∀ a b : Nat, (((a : Int) == (b : Int)) = true ↔ a = b) := fun a b => by simp; omega
  have f : ∀ a b : Nat, (((a : Int) == (b : Int)) = false ↔ a ≠ b) := fun a b => by simp; omega
  rw [e, f, e, f, e, f]
  by_cases h1 : lb = M
  · by_cases h2 : lw = M
    · by_cases h3 : lt = M
      · refine .inr (.inr (.inr ⟨h1, h2, h3, ?_⟩))
        by_cases h4 : ls = N
        · rw [hq.2 ⟨h1, h2, h3, h4⟩]; exact (e _ _).2 h4
        · have : q = false := by cases q; · rfl
                                 · exact absurd (hq.1 rfl).2.2.2 h4
          rw [this]; exact (f _ _).2 h4
      · exact .inr (.inr (.inl ⟨h1, h2, h3, by cases q; · rfl
                                               · exact absurd (hq.1 rfl).2.2.1 h3⟩))
    · exact .inr (.inl ⟨h1, h2, by cases q; · rfl
                                   · exact absurd (hq.1 rfl).2.1 h2⟩)
  · exact .inl ⟨h1, by cases q; · rfl
                       · exact absurd (hq.1 rfl).1 h1⟩
set_option maxRecDepth 100000 in
set_option maxHeartbeats 16000000 in
theorem rbounded_yes (p : Option Addr) (N c : Nat) (f : Nat → Int) (w : World) (hN : N ≤ 6144) (hf : Sh.IsI w p N f) (OK : Hid (okV N f)) :
    Calls Tryz.prog 36 #[.slice p N c] w fun e w' => e = .returned (.bool true) ∧ Below w.heap.size w w' := by
  have HF := hid hf
  have HN := hid hN
  clear hf hN
  go_enter Tryz.func36, Tryz.ntmps36
  go_wp2
  go_loopw [3, 4] (fun sv iv wr => ∃ k : Nat, k ≤ N ∧ iv = .int .i64 (k : Nat) ∧ sv = .int .i64 (Sh.sumN f k) ∧ (0 ≤ Sh.sumN f k ∧ Sh.sumN f k ≤ 4503599627370496) ∧ wr = w) (fun _ iv _ => N - (intOf iv).toNat)
  case atStart => exact ⟨0, by omega, rfl, rfl, ⟨Int.le_refl 0, by show (0 : Int) ≤ _; omega⟩, rfl⟩
  case round =>
    obtain ⟨k, hk, rfl, rfl, hb, hwr⟩ := hrel
    have hwr2 := hwr.symm
    subst hwr2
    have s1 := hb.1
    have s2 := hb.2
    obtain ⟨s, hs⟩ : ∃ s, Sh.sumN f k = s := ⟨_, rfl⟩
    have SE := hid hs
    rw [hs] at s1 s2 ⊢
    clear hb
    by_cases hkn : k < N
    · have HK := hid hkn
      have kI : (k : Int) < N := by omega
      have kB : (k : Int) ≤ 6144 := by have := HN.out; omega
      obtain ⟨b0, o0, rfl⟩ := HF.out.some0 (show 0 < N by omega)
      obtain ⟨x, hx⟩ : ∃ x, f k = x := ⟨_, rfl⟩
      have xc := (HF.out.at0 hkn).2.2
      rw [hx] at xc
      have XE := hid hx
      have m3 : Sh.sumN f (k + 1) = s + x := by show Sh.sumN f k + f k = _; rw [hs, hx]
      have M3 := hid m3
      have m1 := OK.out.1 k hkn
      have m2 := Sh.sumN_mono OK.out.1 (m := k + 1) (by omega)
      have m4 := OK.out.2
      rw [hx] at m1
      have n1 : 0 ≤ s + x := by omega
      have n2 : s + x ≤ 4503599627370496 := by omega
      have d1 : decide (x < 0) = false := decide_eq_false (by omega)
      have d2 : decide (4503599627370496 - s < x) = false := decide_eq_false (by omega)
      clear hx hs m2 m3 m4 hkn hk
      go_wp2
      exact ⟨⟨k + 1, by have := HK.out; omega, by simp, by rw [M3.out], by rw [M3.out]; exact ⟨n1, n2⟩, by first | trivial | rfl⟩, by have := HK.out; simp [intOf]; omega⟩
    · have e6 : N = k := by omega
      subst e6
      go_wp2
      go_ret
      exact ⟨rfl, Below.refl _ _⟩
set_option maxRecDepth 100000 in
set_option maxHeartbeats 16000000 in
theorem rbounded_no (p : Option Addr) (N c : Nat) (f : Nat → Int) (w : World) (hN : N ≤ 6144) (hf : Sh.IsI w p N f) (NO : Hid (¬ okV N f)) :
    Calls Tryz.prog 36 #[.slice p N c] w fun e w' => e = .returned (.bool false) ∧ Below w.heap.size w w' := by
  have HF := hid hf
  have HN := hid hN
  clear hf hN
  go_enter Tryz.func36, Tryz.ntmps36
  go_wp2
  go_loopw [3, 4] (fun sv iv wr => ∃ k : Nat, k ≤ N ∧ iv = .int .i64 (k : Nat) ∧ sv = .int .i64 (Sh.sumN f k) ∧ (0 ≤ Sh.sumN f k ∧ Sh.sumN f k ≤ 4503599627370496) ∧ (∀ i, i < k → 0 ≤ f i) ∧ wr = w) (fun _ iv _ => N - (intOf iv).toNat)
  case atStart => exact ⟨0, by omega, rfl, rfl, ⟨Int.le_refl 0, by show (0 : Int) ≤ _; omega⟩, fun i hi => absurd hi (Nat.not_lt_zero i), rfl⟩
  case round =>
    obtain ⟨k, hk, rfl, rfl, hb, g1, hwr⟩ := hrel
    have hwr2 := hwr.symm
    subst hwr2
    have G1 := hid g1
    clear g1
    have s1 := hb.1
    have s2 := hb.2
    obtain ⟨s, hs⟩ : ∃ s, Sh.sumN f k = s := ⟨_, rfl⟩
    have SE := hid hs
    rw [hs] at s1 s2 ⊢
    clear hb
    by_cases hkn : k < N
    · have HK := hid hkn
      have kI : (k : Int) < N := by omega
      have kB : (k : Int) ≤ 6144 := by have := HN.out; omega
      obtain ⟨b0, o0, rfl⟩ := HF.out.some0 (show 0 < N by omega)
      obtain ⟨x, hx⟩ : ∃ x, f k = x := ⟨_, rfl⟩
      have xc := (HF.out.at0 hkn).2.2
      rw [hx] at xc
      have XE := hid hx
      have m3 : Sh.sumN f (k + 1) = s + x := by show Sh.sumN f k + f k = _; rw [hs, hx]
      have M3 := hid m3
      clear hx hs m3 hkn hk
      by_cases q1 : x < 0
      · have d1 : decide (x < 0) = true := decide_eq_true q1
        go_wp2
        go_ret
        exact ⟨rfl, Below.refl _ _⟩
      · have d1 : decide (x < 0) = false := decide_eq_false q1
        by_cases q2 : 4503599627370496 - s < x
        · have d2 : decide (4503599627370496 - s < x) = true := decide_eq_true q2
          go_wp2
          go_ret
          exact ⟨rfl, Below.refl _ _⟩
        · have d2 : decide (4503599627370496 - s < x) = false := decide_eq_false q2
          have n1 : 0 ≤ s + x := by omega
          have n2 : s + x ≤ 4503599627370496 := by omega
          have G2 : Hid (∀ i, i < k + 1 → 0 ≤ f i) := fun i hi => by
            by_cases l : i < k
            · exact G1.out i l
            · obtain rfl : i = k := by omega
              rw [XE.out]
              omega
          clear q1 q2
          go_wp2
          exact ⟨⟨k + 1, by have := HK.out; omega, by simp, by rw [M3.out], by rw [M3.out]; exact ⟨n1, n2⟩, G2.out, by first | trivial | rfl⟩, by have := HK.out; simp [intOf]; omega⟩
    · have e6 : N = k := by omega
      subst e6
      exact absurd ⟨G1.out, by rw [SE.out]; exact s2⟩ NO.out
set_option maxRecDepth 100000 in
set_option maxHeartbeats 16000000 in
theorem rcopied19 (p : Option Addr) (N c : Nat) (f : Nat → Int) (w : World) (hN : N ≤ 6144) (hf : Sh.IsI w p N f) :
    Calls Tryz.prog 37 #[.slice p N c] w fun e w' => ∃ ob, e = .returned (.slice (some ⟨ob, 0, none⟩) N N) ∧ Below w.heap.size w w' ∧ w.heap.size ≤ ob ∧ w'.rowIs ob 2 N (fun i => .int .i64 (f i)) := by
  have MK := run_make_row' (P := Tryz.prog) 23 2 (.int .i64 0) 8 Tryz.underlying23 Sh.info64 rfl .i64 .i64 N (by omega) (by omega) w
  have HF := hid hf
  have HN := hid hN
  clear hf hN
  obtain ⟨ob, hob⟩ : ∃ b, w.heap.size = b := ⟨_, rfl⟩
  have RW : Hid ((w.alloc (.cells (madeCells #[.int .i64 0] N) 2)).rowIs ob 2 N (fun _ => .int .i64 0)) := by rw [← hob]; exact World.rowIs_made _ _ _ _
  have A0 : Hid (Ab w (w.alloc (.cells (madeCells #[.int .i64 0] N) 2))) := bl1 w _
  have HO : Hid (w.heap.size ≤ ob) := Nat.le_of_eq hob
  generalize w.alloc (.cells (madeCells #[.int .i64 0] N) 2) = wm at *
  go_enter Tryz.func37, Tryz.ntmps37
  go_wp2
  clear MK hob
  go_loopw [4] (fun iv wr => ∃ k : Nat, k ≤ N ∧ iv = .int .i64 (k : Nat) ∧ Ab w wr ∧ wr.rowIs ob 2 N (fun i => .int .i64 (if i < k then f i else 0))) (fun iv _ => N - (intOf iv).toNat)
  case atStart => exact ⟨0, by omega, rfl, A0.out, RW.out.congr (fun i _ => by simp)⟩
  case round =>
    obtain ⟨k, hk, rfl, ar, rr⟩ := hrel
    have AR := hid ar
    have RR := hid rr
    clear ar rr A0 RW
    by_cases hkn : k < N
    · have HK := hid hkn
      have kI : (k : Int) < N := by omega
      have kB : (k : Int) ≤ 6144 := by have := HN.out; omega
      obtain ⟨b0, o0, rfl⟩ := HF.out.some0 (show 0 < N by omega)
      obtain ⟨x, hx⟩ : ∃ x, f k = x := ⟨_, rfl⟩
      have xc := ((HF.out.below AR.out).at0 hkn).2.2
      rw [hx] at xc
      have XE := hid hx
      have z1 := RR.out.cell (show k < N from hkn)
      have z2 := RR.out.frozen k
      clear hx hkn hk
      go_wp2
      refine ⟨⟨k + 1, by have := HK.out; omega, by simp, AR.out.set HO.out _, (RR.out.set k _).congr (fun i _ => ?_)⟩, by have := HK.out; simp [intOf]; omega⟩
      by_cases e : i = k
      · subst e; simp [XE.out]
      · have e2 : (i < k + 1) ↔ i < k := by omega
        simp [e, e2]
    · have e6 : N = k := by omega
      subst e6
      go_wp2
      go_ret
      exact ⟨_, rfl, AR.out, HO.out, RR.out.congr (fun i hi => by simp [hi])⟩
set_option maxRecDepth 100000 in
set_option maxHeartbeats 16000000 in
theorem rrun_no0 (rb : Nat) (pb : Option Addr) (lb cb : Nat) (pw : Option Addr) (lw cw : Nat) (pt : Option Addr) (lt ct : Nat) (ps : Option Addr) (ls cs : Nat) (sky st : Int) (w : World)
    (FT : Hid (∀ v, Ab w v → Calls Tryz.prog 35 #[.pointer (some ⟨rb, 0, none⟩), .agg #[.slice pb lb cb, .slice pw lw cw, .slice pt lt ct, .slice ps ls cs, .int .i64 sky, .int .i64 st]] v fun e w' => e = .returned (.bool false) ∧ Below v.heap.size v w')) :
    Calls Tryz.prog 9 #[.pointer (some ⟨rb, 0, none⟩), .agg #[.slice pb lb cb, .slice pw lw cw, .slice pt lt ct, .slice ps ls cs, .int .i64 sky, .int .i64 st]] w fun e w' => e = .returned (.tuple #[.slice none 0 0, .slice none 0 0, .int .i64 1]) ∧ Below w.heap.size w w' := by
  have A0 : Hid (Ab w (w.alloc (.cells #[.slice pb lb cb, .slice pw lw cw, .slice pt lt ct, .slice ps ls cs, .int .i64 sky, .int .i64 st] 25))) := bl1 _ _
  have R0 : Hid ((w.alloc (.cells #[.slice pb lb cb, .slice pw lw cw, .slice pt lt ct, .slice ps ls cs, .int .i64 sky, .int .i64 st] 25)).heap[w.heap.size]? = some (.cells #[.slice pb lb cb, .slice pw lw cw, .slice pt lt ct, .slice ps ls cs, .int .i64 sky, .int .i64 st] 25)) := heap_alloc_new _ _
  go_enter Tryz.func9, Tryz.ntmps9
  go_upto_region 1 with fail
  generalize hW : World.alloc w _ = W0 at *
  obtain ⟨gw, hgw⟩ : ∃ g, w.heap.size = g := ⟨_, rfl⟩
  rw [hgw] at R0 ⊢
  clear hgw hW
  have x0 := cell_of_row _ _ 0 _ _ _ R0.out
  have x1 := cell_of_row _ _ 1 _ _ _ R0.out
  have x2 := cell_of_row _ _ 2 _ _ _ R0.out
  have x3 := cell_of_row _ _ 3 _ _ _ R0.out
  have x4 := cell_of_row _ _ 4 _ _ _ R0.out
  have x5 := cell_of_row _ _ 5 _ _ _ R0.out
  go_wp2_with fail
  refine (FT.out _ A0.out).mono ?_
  rintro e9 v1 ⟨rfl, b1⟩
  have A1 : Hid (Ab w v1) := A0.out.trans b1
  have QA1 := hid (Ab.heap b1 R0.out)
  clear b1 x0 x1 x2 x3 x4 x5
  go_wp2
  go_ret3
  exact ⟨rfl, A1.out⟩
set_option maxRecDepth 100000 in
set_option maxHeartbeats 16000000 in
theorem rrun_no1 (rb : Nat) (pb : Option Addr) (lb cb : Nat) (pw : Option Addr) (lw cw : Nat) (pt : Option Addr) (lt ct : Nat) (ps : Option Addr) (ls cs : Nat) (sky st : Int) (w : World)
    (FT : Hid (∀ v, Ab w v → Calls Tryz.prog 35 #[.pointer (some ⟨rb, 0, none⟩), .agg #[.slice pb lb cb, .slice pw lw cw, .slice pt lt ct, .slice ps ls cs, .int .i64 sky, .int .i64 st]] v fun e w' => e = .returned (.bool true) ∧ Below v.heap.size v w'))
    (BW : Hid (∀ v, Ab w v → Calls Tryz.prog 36 #[.slice pw lw cw] v fun e w' => e = .returned (.bool false) ∧ Below v.heap.size v w')) :
    Calls Tryz.prog 9 #[.pointer (some ⟨rb, 0, none⟩), .agg #[.slice pb lb cb, .slice pw lw cw, .slice pt lt ct, .slice ps ls cs, .int .i64 sky, .int .i64 st]] w fun e w' => e = .returned (.tuple #[.slice none 0 0, .slice none 0 0, .int .i64 1]) ∧ Below w.heap.size w w' := by
  have A0 : Hid (Ab w (w.alloc (.cells #[.slice pb lb cb, .slice pw lw cw, .slice pt lt ct, .slice ps ls cs, .int .i64 sky, .int .i64 st] 25))) := bl1 _ _
  have R0 : Hid ((w.alloc (.cells #[.slice pb lb cb, .slice pw lw cw, .slice pt lt ct, .slice ps ls cs, .int .i64 sky, .int .i64 st] 25)).heap[w.heap.size]? = some (.cells #[.slice pb lb cb, .slice pw lw cw, .slice pt lt ct, .slice ps ls cs, .int .i64 sky, .int .i64 st] 25)) := heap_alloc_new _ _
  go_enter Tryz.func9, Tryz.ntmps9
  go_upto_region 1 with fail
  generalize hW : World.alloc w _ = W0 at *
  obtain ⟨gw, hgw⟩ : ∃ g, w.heap.size = g := ⟨_, rfl⟩
  rw [hgw] at R0 ⊢
  clear hgw hW
  have x0 := cell_of_row _ _ 0 _ _ _ R0.out
  have x1 := cell_of_row _ _ 1 _ _ _ R0.out
  have x2 := cell_of_row _ _ 2 _ _ _ R0.out
  have x3 := cell_of_row _ _ 3 _ _ _ R0.out
  have x4 := cell_of_row _ _ 4 _ _ _ R0.out
  have x5 := cell_of_row _ _ 5 _ _ _ R0.out
  go_wp2_with fail
  refine (FT.out _ A0.out).mono ?_
  rintro e9 v1 ⟨rfl, b1⟩
  have A1 : Hid (Ab w v1) := A0.out.trans b1
  have QA1 := hid (Ab.heap b1 R0.out)
  clear b1 x0 x1 x2 x3 x4 x5
  have x0 := cell_of_row _ _ 0 _ _ _ QA1.out
  have x1 := cell_of_row _ _ 1 _ _ _ QA1.out
  have x2 := cell_of_row _ _ 2 _ _ _ QA1.out
  have x3 := cell_of_row _ _ 3 _ _ _ QA1.out
  have x4 := cell_of_row _ _ 4 _ _ _ QA1.out
  have x5 := cell_of_row _ _ 5 _ _ _ QA1.out
  go_wp2_with fail
  refine (BW.out _ A1.out).mono ?_
  rintro e9 v2 ⟨rfl, b1⟩
  have A2 : Hid (Ab w v2) := A1.out.trans b1
  have QA2 := hid (Ab.heap b1 QA1.out)
  clear b1 x0 x1 x2 x3 x4 x5
  go_wp2
  go_ret3
  exact ⟨rfl, A2.out⟩
set_option maxRecDepth 100000 in
set_option maxHeartbeats 16000000 in
theorem rrun_no2 (rb : Nat) (pb : Option Addr) (lb cb : Nat) (pw : Option Addr) (lw cw : Nat) (pt : Option Addr) (lt ct : Nat) (ps : Option Addr) (ls cs : Nat) (sky st : Int) (w : World)
    (FT : Hid (∀ v, Ab w v → Calls Tryz.prog 35 #[.pointer (some ⟨rb, 0, none⟩), .agg #[.slice pb lb cb, .slice pw lw cw, .slice pt lt ct, .slice ps ls cs, .int .i64 sky, .int .i64 st]] v fun e w' => e = .returned (.bool true) ∧ Below v.heap.size v w'))
    (BW : Hid (∀ v, Ab w v → Calls Tryz.prog 36 #[.slice pw lw cw] v fun e w' => e = .returned (.bool true) ∧ Below v.heap.size v w'))
    (BT : Hid (∀ v, Ab w v → Calls Tryz.prog 36 #[.slice pt lt ct] v fun e w' => e = .returned (.bool false) ∧ Below v.heap.size v w')) :
    Calls Tryz.prog 9 #[.pointer (some ⟨rb, 0, none⟩), .agg #[.slice pb lb cb, .slice pw lw cw, .slice pt lt ct, .slice ps ls cs, .int .i64 sky, .int .i64 st]] w fun e w' => e = .returned (.tuple #[.slice none 0 0, .slice none 0 0, .int .i64 1]) ∧ Below w.heap.size w w' := by
  have A0 : Hid (Ab w (w.alloc (.cells #[.slice pb lb cb, .slice pw lw cw, .slice pt lt ct, .slice ps ls cs, .int .i64 sky, .int .i64 st] 25))) := bl1 _ _
  have R0 : Hid ((w.alloc (.cells #[.slice pb lb cb, .slice pw lw cw, .slice pt lt ct, .slice ps ls cs, .int .i64 sky, .int .i64 st] 25)).heap[w.heap.size]? = some (.cells #[.slice pb lb cb, .slice pw lw cw, .slice pt lt ct, .slice ps ls cs, .int .i64 sky, .int .i64 st] 25)) := heap_alloc_new _ _
  go_enter Tryz.func9, Tryz.ntmps9
  go_upto_region 1 with fail
  generalize hW : World.alloc w _ = W0 at *
  obtain ⟨gw, hgw⟩ : ∃ g, w.heap.size = g := ⟨_, rfl⟩
  rw [hgw] at R0 ⊢
  clear hgw hW
  have x0 := cell_of_row _ _ 0 _ _ _ R0.out
  have x1 := cell_of_row _ _ 1 _ _ _ R0.out
  have x2 := cell_of_row _ _ 2 _ _ _ R0.out
  have x3 := cell_of_row _ _ 3 _ _ _ R0.out
  have x4 := cell_of_row _ _ 4 _ _ _ R0.out
  have x5 := cell_of_row _ _ 5 _ _ _ R0.out
  go_wp2_with fail
  refine (FT.out _ A0.out).mono ?_
  rintro e9 v1 ⟨rfl, b1⟩
  have A1 : Hid (Ab w v1) := A0.out.trans b1
  have QA1 := hid (Ab.heap b1 R0.out)
  clear b1 x0 x1 x2 x3 x4 x5
  have x0 := cell_of_row _ _ 0 _ _ _ QA1.out
  have x1 := cell_of_row _ _ 1 _ _ _ QA1.out
  have x2 := cell_of_row _ _ 2 _ _ _ QA1.out
  have x3 := cell_of_row _ _ 3 _ _ _ QA1.out
  have x4 := cell_of_row _ _ 4 _ _ _ QA1.out
  have x5 := cell_of_row _ _ 5 _ _ _ QA1.out
  go_wp2_with fail
  refine (BW.out _ A1.out).mono ?_
  rintro e9 v2 ⟨rfl, b1⟩
  have A2 : Hid (Ab w v2) := A1.out.trans b1
  have QA2 := hid (Ab.heap b1 QA1.out)
  clear b1 x0 x1 x2 x3 x4 x5
  have x0 := cell_of_row _ _ 0 _ _ _ QA2.out
  have x1 := cell_of_row _ _ 1 _ _ _ QA2.out
  have x2 := cell_of_row _ _ 2 _ _ _ QA2.out
  have x3 := cell_of_row _ _ 3 _ _ _ QA2.out
  have x4 := cell_of_row _ _ 4 _ _ _ QA2.out
  have x5 := cell_of_row _ _ 5 _ _ _ QA2.out
  go_wp2_with fail
  refine (BT.out _ A2.out).mono ?_
  rintro e9 v3 ⟨rfl, b1⟩
  have A3 : Hid (Ab w v3) := A2.out.trans b1
  have QA3 := hid (Ab.heap b1 QA2.out)
  clear b1 x0 x1 x2 x3 x4 x5
  go_wp2
  go_ret3
  exact ⟨rfl, A3.out⟩
set_option maxRecDepth 100000 in
set_option maxHeartbeats 64000000 in
theorem rrun_go (rb N : Nat) (pb : Option Addr) (cb : Nat) (pw : Option Addr) (cw : Nat) (pt : Option Addr) (ct : Nat) (ps : Option Addr) (ls cs : Nat) (sky st : Int) (W T : Nat → Int) (dn : Nat → Int) (sh : Int → Nat → Bool) (ar : Nat → Int) (L : List Nat) (w : World) (hN : N ≤ 6144) (hN0 : 0 < N) (IW : Hid (Sh.IsI w pw N W)) (IT : Hid (Sh.IsI w pt N T))
    (FT : Hid (∀ v, Ab w v → Calls Tryz.prog 35 #[.pointer (some ⟨rb, 0, none⟩), .agg #[.slice pb N cb, .slice pw N cw, .slice pt N ct, .slice ps ls cs, .int .i64 sky, .int .i64 st]] v fun e w' => e = .returned (.bool true) ∧ Below v.heap.size v w'))
    (BW : Hid (∀ v, Ab w v → Calls Tryz.prog 36 #[.slice pw N cw] v fun e w' => e = .returned (.bool true) ∧ Below v.heap.size v w'))
    (BT : Hid (∀ v, Ab w v → Calls Tryz.prog 36 #[.slice pt N ct] v fun e w' => e = .returned (.bool true) ∧ Below v.heap.size v w'))
    (OR : Hid (∀ v, Ab w v → Calls Tryz.prog 13 #[.slice pb N cb] v fun e w' => ∃ u, e = .returned u ∧ Below v.heap.size v w' ∧ OT 3 v.heap.size u (cst L) w'))
    (DW : Hid (∀ v (c : Nat), Ab w v → c < N → Calls Tryz.prog 16 #[.pointer (some ⟨rb, 0, none⟩), .slice pb N cb, .int .i64 (c : Nat)] v fun e w' => e = .returned (.int .i64 (dn c)) ∧ Below v.heap.size v w'))
    (AR_ : Hid (∀ v (c : Nat), Ab w v → c < N → Calls Tryz.prog 39 #[.pointer (some ⟨rb, 0, none⟩), .int .i64 (c : Nat)] v fun e w' => e = .returned (.int .i64 (ar c)) ∧ Below v.heap.size v w'))
    (DP : Hid (∀ v (c : Nat) (x : Int), Ab w v → c < N → 0 ≤ x → x ≤ 4503599627370496 → Calls Tryz.prog 38 #[.int .i64 x, .int .i64 (ar c)] v fun e w' => e = .returned (.float .f64 (dpB x (ar c))) ∧ Below v.heap.size v w'))
    (DH : Hid (∀ (c : Nat) (x : Int), c < N → 0 ≤ x → x ≤ 4503599627370496 → (sh x c = flt (dpB x (ar c)) 4602678819172646912) ∧ dpB x (ar c) < 18446744073709551616))
    (OD : Hid (okD N dn)) (LM : Hid (∀ c ∈ L, c < N)) (LL : Hid (L.length = N)) (OK : Hid (okV N W ∧ okV N T)) :
    Calls Tryz.prog 9 #[.pointer (some ⟨rb, 0, none⟩), .agg #[.slice pb N cb, .slice pw N cw, .slice pt N ct, .slice ps ls cs, .int .i64 sky, .int .i64 st]] w fun e w' => ∃ v u, e = .returned (.tuple #[v, u, .int .i64 0]) ∧ Below w.heap.size w w' ∧ Sh.Own w.heap.size v ((List.range N).map (rvL dn sh (W, T) L).1) w' ∧ Sh.Own w.heap.size u ((List.range N).map (rvL dn sh (W, T) L).2) w' := by
  have HN := hid (And.intro hN hN0)
  clear hN hN0
  have A0 : Hid (Ab w (w.alloc (.cells #[.slice pb N cb, .slice pw N cw, .slice pt N ct, .slice ps ls cs, .int .i64 sky, .int .i64 st] 25))) := bl1 _ _
  have R0 : Hid ((w.alloc (.cells #[.slice pb N cb, .slice pw N cw, .slice pt N ct, .slice ps ls cs, .int .i64 sky, .int .i64 st] 25)).heap[w.heap.size]? = some (.cells #[.slice pb N cb, .slice pw N cw, .slice pt N ct, .slice ps ls cs, .int .i64 sky, .int .i64 st] 25)) := heap_alloc_new _ _
  go_enter Tryz.func9, Tryz.ntmps9
  go_upto_region 1 with fail
  generalize hW : World.alloc w _ = W0 at *
  obtain ⟨gw, hgw⟩ : ∃ g, w.heap.size = g := ⟨_, rfl⟩
  rw [hgw] at R0 ⊢
  clear hgw hW
  have x0 := cell_of_row _ _ 0 _ _ _ R0.out
  have x1 := cell_of_row _ _ 1 _ _ _ R0.out
  have x2 := cell_of_row _ _ 2 _ _ _ R0.out
  have x3 := cell_of_row _ _ 3 _ _ _ R0.out
  have x4 := cell_of_row _ _ 4 _ _ _ R0.out
  have x5 := cell_of_row _ _ 5 _ _ _ R0.out
  go_wp2_with fail
  refine (FT.out _ A0.out).mono ?_
  rintro e9 v1 ⟨rfl, b1⟩
  have A1 : Hid (Ab w v1) := A0.out.trans b1
  have QA1 := hid (Ab.heap b1 R0.out)
  clear b1 x0 x1 x2 x3 x4 x5
  have x0 := cell_of_row _ _ 0 _ _ _ QA1.out
  have x1 := cell_of_row _ _ 1 _ _ _ QA1.out
  have x2 := cell_of_row _ _ 2 _ _ _ QA1.out
  have x3 := cell_of_row _ _ 3 _ _ _ QA1.out
  have x4 := cell_of_row _ _ 4 _ _ _ QA1.out
  have x5 := cell_of_row _ _ 5 _ _ _ QA1.out
  go_wp2_with fail
  refine (BW.out _ A1.out).mono ?_
  rintro e9 v2 ⟨rfl, b1⟩
  have A2 : Hid (Ab w v2) := A1.out.trans b1
  have QA2 := hid (Ab.heap b1 QA1.out)
  clear b1 x0 x1 x2 x3 x4 x5
  have x0 := cell_of_row _ _ 0 _ _ _ QA2.out
  have x1 := cell_of_row _ _ 1 _ _ _ QA2.out
  have x2 := cell_of_row _ _ 2 _ _ _ QA2.out
  have x3 := cell_of_row _ _ 3 _ _ _ QA2.out
  have x4 := cell_of_row _ _ 4 _ _ _ QA2.out
  have x5 := cell_of_row _ _ 5 _ _ _ QA2.out
  go_wp2_with fail
  refine (BT.out _ A2.out).mono ?_
  rintro e9 v3 ⟨rfl, b1⟩
  have A3 : Hid (Ab w v3) := A2.out.trans b1
  have QA3 := hid (Ab.heap b1 QA2.out)
  clear b1 x0 x1 x2 x3 x4 x5
  have x0 := cell_of_row _ _ 0 _ _ _ QA3.out
  have x1 := cell_of_row _ _ 1 _ _ _ QA3.out
  have x2 := cell_of_row _ _ 2 _ _ _ QA3.out
  have x3 := cell_of_row _ _ 3 _ _ _ QA3.out
  have x4 := cell_of_row _ _ 4 _ _ _ QA3.out
  have x5 := cell_of_row _ _ 5 _ _ _ QA3.out
  go_wp2_with fail
  refine (rcopied19 pw N cw W v3 HN.out.1 (IW.out.below A3.out)).mono ?_
  rintro e9 v4 ⟨bw, rfl, b4, hbw, rw4⟩
  have A4 : Hid (Ab w v4) := A3.out.trans b4
  have Q4 := hid (Ab.heap b4 QA3.out)
  have BW4 := hid hbw
  have RW4 := hid rw4
  have S3 := hid A3.out.size
  clear b4 hbw rw4 x0 x1 x2 x3 x4 x5
  have x0 := cell_of_row _ _ 0 _ _ _ Q4.out
  have x1 := cell_of_row _ _ 1 _ _ _ Q4.out
  have x2 := cell_of_row _ _ 2 _ _ _ Q4.out
  have x3 := cell_of_row _ _ 3 _ _ _ Q4.out
  have x4 := cell_of_row _ _ 4 _ _ _ Q4.out
  have x5 := cell_of_row _ _ 5 _ _ _ Q4.out
  go_wp2_with fail
  refine (rcopied19 pt N ct T v4 HN.out.1 (IT.out.below A4.out)).mono ?_
  rintro e9 v5 ⟨bt, rfl, b5, hbt, rt5⟩
  have A5 : Hid (Ab w v5) := A4.out.trans b5
  have Q5 := hid (Ab.heap b5 Q4.out)
  have RW5 := hid (rowIs.ab RW4.out b5)
  have RT5 := hid rt5
  have NE : Hid (bw < bt ∧ w.heap.size ≤ bw) := by
    have h1 := RW4.out.lt
    have h2 := S3.out
    have h3 := BW4.out
    exact ⟨by omega, by omega⟩
  clear b5 hbt rt5 x0 x1 x2 x3 x4 x5
  have x0 := cell_of_row _ _ 0 _ _ _ Q5.out
  have x1 := cell_of_row _ _ 1 _ _ _ Q5.out
  have x2 := cell_of_row _ _ 2 _ _ _ Q5.out
  have x3 := cell_of_row _ _ 3 _ _ _ Q5.out
  have x4 := cell_of_row _ _ 4 _ _ _ Q5.out
  have x5 := cell_of_row _ _ 5 _ _ _ Q5.out
  go_wp2_with fail
  refine (OR.out v5 A5.out).mono ?_
  rintro e9 v6 ⟨u, rfl, b6, o6⟩
  obtain ⟨pl, cl, rfl, il⟩ := o6.isI (fun x hx => by
    obtain ⟨c, hc, rfl⟩ := List.mem_map.1 hx
    have := LM.out c hc
    have := HN.out.1
    omega)
  rw [cst_len, LL.out] at il
  rw [cst_len, LL.out]
  have IL : Hid (Sh.IsI v6 pl N (fun k => ((L.getD k 0 : Nat) : Int))) := il.congr (fun k _ => cst_get)
  have NL : Hid (∀ b o, pl = some ⟨b, o, none⟩ → b ≠ bw ∧ b ≠ bt) := fun b o e => by
    subst e
    have h := (o6.blk (k := b) rfl).1
    have h1 := RW5.out.lt
    have h2 := RT5.out.lt
    exact ⟨by omega, by omega⟩
  have A6 : Hid (Ab w v6) := A5.out.trans b6
  have Q6 := hid (Ab.heap b6 Q5.out)
  have RW6 := hid (rowIs.ab RW5.out b6)
  have RT6 := hid (rowIs.ab RT5.out b6)
  obtain ⟨qq, oq, rfl⟩ := IL.out.some0 HN.out.2
  have NQ := hid (NL.out qq oq rfl)
  have GW : Hid (gw ≠ bw ∧ gw ≠ bt) := by
    have h : gw < v3.heap.size := by
      have h := QA3.out
      rcases Nat.lt_or_ge gw v3.heap.size with h1 | h1
      · exact h1
      · rw [Array.getElem?_eq_none h1] at h; cases h
    have h2 := NE.out
    have h3 := BW4.out
    exact ⟨by omega, by omega⟩
  clear b6 o6 il NL x0 x1 x2 x3 x4 x5 RW4 RW5 RT5 Q4 Q5 A4 A5 QA1 QA2 QA3 A1 A2 A3 BW4 S3 R0 A0 FT BW BT OR
  go_wp2
  go_loopw [10] (fun iv wr => ∃ k : Nat, k ≤ N ∧ iv = .int .i64 (k : Nat) ∧ Ab w wr ∧ wr.heap[gw]? = v6.heap[gw]? ∧ wr.heap[qq]? = v6.heap[qq]? ∧ wr.rowIs bw 2 N (fun i => .int .i64 ((rvL dn sh (W, T) (L.take k)).1 i)) ∧ wr.rowIs bt 2 N (fun i => .int .i64 ((rvL dn sh (W, T) (L.take k)).2 i))) (fun iv _ => N - (intOf iv).toNat)
  case atStart => exact ⟨0, by omega, rfl, A6.out, rfl, rfl, RW6.out, RT6.out⟩
  case round =>
    obtain ⟨k, hk, rfl, ar1, hgw, hqq, rw1, rt1⟩ := hrel
    have AR := hid ar1
    have EG := hid hgw
    have EQ := hid hqq
    have RW := hid rw1
    have RT := hid rt1
    clear ar1 hgw hqq rw1 rt1 RW6 RT6
    by_cases hkn : k < N
    · have HK := hid hkn
      have kI : (k : Int) < N := by omega
      have kB : (k : Int) ≤ 6144 := by have := HN.out.1; omega
      obtain ⟨c, hc⟩ : ∃ c, L.getD k 0 = c := ⟨_, rfl⟩
      have kL : k < L.length := by have := LL.out; omega
      have ec : L[k] = c := by rw [← hc]; simp [List.getD, kL]
      have cN : c < N := LM.out c (by rw [← ec]; exact List.getElem_mem _)
      have NX : Hid (rvL dn sh (W, T) (L.take (k + 1)) = rv1 dn sh (rvL dn sh (W, T) (L.take k)) c) := by
        show _ = _
        rw [List.take_succ_eq_append_getElem kL, ec]
        unfold rvL
        rw [List.foldl_append]
        rfl
      have KO := rvL_ok (n := N) (dn := dn) (sh := sh) (X := (W, T)) (l := L.take k) OD.out (fun x hx => LM.out x (List.mem_of_mem_take hx)) OK.out
      obtain ⟨X, hX⟩ : ∃ X, rvL dn sh (W, T) (L.take k) = X := ⟨_, rfl⟩
      rw [hX] at RW RT KO NX
      have lc := (IL.out.at0 hkn).2.2
      rw [hc] at lc
      have y0 : wr.cell? ⟨qq, oq + k, none⟩ = some (.int .i64 (c : Nat)) := (World.cell?_of_block EQ.out).trans lc
      have CN := hid cN
      have cI : (c : Int) < N := by omega
      have cB : (c : Int) ≤ 6144 := by have := HN.out.1; omega
      have H6 : Hid (wr.heap[gw]? = some (.cells #[.slice pb N cb, .slice pw N cw, .slice pt N ct, .slice ps ls cs, .int .i64 sky, .int .i64 st] 25)) := EG.out.trans Q6.out
      have x0 := cell_of_row _ _ 0 _ _ _ H6.out
      obtain ⟨x, hx⟩ : ∃ x, X.1 c = x := ⟨_, rfl⟩
      obtain ⟨tt, htt⟩ : ∃ x, X.2 c = x := ⟨_, rfl⟩
      have xb := KO.1.1.b cN
      have tb := KO.1.2.b cN
      rw [hx] at xb
      rw [htt] at tb
      have xb1 := xb.1
      have xb2 := xb.2
      have tb1 := tb.1
      have tb2 := tb.2
      have HX := hid hx
      have HT := hid htt
      have XW : Hid (∀ v, Ab wr v → v.cell? ⟨bw, c, none⟩ = some (.int .i64 x) ∧ v.cell? ⟨bt, c, none⟩ = some (.int .i64 tt)) := fun v a => by
        have h1 := (rowIs.ab RW.out a).cell cN
        have h2 := (rowIs.ab RT.out a).cell cN
        rw [hx] at h1
        rw [htt] at h2
        exact ⟨h1, h2⟩
      obtain ⟨d, hd⟩ : ∃ d, dn c = d := ⟨_, rfl⟩
      have CD := hid (DW.out wr c AR.out cN)
      rw [hd] at CD
      have HD := hid hd
      have KOH := hid KO
      clear hX hc kL ec cN hx htt xb tb hd KO lc hkn hk
      go_wp2_with fail
      refine CD.out.mono ?_
      rintro e9 v7 ⟨rfl, b7⟩
      have A7 : Hid (Ab wr v7) := b7
      clear b7 CD x0 y0
      have HQ2 : Hid (qq < wr.heap.size) := by
        have h := EQ.out
        have h2 := (IL.out.at0 HK.out).2.1
        show qq < wr.heap.size
        rcases Nat.lt_or_ge qq wr.heap.size with h1 | h1
        · exact h1
        · rw [Array.getElem?_eq_none h1, Array.getElem?_eq_getElem h2] at h
          cases h
      by_cases f1 : d < 0
      · have e5 : decide (d < 0) = true := decide_eq_true f1
        go_upto_region 13 with fail
        obtain ⟨UU, E, hF1, hF2⟩ := cls v7
        have HU := hid hF2
        have HU1 := hid hF1
        have e1 : ∀ u, (E u).cell? ⟨bw, c, none⟩ = some (.int .i64 x) := fun u => (XW.out _ (A7.out.trans (hF1 u))).1
        have DD0 := HU.out _ (Ab.refl v7).drew
        clear hF1 hF2
        refine region_cls E (by kernel_rfl) (by kernel_rfl) DD0 ?_
        repeat (go_big_quiet_step (with_reducible rfl))
        refine wpQuiet_nil ?_
        intro v8 hwz
        obtain ⟨u0, hu⟩ := hwz
        have A8 : Hid (Ab v7 v8) := by rw [hu]; exact HU1.out u0
        clear hu u0
        clear HU HU1 DD0 e1
        clear E UU
        have NXX : Hid (rvL dn sh (W, T) (L.take (k + 1)) = X) := by
          show _ = _
          rw [NX.out]
          unfold rv1
          rw [if_pos (.inl (by rw [HD.out]; exact f1))]
        go_wp2
        exact ⟨⟨k + 1, by have := HK.out; omega, by simp, AR.out.trans (A7.out.trans A8.out), ((A7.out.trans A8.out).block _ (lt_of_get H6.out)).trans EG.out, ((A7.out.trans A8.out).block _ HQ2.out).trans EQ.out, by rw [NXX.out]; exact rowIs.ab RW.out (A7.out.trans A8.out), by rw [NXX.out]; exact rowIs.ab RT.out (A7.out.trans A8.out)⟩, by have := HK.out; simp [intOf]; omega⟩
      · have e5 : decide (d < 0) = false := decide_eq_false f1
        by_cases f2 : x ≤ 0
        · have e6 : decide (x ≤ 0) = true := decide_eq_true f2
          go_upto_region 13 with fail
          obtain ⟨UU, E, hF1, hF2⟩ := cls v7
          have HU := hid hF2
          have HU1 := hid hF1
          have e1 : ∀ u, (E u).cell? ⟨bw, c, none⟩ = some (.int .i64 x) := fun u => (XW.out _ (A7.out.trans (hF1 u))).1
          have DD0 := HU.out _ (Ab.refl v7).drew
          clear hF1 hF2
          refine region_cls E (by kernel_rfl) (by kernel_rfl) DD0 ?_
          repeat (go_big_quiet_step (with_reducible rfl))
          refine wpQuiet_nil ?_
          intro v8 hwz
          obtain ⟨u0, hu⟩ := hwz
          have A8 : Hid (Ab v7 v8) := by rw [hu]; exact HU1.out u0
          clear hu u0
          clear HU HU1 DD0 e1
          clear E UU
          have NXX : Hid (rvL dn sh (W, T) (L.take (k + 1)) = X) := by
            show _ = _
            rw [NX.out]
            unfold rv1
            rw [if_pos (.inr (.inl (by rw [HX.out]; exact f2)))]
          go_wp2
          exact ⟨⟨k + 1, by have := HK.out; omega, by simp, AR.out.trans (A7.out.trans A8.out), ((A7.out.trans A8.out).block _ (lt_of_get H6.out)).trans EG.out, ((A7.out.trans A8.out).block _ HQ2.out).trans EQ.out, by rw [NXX.out]; exact rowIs.ab RW.out (A7.out.trans A8.out), by rw [NXX.out]; exact rowIs.ab RT.out (A7.out.trans A8.out)⟩, by have := HK.out; simp [intOf]; omega⟩
        · have e6 : decide (x ≤ 0) = false := decide_eq_false f2
          obtain ⟨dq, rfl⟩ : ∃ q : Nat, d = (q : Nat) := ⟨d.toNat, by omega⟩
          have CA : Hid (∀ v, Ab v7 v → Calls Tryz.prog 39 #[.pointer (some ⟨rb, 0, none⟩), .int .i64 (c : Nat)] v fun e w' => e = .returned (.int .i64 (ar c)) ∧ Below v.heap.size v w') := fun v a => AR_.out v c (AR.out.trans (A7.out.trans a)) CN.out
          have CP : Hid (∀ v, Ab v7 v → Calls Tryz.prog 38 #[.int .i64 x, .int .i64 (ar c)] v fun e w' => e = .returned (.float .f64 (dpB x (ar c))) ∧ Below v.heap.size v w') := fun v a => DP.out v c x (AR.out.trans (A7.out.trans a)) CN.out (by omega) (by omega)
          have DHX := DH.out c x CN.out xb1 xb2
          obtain ⟨dv, hdv⟩ : ∃ z, dpB x (ar c) = z := ⟨_, rfl⟩
          rw [hdv] at CP DHX
          obtain ⟨av, hav⟩ : ∃ z, ar c = z := ⟨_, rfl⟩
          rw [hav] at CA CP
          have dvl := DHX.2
          have SH := hid DHX.1
          clear hdv hav DHX
          cases sq : flt dv 4602678819172646912 with
          | false =>
            go_upto_region 13 with fail
            obtain ⟨UU, E, hF1, hF2⟩ := cls v7
            have HU := hid hF2
            have HU1 := hid hF1
            have e1 : ∀ u, (E u).cell? ⟨bw, c, none⟩ = some (.int .i64 x) := fun u => (XW.out _ (A7.out.trans (hF1 u))).1
            have DD0 := HU.out _ (Ab.refl v7).drew
            clear hF1 hF2
            refine region_cls E (by kernel_rfl) (by kernel_rfl) DD0 ?_
            repeat (go_big_quiet_step (first | (go_at_call 39; exact calls_cls HU HU1 (CA.out _ (HU1.out _))) | (go_at_call 38; exact calls_cls HU HU1 (CP.out _ (HU1.out _))) | (with_reducible rfl)))
            refine wpQuiet_nil ?_
            intro v8 hwz
            obtain ⟨u0, hu⟩ := hwz
            have A8 : Hid (Ab v7 v8) := by rw [hu]; exact HU1.out u0
            clear hu u0
            clear HU HU1 DD0 e1
            clear E UU
            have NXX : Hid (rvL dn sh (W, T) (L.take (k + 1)) = X) := by
              show _ = _
              rw [NX.out]
              unfold rv1
              rw [if_pos (.inr (.inr (by rw [HX.out, SH.out]; exact sq)))]
            go_wp2
            exact ⟨⟨k + 1, by have := HK.out; omega, by simp, AR.out.trans (A7.out.trans A8.out), ((A7.out.trans A8.out).block _ (lt_of_get H6.out)).trans EG.out, ((A7.out.trans A8.out).block _ HQ2.out).trans EQ.out, by rw [NXX.out]; exact rowIs.ab RW.out (A7.out.trans A8.out), by rw [NXX.out]; exact rowIs.ab RT.out (A7.out.trans A8.out)⟩, by have := HK.out; simp [intOf]; omega⟩
          | true =>
            have OP := OD.out c CN.out (by rw [HD.out]; omega)
            rw [HD.out, Int.toNat_natCast] at OP
            have dN := OP.1
            have dc := OP.2
            obtain ⟨m, hm⟩ : ∃ m, gvW x = m := ⟨_, rfl⟩
            have mq : x.tdiv 4 = m := by rw [← hm]; unfold gvW; exact Int.tdiv_eq_ediv_of_nonneg (by omega)
            obtain ⟨p, hp⟩ : ∃ p, Sh.part tt m x = p := ⟨_, rfl⟩
            have gi := gv_in (x := x) (t := tt) (by omega) ⟨tb1, tb2⟩
            rw [hm, hp] at gi
            have m1 := gi.1.1
            have m2 := gi.1.2
            have p1 := gi.2.1
            have p2 := gi.2.2
            obtain ⟨xd, hxd⟩ : ∃ z, X.1 dq = z := ⟨_, rfl⟩
            obtain ⟨td, htd⟩ : ∃ z, X.2 dq = z := ⟨_, rfl⟩
            have xdb := KOH.out.1.1.b dN
            have tdb := KOH.out.1.2.b dN
            rw [hxd] at xdb
            rw [htd] at tdb
            have xd1 := xdb.1
            have xd2 := xdb.2
            have td1 := tdb.1
            have td2 := tdb.2
            have CT : Hid (∀ v, Calls Tryz.prog 40 #[.int .i64 tt, .int .i64 m, .int .i64 x] v fun e w' => e = .returned (.int .i64 p) ∧ Below v.heap.size v w') := fun v => by
              rw [← hp]
              exact (Sh.rpart_at tt m x v (by unfold Sh.W64; omega) (by unfold Sh.W64; omega) (by unfold Sh.W64; omega)).mono fun _ _ h => ⟨h.1, by rw [h.2]; exact Below.refl _ _⟩
            have NXX : Hid ((∀ i, (rvL dn sh (W, T) (L.take (k + 1))).1 i = if i = dq then xd + m else if i = c then x - m else X.1 i) ∧ ∀ i, (rvL dn sh (W, T) (L.take (k + 1))).2 i = if i = dq then td + p else if i = c then tt - p else X.2 i) := by
              rw [NX.out]
              unfold rv1
              rw [if_neg (by
                rw [HD.out, HX.out, SH.out]
                intro q
                rcases q with q | q | q
                · omega
                · omega
                · rw [sq] at q; cases q), HD.out, Int.toNat_natCast, HX.out, HT.out, hm, hp]
              refine ⟨fun i => ?_, fun i => ?_⟩
              · dsimp only
                by_cases e : i = dq
                · rw [if_pos e, if_pos e, e, hxd]
                · rw [if_neg e, if_neg e]
              · dsimp only
                by_cases e : i = dq
                · rw [if_pos e, if_pos e, e, htd]
                · rw [if_neg e, if_neg e]
            have HXD := hid (And.intro hxd htd)
            have DN := hid dN
            have DC := hid dc
            have dI : (dq : Int) < N := by omega
            have dB : (dq : Int) ≤ 6144 := by have := HN.out.1; omega
            have sq2 := hid sq
            clear hm hp gi hxd htd xdb tdb dN dc OP
            go_upto_region 13 with fail
            obtain ⟨UU, E, hF1, hF2⟩ := cls v7
            have HU := hid hF2
            have HU1 := hid hF1
            have e1 : ∀ u, (E u).cell? ⟨bw, c, none⟩ = some (.int .i64 x) := fun u => (XW.out _ (A7.out.trans (hF1 u))).1
            have DD0 := HU.out _ (Ab.refl v7).drew
            clear hF1 hF2
            refine region_cls E (by kernel_rfl) (by kernel_rfl) DD0 ?_
            repeat (go_big_quiet_step (first | (go_at_call 39; exact calls_cls HU HU1 (CA.out _ (HU1.out _))) | (go_at_call 38; exact calls_cls HU HU1 (CP.out _ (HU1.out _))) | (with_reducible rfl)))
            refine wpQuiet_nil ?_
            intro v8 hwz
            obtain ⟨u0, hu⟩ := hwz
            have A8 : Hid (Ab v7 v8) := by rw [hu]; exact HU1.out u0
            clear hu u0
            clear HU HU1 DD0 e1
            clear E UU
            have z1 := (XW.out _ (A7.out.trans A8.out)).1
            go_upto_region 15 with fail
            obtain ⟨UU, E, hF1, hF2⟩ := cls v8
            have HU := hid hF2
            have HU1 := hid hF1
            have e1 : ∀ u, (E u).cell? ⟨bw, c, none⟩ = some (.int .i64 x) := fun u => (XW.out _ (A7.out.trans (A8.out.trans (hF1 u)))).1
            have e2 : ∀ u, (E u).cell? ⟨bt, c, none⟩ = some (.int .i64 tt) := fun u => (XW.out _ (A7.out.trans (A8.out.trans (hF1 u)))).2
            have DD0 := HU.out _ (Ab.refl v8).drew
            clear hF1 hF2
            refine region_cls E (by kernel_rfl) (by kernel_rfl) DD0 ?_
            repeat (go_big_quiet_step (first | (go_at_call 40; exact calls_cls HU HU1 (CT.out _)) | (with_reducible rfl)))
            refine wpQuiet_nil ?_
            intro v9 hwz
            obtain ⟨u0, hu⟩ := hwz
            have A9 : Hid (Ab v8 v9) := by rw [hu]; exact HU1.out u0
            clear hu u0
            clear HU HU1 DD0 e1 e2
            clear E UU
            clear z1
            have A79 : Hid (Ab wr v9) := A7.out.trans (A8.out.trans A9.out)
            have RW9 := hid (rowIs.ab RW.out A79.out)
            have RT9 := hid (rowIs.ab RT.out A79.out)
            have q1 := (XW.out _ A79.out).1
            have f1 := RW9.out.frozen c
            go_upto_region 17 with fail
            have RWa := hid (RW9.out.set c (.int .i64 (x - m)))
            have RTa := hid (RT9.out.setOther (a := ⟨bw, c, none⟩) (by have := NE.out; intro e; have e2 : bt = bw := e; omega) (.int .i64 (x - m)))
            have Ga : Hid ((v9.setCell ⟨bw, c, none⟩ (.int .i64 (x - m))).heap[gw]? = v6.heap[gw]? ∧ (v9.setCell ⟨bw, c, none⟩ (.int .i64 (x - m))).heap[qq]? = v6.heap[qq]?) := ⟨(Below.heap_setCell _ _ _ _ GW.out.1).trans ((A79.out.block _ (lt_of_get H6.out)).trans EG.out), (Below.heap_setCell _ _ _ _ NQ.out.1).trans ((A79.out.block _ HQ2.out).trans EQ.out)⟩
            have Aa : Hid (Ab w (v9.setCell ⟨bw, c, none⟩ (.int .i64 (x - m)))) := (AR.out.trans A79.out).setk NE.out.2 _
            generalize World.setCell v9 _ _ = va at *
            have q2 := RWa.out.cell (i := dq) DN.out
            rw [if_neg DC.out, HXD.out.1] at q2
            have f2 := RWa.out.frozen dq
            clear q1 f1
            go_upto_region 18 with fail
            have RWb := hid (RWa.out.set dq (.int .i64 (xd + m)))
            have RTb := hid (RTa.out.setOther (a := ⟨bw, dq, none⟩) (by have := NE.out; intro e; have e2 : bt = bw := e; omega) (.int .i64 (xd + m)))
            have Gb : Hid ((va.setCell ⟨bw, dq, none⟩ (.int .i64 (xd + m))).heap[gw]? = v6.heap[gw]? ∧ (va.setCell ⟨bw, dq, none⟩ (.int .i64 (xd + m))).heap[qq]? = v6.heap[qq]?) := ⟨(Below.heap_setCell _ _ _ _ GW.out.1).trans Ga.out.1, (Below.heap_setCell _ _ _ _ NQ.out.1).trans Ga.out.2⟩
            have Ab_ : Hid (Ab w (va.setCell ⟨bw, dq, none⟩ (.int .i64 (xd + m)))) := Aa.out.setk NE.out.2 _
            generalize World.setCell va _ _ = vb at *
            have q3 := RTb.out.cell (i := c) CN.out
            rw [HT.out] at q3
            have f3 := RTb.out.frozen c
            clear q2 f2
            go_upto_region 19 with fail
            have RWc := hid (RWb.out.setOther (a := ⟨bt, c, none⟩) (by have := NE.out; intro e; have e2 : bw = bt := e; omega) (.int .i64 (tt - p)))
            have RTc := hid (RTb.out.set c (.int .i64 (tt - p)))
            have Gc : Hid ((vb.setCell ⟨bt, c, none⟩ (.int .i64 (tt - p))).heap[gw]? = v6.heap[gw]? ∧ (vb.setCell ⟨bt, c, none⟩ (.int .i64 (tt - p))).heap[qq]? = v6.heap[qq]?) := ⟨(Below.heap_setCell _ _ _ _ GW.out.2).trans Gb.out.1, (Below.heap_setCell _ _ _ _ NQ.out.2).trans Gb.out.2⟩
            have Ac : Hid (Ab w (vb.setCell ⟨bt, c, none⟩ (.int .i64 (tt - p)))) := Ab_.out.setk (by have := NE.out; omega) _
            generalize World.setCell vb _ _ = vc at *
            have q4 := RTc.out.cell (i := dq) DN.out
            rw [if_neg DC.out, HXD.out.2] at q4
            have f4 := RTc.out.frozen dq
            clear q3 f3
            go_wp2
            refine ⟨⟨k + 1, by have := HK.out; omega, by simp, Ac.out.setk (by have := NE.out; omega) _, (Below.heap_setCell _ _ _ _ GW.out.2).trans Gc.out.1, (Below.heap_setCell _ _ _ _ NQ.out.2).trans Gc.out.2, (RWc.out.setOther (a := ⟨bt, dq, none⟩) (by have := NE.out; intro e; have e2 : bw = bt := e; omega) _).congr (fun i _ => ?_), (RTc.out.set dq _).congr (fun i _ => ?_)⟩, by have := HK.out; simp [intOf]; omega⟩
            · rw [NXX.out.1 i]
              by_cases e1 : i = dq
              · rw [if_pos e1, if_pos e1]
              · rw [if_neg e1, if_neg e1]
                by_cases e2 : i = c
                · rw [if_pos e2, if_pos e2]
                · rw [if_neg e2, if_neg e2]
            · rw [NXX.out.2 i]
              by_cases e1 : i = dq
              · rw [if_pos e1, if_pos e1]
              · rw [if_neg e1, if_neg e1]
                by_cases e2 : i = c
                · rw [if_pos e2, if_pos e2]
                · rw [if_neg e2, if_neg e2]
    · have e6 : N = k := by omega
      subst e6
      have TL : Hid (L.take N = L) := List.take_of_length_le (by have := LL.out; omega)
      rw [TL.out] at RW RT
      go_wp2
      go_ret3
      exact ⟨_, _, rfl, AR.out, row_own19 RW.out NE.out.2 (Nat.le_refl _) (by unfold maxLen; have := HN.out.1; omega) (fun i _ => rfl), row_own19 RT.out (by have := NE.out; omega) (Nat.le_refl _) (by unfold maxLen; have := HN.out.1; omega) (fun i _ => rfl)⟩
/-- WHAT THE REFERENCE'S Run ANSWERS -/
theorem rrun_at (n rb : Nat) (pb : Option Addr) (lb cb : Nat) (pw : Option Addr) (lw cw : Nat) (pt : Option Addr) (lt ct : Nat) (ps : Option Addr) (ls cs : Nat) (sky st : Int) (B : Nat → Nat) (W T : Nat → Int) (w : World) (hn : 1 ≤ n ∧ n ≤ 32) (g : RefOf n rb w) (ib : IsFl w pb lb B) (iw : Sh.IsI w pw lw W) (it : Sh.IsI w pt lt T) :
    (good19 n lb lw lt ls W T → Calls Tryz.prog 9 #[.pointer (some ⟨rb, 0, none⟩), .agg #[.slice pb lb cb, .slice pw lw cw, .slice pt lt ct, .slice ps ls cs, .int .i64 sky, .int .i64 st]] w fun e w' => ∃ v u, e = .returned (.tuple #[v, u, .int .i64 0]) ∧ Below w.heap.size w w' ∧ Sh.Own w.heap.size v ((List.range (6 * n * n)).map (runR n B W T).1) w' ∧ Sh.Own w.heap.size u ((List.range (6 * n * n)).map (runR n B W T).2) w') ∧
    (¬ good19 n lb lw lt ls W T → Calls Tryz.prog 9 #[.pointer (some ⟨rb, 0, none⟩), .agg #[.slice pb lb cb, .slice pw lw cw, .slice pt lt ct, .slice ps ls cs, .int .i64 sky, .int .i64 st]] w fun e w' => e = .returned (.tuple #[.slice none 0 0, .slice none 0 0, .int .i64 1]) ∧ Below w.heap.size w w') := by
  have nb : 6 * n * n ≤ 6144 := by
    have h1 : n * n ≤ 32 * 32 := Nat.mul_le_mul hn.2 hn.2
    rw [Nat.mul_assoc]
    omega
  have n0 : 0 < 6 * n * n := by
    have p1 : 0 < n * n := Nat.mul_pos (by omega) (by omega)
    rw [Nat.mul_assoc]
    omega
  have FT := fun (q : Bool) (hq : q = true ↔ (lb = 6 * n * n ∧ lw = 6 * n * n ∧ lt = 6 * n * n ∧ ls = 12 * n * n)) (v : World) (a : Ab w v) => rfits19 pb pw pt ps lb cb lw cw lt ct ls cs sky st q v hn (g.to a) hq
  by_cases hf : lb = 6 * n * n ∧ lw = 6 * n * n ∧ lt = 6 * n * n ∧ ls = 12 * n * n
  · have ft := FT true ⟨fun _ => hf, fun _ => rfl⟩
    obtain ⟨rfl, rfl, rfl, h4⟩ := hf
    by_cases h1 : okV (6 * n * n) W
    · by_cases h2 : okV (6 * n * n) T
      · have gd : good19 n (6 * n * n) (6 * n * n) (6 * n * n) ls W T := ⟨⟨rfl, rfl, rfl, h4⟩, h1, h2⟩
        refine ⟨fun _ => ?_, fun q => absurd gd q⟩
        exact rrun_go rb (6 * n * n) pb cb pw cw pt ct ps ls cs sky st W T (dnR n B) (shR n) (arC n) (ordL (kB B) (6 * n * n)) w nb n0 iw it ft (fun v a => rbounded_yes pw _ cw W v nb (iw.below a) h1) (fun v a => rbounded_yes pt _ ct T v nb (it.below a) h2)
          (fun v a => rorder_at pb _ cb B v (by omega) (ib.below a))
          (fun v c a hc => (rdown_at n rb pb _ cb B c v hn (g.to a) (ib.below a)).mono fun e w' h => ⟨by rw [h.1, if_pos ⟨rfl, by omega, by omega⟩, Int.toNat_natCast], h.2⟩)
          (fun v c a hc => rArea_at (fun u => rarea_ok n c u hn hc) (g.to a))
          (fun v c x a hc h0 hx => (rdepth_at11 x (arC n c) v (by omega) (arC_in n c).2).mono fun e w' h => ⟨h.1, by obtain ⟨k, hk⟩ := h.2; rw [hk]; exact Ab.drewN (Ab.refl v) k⟩)
          (fun c x hc h0 hx => ⟨rfl, by have := dp_le (w := x) (a := arC n c) (by omega) (arC_in n c).2; omega⟩)
          (okD_R hn.1) (fun c hc => ordL_mem.1 hc) (ordL_len _ _) ⟨h1, h2⟩
      · refine ⟨fun q => absurd q.2.2 h2, fun _ => ?_⟩
        exact rrun_no2 rb pb _ cb pw _ cw pt _ ct ps ls cs sky st w ft (fun v a => rbounded_yes pw _ cw W v nb (iw.below a) h1) (fun v a => rbounded_no pt _ ct T v nb (it.below a) h2)
    · refine ⟨fun q => absurd q.2.1 h1, fun _ => ?_⟩
      exact rrun_no1 rb pb _ cb pw _ cw pt _ ct ps ls cs sky st w ft (fun v a => rbounded_no pw _ cw W v nb (iw.below a) h1)
  · refine ⟨fun q => absurd q.1 hf, fun _ => ?_⟩
    exact rrun_no0 rb pb lb cb pw lw cw pt lt ct ps ls cs sky st w (FT false ⟨fun q => absurd q (by decide), fun q => absurd q hf⟩)
end Rv
end Go.Proofs.YtbibhgikmnpbfaaGreatDoor
