/-
  Some of the texts of this proof, one behind the other.
-/
import Derived.Deep.QuietTactic
import Derived.StillTail
import Derived.Test.YtalbgnhocbgapaaGreatDoorB11
namespace Go.Proofs.YtalbgnhocbgapaaGreatDoor
open Go.RowKit Go.Deep
namespace Sh
set_option maxRecDepth 100000 in
set_option maxHeartbeats 8000000 in
theorem rcut_neg (W : Int) (p : Option Addr) (n cp : Nat) (w : World) (hW : W < 0) :
    Calls Tryz.prog 19 #[.int .i64 W, .slice p n cp] w fun e w' => e = .returned (.tuple #[.slice none 0 0, .int .i64 1]) ∧ w' = w := by
  have d0 : decide (W < 0) = true := decide_eq_true hW
  go_enter Tryz.func19, Tryz.ntmps19
  go_wp2
  go_ret2
  exact ⟨rfl, rfl⟩
set_option maxRecDepth 100000 in
set_option maxHeartbeats 8000000 in
theorem rcut_no (W : Int) (p : Option Addr) (n cp : Nat) (f : Nat → Int) (w : World) (hW : 0 ≤ W) (hn : n ≤ 65536) (hf : IsI w p n f) (HB : Hid (¬ good W n f)) :
    Calls Tryz.prog 19 #[.int .i64 W, .slice p n cp] w fun e w' => e = .returned (.tuple #[.slice none 0 0, .int .i64 1]) ∧ w' = w := by
  have HF := hid hf
  have HN := hid hn
  clear hf hn
  have d0 : decide (W < 0) = false := decide_eq_false (by omega)
  go_enter Tryz.func19, Tryz.ntmps19
  go_wp2
  go_loopw [6, 7] (fun sv iv wr => ∃ c : Nat, c ≤ n ∧ iv = .int .i64 (c : Nat) ∧ sv = .int .i64 (sumN f c) ∧ (∀ i, i < c → 0 ≤ f i) ∧ sumN f c ≤ 9223372036854775807 ∧ wr = w) (fun _ iv _ => n - (intOf iv).toNat)
  case atStart => exact ⟨0, by omega, rfl, rfl, fun i hi => absurd hi (Nat.not_lt_zero i), by show (0 : Int) ≤ _; omega, rfl⟩
  case round =>
    obtain ⟨c, hc, rfl, rfl, g1, g2, hwr⟩ := hrel
    have hwr2 := hwr.symm
    subst hwr2
    have G1 := hid g1
    have HC := hid hc
    have s0 := sumN_nn g1
    obtain ⟨s, hs⟩ : ∃ s, sumN f c = s := ⟨_, rfl⟩
    have SE := hid hs
    rw [hs] at s0 g2 ⊢
    clear g1 hs
    by_cases hcn : c < n
    · have HC2 := hid hcn
      have hcI : (c : Int) < n := by omega
      have hcB : (c : Int) ≤ 65536 := by have := HN.out; omega
      obtain ⟨b0, o0, rfl⟩ := HF.out.some0 (show 0 < n by omega)
      obtain ⟨x, hx⟩ : ∃ x, f c = x := ⟨_, rfl⟩
      have at0 := HF.out.at0 hcn
      rw [hx] at at0
      have xc := at0.2.2
      have x1 := at0.1.1
      have x2 := at0.1.2
      have XE := hid hx
      clear at0 hx hcn hc
      have NX : Hid (0 ≤ x → s + x ≤ 9223372036854775807 → ∃ c' : Nat, c' ≤ n ∧ Value.int .i64 (↑c + 1) = .int .i64 (c' : Nat) ∧ Value.int .i64 (s + x) = .int .i64 (sumN f c') ∧ (∀ i, i < c' → 0 ≤ f i) ∧ sumN f c' ≤ 9223372036854775807 ∧ True) := fun q1 q2 => by
        have e : sumN f (c + 1) = s + x := by show sumN f c + f c = _; rw [SE.out, XE.out]
        refine ⟨c + 1, by have := HC2.out; omega, by simp, by rw [e], fun i hi => ?_, by rw [e]; exact q2, trivial⟩
        by_cases l : i < c
        · exact G1.out i l
        · obtain rfl : i = c := by omega
          rw [XE.out]; exact q1
      by_cases q0 : x < 0
      · have d1 : decide (x < 0) = true := decide_eq_true q0
        go_wp2
        go_ret2
        exact ⟨rfl, by first | trivial | rfl⟩
      · have d1 : decide (x < 0) = false := decide_eq_false q0
        by_cases q1 : 9223372036854775807 - s < x
        · have d2 : decide (9223372036854775807 - s < x) = true := decide_eq_true q1
          go_wp2
          go_ret2
          exact ⟨rfl, by first | trivial | rfl⟩
        · have d2 : decide (9223372036854775807 - s < x) = false := decide_eq_false q1
          go_wp2
          exact ⟨NX.out (by omega) (by omega), by have := HC2.out; simp [intOf]; omega⟩
    · have e6 : n = c := by omega
      subst e6
      exact absurd ⟨hW, G1.out, by rw [SE.out]; exact g2⟩ HB.out
set_option maxRecDepth 100000 in
set_option maxHeartbeats 8000000 in
theorem rcut_all (W : Int) (p : Option Addr) (n cp : Nat) (f : Nat → Int) (w : World) (hW : 0 ≤ W) (hn : n ≤ 65536) (hf : IsI w p n f) (HG : Hid ((∀ i, i < n → 0 ≤ f i) ∧ sumN f n ≤ 9223372036854775807)) (HQ : Hid (decide (W < sumN f n) = false)) :
    Calls Tryz.prog 19 #[.int .i64 W, .slice p n cp] w fun e w' => ∃ v, e = .returned (.tuple #[v, .int .i64 0]) ∧ Below w.heap.size w w' ∧ Own w.heap.size v (cutL W n f) w' := by
  have HF := hid hf
  have HN := hid hn
  clear hf hn
  have d0 : decide (W < 0) = false := decide_eq_false (by omega)
  go_enter Tryz.func19, Tryz.ntmps19
  go_wp2
  go_loopw [6, 7] (fun sv iv wr => ∃ c : Nat, c ≤ n ∧ iv = .int .i64 (c : Nat) ∧ sv = .int .i64 (sumN f c) ∧ (∀ i, i < c → 0 ≤ f i) ∧ sumN f c ≤ 9223372036854775807 ∧ wr = w) (fun _ iv _ => n - (intOf iv).toNat)
  case atStart => exact ⟨0, by omega, rfl, rfl, fun i hi => absurd hi (Nat.not_lt_zero i), by show (0 : Int) ≤ _; omega, rfl⟩
  case round =>
    obtain ⟨c, hc, rfl, rfl, g1, g2, hwr⟩ := hrel
    have hwr2 := hwr.symm
    subst hwr2
    have G1 := hid g1
    have HC := hid hc
    have s0 := sumN_nn g1
    obtain ⟨s, hs⟩ : ∃ s, sumN f c = s := ⟨_, rfl⟩
    have SE := hid hs
    rw [hs] at s0 g2 ⊢
    clear g1 hs
    by_cases hcn : c < n
    · have HC2 := hid hcn
      have hcI : (c : Int) < n := by omega
      have hcB : (c : Int) ≤ 65536 := by have := HN.out; omega
      obtain ⟨b0, o0, rfl⟩ := HF.out.some0 (show 0 < n by omega)
      obtain ⟨x, hx⟩ : ∃ x, f c = x := ⟨_, rfl⟩
      have at0 := HF.out.at0 hcn
      rw [hx] at at0
      have xc := at0.2.2
      have x1 := at0.1.1
      have x2 := at0.1.2
      have XE := hid hx
      clear at0 hx hcn hc
      have NX : Hid (0 ≤ x → s + x ≤ 9223372036854775807 → ∃ c' : Nat, c' ≤ n ∧ Value.int .i64 (↑c + 1) = .int .i64 (c' : Nat) ∧ Value.int .i64 (s + x) = .int .i64 (sumN f c') ∧ (∀ i, i < c' → 0 ≤ f i) ∧ sumN f c' ≤ 9223372036854775807 ∧ True) := fun q1 q2 => by
        have e : sumN f (c + 1) = s + x := by show sumN f c + f c = _; rw [SE.out, XE.out]
        refine ⟨c + 1, by have := HC2.out; omega, by simp, by rw [e], fun i hi => ?_, by rw [e]; exact q2, trivial⟩
        by_cases l : i < c
        · exact G1.out i l
        · obtain rfl : i = c := by omega
          rw [XE.out]; exact q1
      have q0 : 0 ≤ x := by rw [← XE.out]; exact HG.out.1 c HC2.out
      have q1 : s + x ≤ 9223372036854775807 := by
        have m := sumN_mono HG.out.1 (m := c + 1) (by have := HC2.out; omega)
        have e : sumN f (c + 1) = s + x := by show sumN f c + f c = _; rw [SE.out, XE.out]
        have := HG.out.2
        omega
      have d1 : decide (x < 0) = false := decide_eq_false (by omega)
      have d2 : decide (9223372036854775807 - s < x) = false := decide_eq_false (by omega)
      go_wp2
      exact ⟨NX.out (by omega) (by omega), by have := HC2.out; simp [intOf]; omega⟩
    · have e6 : n = c := by omega
      subst e6
      have g3 : decide (W < s) = false := by rw [← SE.out]; exact HQ.out
      have o0 := hid (own_new w w.heap.size (Nat.le_refl _))
      have B0 := hid (bl1 w (.cells #[] 2))
      go_upto_region 12 with fail
      generalize hV : World.alloc w _ = V at *
      obtain ⟨gq, hgq⟩ : ∃ g, w.heap.size = g := ⟨_, rfl⟩
      go_loopw [8, 9] (fun ov iv wr => ∃ c : Nat, c ≤ n ∧ iv = .int .i64 (c : Nat) ∧ Own w.heap.size ov ((List.range c).map (fun i => cut1 W (sumN f n) (f i))) wr ∧ Ab w wr) (fun _ iv _ => n - (intOf iv).toNat)
      case atStart => exact ⟨0, by omega, rfl, o0.out, B0.out⟩
      case round =>
        obtain ⟨c, hc, rfl, ow, ar⟩ := hrel
        have OX := hid ow
        have AR := hid ar
        clear ow ar o0 B0 hgq hV
        by_cases hcn : c < n
        · have HC2 := hid hcn
          have hcI : (c : Int) < n := by omega
          have hcB : (c : Int) ≤ 65536 := by have := HN.out; omega
          obtain ⟨b0, o0, rfl⟩ := HF.out.some0 (show 0 < n by omega)
          obtain ⟨x, hx⟩ : ∃ x, f c = x := ⟨_, rfl⟩
          obtain ⟨y, hy⟩ : ∃ y, cut1 W s x = y := ⟨_, rfl⟩
          have at0 := HF.out.at0 hcn
          rw [hx] at at0
          have xc : wr.cell? ⟨b0, o0 + c, none⟩ = some (.int .i64 x) := (Below.cell AR.out at0.2.1).trans at0.2.2
          have XW : Hid (W64 x) := at0.1
          have YE : Hid (cut1 W (sumN f n) (f c) = y) := by show _ = _; rw [SE.out, hx]; exact hy
          have YH := hid hy
          clear at0 hx hcn hc hy
          have PE : x = y := by
            have h := YH.out
            unfold cut1 at h
            rwa [if_neg (of_decide_eq_false g3)] at h
          subst PE
          have N1 : Hid (∀ j u, (([x] : List Int).map (Value.int .i64))[j]? = some u → (wr.alloc (.cells #[.int .i64 x] 2)).cell? ((⟨wr.heap.size, 0, none⟩ : Addr).add j) = some u) := World.news_of_block (cs := #[.int .i64 x]) (t := 2) (fr := (0, 0)) (heap_alloc_new wr _)
          have O2 := hid (Own.alloc OX.out (.cells #[.int .i64 x] 2))
          have LS : Hid (w.heap.size ≤ (wr.alloc (.cells #[.int .i64 x] 2)).heap.size) := Nat.le_trans AR.out.size (by simp)
          have LE : Hid (((List.range c).map (fun i => cut1 W (sumN f n) (f i))).length = c) := by show _ = _; simp
          go_wp2_with (first
            | (at_builtin; refine wpList_app rfl (.tmp 57) (.tmp 59) rfl w.heap.size _ _ rfl O2.out ⟨wr.heap.size, 0, none⟩ 1 1 [x] rfl rfl N1.out (by decide) (by have := LE.out; have := HC2.out; have := HN.out; omega) LS.out (c + 1) (by rw [LE.out]) ?_; intro g1 c1 w1 o1 x1 y1 _; have O1 := hid o1; have X1 := hid x1; clear o1 x1 y1))
          refine ⟨⟨c + 1, by have := HC2.out; omega, by simp, ?_, ?_⟩, by have := HC2.out; simp [intOf]; omega⟩
          · rw [List.range_succ, List.map_append]
            have h := O1.out
            simp only [List.map_cons, List.map_nil, YE.out]
            exact h
          · exact Below.grown (Ab.trans AR.out (bl1 wr _) : Below _ _ _) X1.out LS.out (fun k hk => (World.ownsRow.lt OX.out k hk).1)
        · have e6 : n = c := by omega
          subst e6
          go_wp2
          go_ret2
          exact ⟨_, rfl, AR.out, OX.out⟩
set_option maxRecDepth 100000 in
set_option maxHeartbeats 8000000 in
theorem rcut_over (W : Int) (p : Option Addr) (n cp : Nat) (f : Nat → Int) (w : World) (hW : 0 ≤ W) (HW : Hid (W64 W)) (hn : n ≤ 65536) (hf : IsI w p n f) (HG : Hid ((∀ i, i < n → 0 ≤ f i) ∧ sumN f n ≤ 9223372036854775807)) (HQ : Hid (decide (W < sumN f n) = true)) :
    Calls Tryz.prog 19 #[.int .i64 W, .slice p n cp] w fun e w' => ∃ v, e = .returned (.tuple #[v, .int .i64 0]) ∧ Below w.heap.size w w' ∧ Own w.heap.size v (cutL W n f) w' := by
  have HS2 : Hid (W64 (sumN f n)) := ⟨by have := sumN_nn HG.out.1; omega, HG.out.2⟩
  have HF := hid hf
  have HN := hid hn
  clear hf hn
  have d0 : decide (W < 0) = false := decide_eq_false (by omega)
  go_enter Tryz.func19, Tryz.ntmps19
  go_wp2
  go_loopw [6, 7] (fun sv iv wr => ∃ c : Nat, c ≤ n ∧ iv = .int .i64 (c : Nat) ∧ sv = .int .i64 (sumN f c) ∧ (∀ i, i < c → 0 ≤ f i) ∧ sumN f c ≤ 9223372036854775807 ∧ wr = w) (fun _ iv _ => n - (intOf iv).toNat)
  case atStart => exact ⟨0, by omega, rfl, rfl, fun i hi => absurd hi (Nat.not_lt_zero i), by show (0 : Int) ≤ _; omega, rfl⟩
  case round =>
    obtain ⟨c, hc, rfl, rfl, g1, g2, hwr⟩ := hrel
    have hwr2 := hwr.symm
    subst hwr2
    have G1 := hid g1
    have HC := hid hc
    have s0 := sumN_nn g1
    obtain ⟨s, hs⟩ : ∃ s, sumN f c = s := ⟨_, rfl⟩
    have SE := hid hs
    rw [hs] at s0 g2 ⊢
    clear g1 hs
    by_cases hcn : c < n
    · have HC2 := hid hcn
      have hcI : (c : Int) < n := by omega
      have hcB : (c : Int) ≤ 65536 := by have := HN.out; omega
      obtain ⟨b0, o0, rfl⟩ := HF.out.some0 (show 0 < n by omega)
      obtain ⟨x, hx⟩ : ∃ x, f c = x := ⟨_, rfl⟩
      have at0 := HF.out.at0 hcn
      rw [hx] at at0
      have xc := at0.2.2
      have x1 := at0.1.1
      have x2 := at0.1.2
      have XE := hid hx
      clear at0 hx hcn hc
      have NX : Hid (0 ≤ x → s + x ≤ 9223372036854775807 → ∃ c' : Nat, c' ≤ n ∧ Value.int .i64 (↑c + 1) = .int .i64 (c' : Nat) ∧ Value.int .i64 (s + x) = .int .i64 (sumN f c') ∧ (∀ i, i < c' → 0 ≤ f i) ∧ sumN f c' ≤ 9223372036854775807 ∧ True) := fun q1 q2 => by
        have e : sumN f (c + 1) = s + x := by show sumN f c + f c = _; rw [SE.out, XE.out]
        refine ⟨c + 1, by have := HC2.out; omega, by simp, by rw [e], fun i hi => ?_, by rw [e]; exact q2, trivial⟩
        by_cases l : i < c
        · exact G1.out i l
        · obtain rfl : i = c := by omega
          rw [XE.out]; exact q1
      have q0 : 0 ≤ x := by rw [← XE.out]; exact HG.out.1 c HC2.out
      have q1 : s + x ≤ 9223372036854775807 := by
        have m := sumN_mono HG.out.1 (m := c + 1) (by have := HC2.out; omega)
        have e : sumN f (c + 1) = s + x := by show sumN f c + f c = _; rw [SE.out, XE.out]
        have := HG.out.2
        omega
      have d1 : decide (x < 0) = false := decide_eq_false (by omega)
      have d2 : decide (9223372036854775807 - s < x) = false := decide_eq_false (by omega)
      go_wp2
      exact ⟨NX.out (by omega) (by omega), by have := HC2.out; simp [intOf]; omega⟩
    · have e6 : n = c := by omega
      subst e6
      have HS3 : Hid (W64 s) := by rw [← SE.out]; exact HS2.out
      have g3 : decide (W < s) = true := by rw [← SE.out]; exact HQ.out
      have o0 := hid (own_new w w.heap.size (Nat.le_refl _))
      have B0 := hid (bl1 w (.cells #[] 2))
      go_upto_region 12 with fail
      generalize hV : World.alloc w _ = V at *
      obtain ⟨gq, hgq⟩ : ∃ g, w.heap.size = g := ⟨_, rfl⟩
      go_loopw [8, 9] (fun ov iv wr => ∃ c : Nat, c ≤ n ∧ iv = .int .i64 (c : Nat) ∧ Own w.heap.size ov ((List.range c).map (fun i => cut1 W (sumN f n) (f i))) wr ∧ Ab w wr) (fun _ iv _ => n - (intOf iv).toNat)
      case atStart => exact ⟨0, by omega, rfl, o0.out, B0.out⟩
      case round =>
        obtain ⟨c, hc, rfl, ow, ar⟩ := hrel
        have OX := hid ow
        have AR := hid ar
        clear ow ar o0 B0 hgq hV
        by_cases hcn : c < n
        · have HC2 := hid hcn
          have hcI : (c : Int) < n := by omega
          have hcB : (c : Int) ≤ 65536 := by have := HN.out; omega
          obtain ⟨b0, o0, rfl⟩ := HF.out.some0 (show 0 < n by omega)
          obtain ⟨x, hx⟩ : ∃ x, f c = x := ⟨_, rfl⟩
          obtain ⟨y, hy⟩ : ∃ y, cut1 W s x = y := ⟨_, rfl⟩
          have at0 := HF.out.at0 hcn
          rw [hx] at at0
          have xc : wr.cell? ⟨b0, o0 + c, none⟩ = some (.int .i64 x) := (Below.cell AR.out at0.2.1).trans at0.2.2
          have XW : Hid (W64 x) := at0.1
          have YE : Hid (cut1 W (sumN f n) (f c) = y) := by show _ = _; rw [SE.out, hx]; exact hy
          have YH := hid hy
          clear at0 hx hcn hc hy
          have PC := hid (rpart_at x W s wr XW.out HW.out HS3.out)
          have PE : Hid (part x W s = y) := by
            have h := YH.out
            unfold cut1 at h
            rwa [if_pos (of_decide_eq_true g3)] at h
          go_wp2_with fail
          refine PC.out.mono ?_
          rintro e9 v9 ⟨rfl, hv9⟩
          have hv8 := hv9.symm
          subst hv8
          rw [PE.out]
          have N1 : Hid (∀ j u, (([y] : List Int).map (Value.int .i64))[j]? = some u → (wr.alloc (.cells #[.int .i64 y] 2)).cell? ((⟨wr.heap.size, 0, none⟩ : Addr).add j) = some u) := World.news_of_block (cs := #[.int .i64 y]) (t := 2) (fr := (0, 0)) (heap_alloc_new wr _)
          have O2 := hid (Own.alloc OX.out (.cells #[.int .i64 y] 2))
          have LS : Hid (w.heap.size ≤ (wr.alloc (.cells #[.int .i64 y] 2)).heap.size) := Nat.le_trans AR.out.size (by simp)
          have LE : Hid (((List.range c).map (fun i => cut1 W (sumN f n) (f i))).length = c) := by show _ = _; simp
          go_wp2_with (first
            | (at_builtin; refine wpList_app rfl (.tmp 57) (.tmp 59) rfl w.heap.size _ _ rfl O2.out ⟨wr.heap.size, 0, none⟩ 1 1 [y] rfl rfl N1.out (by decide) (by have := LE.out; have := HC2.out; have := HN.out; omega) LS.out (c + 1) (by rw [LE.out]) ?_; intro g1 c1 w1 o1 x1 y1 _; have O1 := hid o1; have X1 := hid x1; clear o1 x1 y1))
          refine ⟨⟨c + 1, by have := HC2.out; omega, by simp, ?_, ?_⟩, by have := HC2.out; simp [intOf]; omega⟩
          · rw [List.range_succ, List.map_append]
            have h := O1.out
            simp only [List.map_cons, List.map_nil, YE.out]
            exact h
          · exact Below.grown (Ab.trans AR.out (bl1 wr _) : Below _ _ _) X1.out LS.out (fun k hk => (World.ownsRow.lt OX.out k hk).1)
        · have e6 : n = c := by omega
          subst e6
          go_wp2
          go_ret2
          exact ⟨_, rfl, AR.out, OX.out⟩
theorem rcut_at (W : Int) (p : Option Addr) (n cp : Nat) (f : Nat → Int) (w : World) (hW : W64 W) (hn : n ≤ 65536) (hf : IsI w p n f) :
    (good W n f → Calls Tryz.prog 19 #[.int .i64 W, .slice p n cp] w fun e w' => ∃ v, e = .returned (.tuple #[v, .int .i64 0]) ∧ Below w.heap.size w w' ∧ Own w.heap.size v (cutL W n f) w') ∧
    (¬ good W n f → Calls Tryz.prog 19 #[.int .i64 W, .slice p n cp] w fun e w' => e = .returned (.tuple #[.slice none 0 0, .int .i64 1]) ∧ w' = w) := by
  refine ⟨fun g => ?_, fun b => ?_⟩
  · by_cases q : W < sumN f n
    · exact rcut_over W p n cp f w g.1 hW hn hf g.2 (decide_eq_true q)
    · exact rcut_all W p n cp f w g.1 hn hf g.2 (decide_eq_false q)
  · by_cases q : W < 0
    · exact rcut_neg W p n cp w q
    · exact rcut_no W p n cp f w (by omega) hn hf b
end Sh
end Go.Proofs.YtalbgnhocbgapaaGreatDoor

namespace Go.Proofs.YtalbgnhocbgapaaGreatDoor
open Go.RowKit Go.Deep
namespace Sh
def aw0 (i : Nat) : Int := if i = 0 then 10 else if i = 1 then 5 else 0
theorem aw_cut : cutL 10 3 aw0 = [6, 3, 0] := by decide
theorem aw_good : good 10 3 aw0 := ⟨by decide, fun i _ => by unfold aw0; split <;> (try split) <;> omega, by decide⟩
theorem aw_in (w : World) (a b c : Int) (ha : W64 a) (hb : W64 b) (hc : W64 c) (f : Nat → Int) (e0 : f 0 = a) (e1 : f 1 = b) (e2 : f 2 = c) : IsI (w.alloc (.cells #[.int .i64 a, .int .i64 b, .int .i64 c] 2)) (some ⟨w.heap.size, 0, none⟩) 3 f := fun k hk => by
  have h := heap_alloc_new w (.cells #[.int .i64 a, .int .i64 b, .int .i64 c] 2)
  have c0 : ∀ k (v : Value), (#[.int .i64 a, .int .i64 b, .int .i64 c] : Array Value)[k]? = some v → (w.alloc (.cells #[.int .i64 a, .int .i64 b, .int .i64 c] 2)).cell? ⟨w.heap.size, 0 + k, none⟩ = some v := fun k v hv => by rw [Nat.zero_add]; exact (cell_of_row _ _ k _ _ _ h).trans hv
  match k, hk with
  | 0, _ => exact ⟨by rw [e0]; exact ha, _, 0, rfl, lt_of_block h, by rw [e0]; exact c0 0 _ rfl⟩
  | 1, _ => exact ⟨by rw [e1]; exact hb, _, 0, rfl, lt_of_block h, by rw [e1]; exact c0 1 _ rfl⟩
  | 2, _ => exact ⟨by rw [e2]; exact hc, _, 0, rfl, lt_of_block h, by rw [e2]; exact c0 2 _ rfl⟩
theorem own_in {B : Nat} {v : Value} {l : List Int} {w : World} (h : Own B v l w) (hl : ∀ x ∈ l, W64 x) : ∃ a0 cap, v = .slice a0 l.length cap ∧ IsI w a0 l.length (fun j => l.getD j 0) := Own.in h hl
set_option maxRecDepth 100000 in
set_option maxHeartbeats 8000000 in
theorem awake_at (PC : PartC) (CC : CutC) (w : World) :
    Calls Tryz.prog 4 #[] w fun e w' => e = .returned (.bool true) ∧ Below w.heap.size w w' := by
  have C1 := hid ((CC 10 (some ⟨w.heap.size, 0, none⟩) 3 3 aw0 ((w).alloc (.cells #[.int .i64 10, .int .i64 5, .int .i64 0] 2)) (by unfold W64; omega) (by omega) (aw_in w 10 5 0 (by unfold W64; omega) (by unfold W64; omega) (by unfold W64; omega) aw0 rfl rfl rfl)).1 aw_good)
  rw [aw_cut] at C1
  have A0 : Hid (Ab w ((w).alloc (.cells #[.int .i64 10, .int .i64 5, .int .i64 0] 2))) := bl1 _ _
  have P1 : Hid (∀ v, Calls Tryz.prog 10 #[.int .i64 7, .int .i64 3, .int .i64 2] v fun e w' => e = .returned (.int .i64 10) ∧ Below v.heap.size v w') := fun v => PC 7 3 2 v (by unfold W64; omega) (by unfold W64; omega) (by unfold W64; omega)
  have P2 : Hid (∀ v, Calls Tryz.prog 10 #[.int .i64 4611686018427387904, .int .i64 4611686018427387904, .int .i64 4611686018427387904] v fun e w' => e = .returned (.int .i64 4611686018427387904) ∧ Below v.heap.size v w') := fun v => by
    have h := PC 4611686018427387904 4611686018427387904 4611686018427387904 v (by unfold W64; omega) (by unfold W64; omega) (by unfold W64; omega)
    rwa [show part 4611686018427387904 4611686018427387904 4611686018427387904 = 4611686018427387904 by decide] at h
  clear PC CC
  go_enter Tryz.func4, Tryz.ntmps4
  go_wp2_with fail
  refine C1.out.mono ?_
  rintro e9 v1 ⟨v, rfl, b1, o1⟩
  obtain ⟨a0, cap, rfl, i1⟩ := own_in o1 (fun x hx => by simp at hx; unfold W64; omega)
  have A1 : Hid (Ab w v1) := A0.out.trans b1
  have I1 := hid i1
  clear b1 o1 i1 C1
  go_wp2_with fail
  refine (P1.out _).mono ?_
  rintro e9 v2 ⟨rfl, b2⟩
  have A2 : Hid (Ab v1 v2) := b2
  clear b2
  go_wp2_with fail
  refine (P2.out _).mono ?_
  rintro e9 v3 ⟨rfl, b3⟩
  have A3 : Hid (Ab v1 ((v3).alloc (.cells #[.int .i64 6, .int .i64 3, .int .i64 0] 2))) := (A2.out.trans b3).alloc _
  have I3 : Hid (IsI ((v3).alloc (.cells #[.int .i64 6, .int .i64 3, .int .i64 0] 2)) (some ⟨v3.heap.size, 0, none⟩) 3 (fun j => [6, 3, 0].getD j 0)) := aw_in v3 6 3 0 (by unfold W64; omega) (by unfold W64; omega) (by unfold W64; omega) _ rfl rfl rfl
  clear b3
  have S3 := hid (same_at a0 (some ⟨v3.heap.size, 0, none⟩) 3 cap 3 _ ((v3).alloc (.cells #[.int .i64 6, .int .i64 3, .int .i64 0] 2)) (by omega) (I1.out.below A3.out) I3.out)
  go_wp2_with fail
  refine S3.out.mono ?_
  rintro e9 v4 ⟨rfl, b4⟩
  have A4 : Hid (Ab w v4) := A1.out.trans (A3.out.trans b4)
  clear b4
  go_wp2
  go_ret
  exact ⟨rfl, A4.out⟩
end Sh
end Go.Proofs.YtalbgnhocbgapaaGreatDoor

namespace Go.Proofs.YtalbgnhocbgapaaGreatDoor
open Go.RowKit Go.Deep Cu
namespace Sh
/-- whether waters and flows fit a net -/
def fits (n lw : Nat) (W : Nat → Int) (lf : Nat) (F : Nat → Int) : Prop := lw = 6 * n * n ∧ lf = 12 * n * n ∧ (∀ c, c < lw → 0 ≤ W c) ∧ (∀ e, e < lf → -4503599627370496 ≤ F e ∧ F e ≤ 4503599627370496)
/-- what All is to answer -/
def AllC : Prop := ∀ (n gb : Nat) (pw : Option Addr) (lw cw : Nat) (W : Nat → Int) (pf : Option Addr) (lf cf : Nat) (F : Nat → Int) (w : World), (1 ≤ n ∧ n ≤ 32) → GridOf n gb w → lw ≤ 65536 → lf ≤ 65536 → IsI w pw lw W → IsI w pf lf F →
    (fits n lw W lf F → Calls Tryz.prog 6 #[.pointer (some ⟨gb, 0, none⟩), .slice pw lw cw, .slice pf lf cf] w fun e w' => ∃ v, e = .returned (.tuple #[v, .int .i64 0]) ∧ Below w.heap.size w w' ∧ Own w.heap.size v ((List.range (12 * n * n)).map (allF n W F)) w') ∧
    (¬ fits n lw W lf F → Calls Tryz.prog 6 #[.pointer (some ⟨gb, 0, none⟩), .slice pw lw cw, .slice pf lf cf] w fun e w' => e = .returned (.tuple #[.slice none 0 0, .int .i64 1]) ∧ Below w.heap.size w w')
/-- what All of no net is to answer -/
def AllN : Prop := ∀ (pw : Option Addr) (lw cw : Nat) (pf : Option Addr) (lf cf : Nat) (w : World), Calls Tryz.prog 6 #[.pointer none, .slice pw lw cw, .slice pf lf cf] w fun e w' => e = .returned (.tuple #[.slice none 0 0, .int .i64 2]) ∧ Below w.heap.size w w'
theorem allF_in {n : Nat} {W F : Nat → Int} {e : Nat} (hn : 1 ≤ n) (he : e < 12 * n * n) (hW : ∀ c, c < 6 * n * n → 0 ≤ W c) (hF : ∀ e, e < 12 * n * n → -4503599627370496 ≤ F e ∧ F e ≤ 4503599627370496) : -4503599627370496 ≤ allF n W F e ∧ allF n W F e ≤ 4503599627370496 := by
  have s := allF_sign hn he hW (m := 4503599627370496) ⟨by omega, by omega⟩ hF
  have b := hF e he
  rcases Int.le_total 0 (F e) with h | h
  · have := s.1 h; omega
  · have := s.2 h; omega
theorem own_all {n B : Nat} {W F : Nat → Int} {v : Value} {w : World} (hn : 1 ≤ n) (hW : ∀ c, c < 6 * n * n → 0 ≤ W c) (hF : ∀ e, e < 12 * n * n → -4503599627370496 ≤ F e ∧ F e ≤ 4503599627370496) (h : Own B v ((List.range (12 * n * n)).map (allF n W F)) w) : ∃ a0 cap, v = .slice a0 (12 * n * n) cap ∧ IsI w a0 (12 * n * n) (allF n W F) := by
  obtain ⟨a0, cap, e, i⟩ := own_in h (fun x hx => by
    obtain ⟨j, hj, rfl⟩ := List.mem_map.1 hx
    have c := allF_in hn (List.mem_range.1 hj) hW hF
    unfold W64
    omega)
  rw [List.length_map, List.length_range] at e i
  exact ⟨a0, cap, e, i.congr (fun k hk => by simp [List.getD, hk])⟩
end Sh
end Go.Proofs.YtalbgnhocbgapaaGreatDoor

namespace Go.Proofs.YtalbgnhocbgapaaGreatDoor
open Go.RowKit Go.Deep Cu
namespace Sh
theorem row_of {w : World} {b : Nat} {a0 a1 a2 a3 : Value} {T : TypeId} (h : w.heap[b]? = some (.cells #[a0, a1, a2, a3] T)) (f : Nat → Value) (e0 : f 0 = a0) (e1 : f 1 = a1) (e2 : f 2 = a2) (e3 : f 3 = a3) : w.rowIs b T 4 f := ⟨_, h, rfl, fun i hi => by
  match i, hi with
  | 0, _ => simp [e0]
  | 1, _ => simp [e1]
  | 2, _ => simp [e2]
  | 3, _ => simp [e3]⟩
set_option maxRecDepth 100000 in
set_option maxHeartbeats 8000000 in
theorem routs_go (rb M N c fb0 fo cf : Nat) (F O sg : Nat → Int) (E : Nat → Nat) (w : World) (hc : c < M)
    (ARD : Hid (∀ v c s, Ab w v → c < M → s < 4 → Calls Tryz.prog 21 #[.pointer (some ⟨rb, 0, none⟩), .int .i64 (c : Nat), .int .i64 (s : Nat)] v fun e w' => e = .returned (.tuple #[.int .i64 (E (4 * c + s) : Nat), .int .i64 (sg (4 * c + s))]) ∧ Below v.heap.size v w'))
    (TT : Hid (∀ t, t < 4 * M → E t < N ∧ (sg t = 1 ∨ sg t = -1) ∧ O t = if 0 < F (E t) * sg t then F (E t) * sg t else 0))
    (FB : Hid (∀ e, e < N → -4503599627370496 ≤ F e ∧ F e ≤ 4503599627370496))
    (HF : Hid (IsI w (some ⟨fb0, fo, none⟩) N F)) :
    Calls Tryz.prog 20 #[.pointer (some ⟨rb, 0, none⟩), .slice (some ⟨fb0, fo, none⟩) N cf, .int .i64 (c : Nat)] w fun e w' => ∃ b, e = .returned (.slice (some ⟨b, 0, none⟩) 4 4) ∧ Below w.heap.size w w' ∧ w'.rowIs b 2 4 (fun i => .int .i64 (O (4 * c + i))) ∧ w.heap.size ≤ b := by
  have HC := hid hc
  have A0 : Hid (Ab w (w.alloc (.cells #[.int .i64 0, .int .i64 0, .int .i64 0, .int .i64 0] 2))) := bl1 _ _
  have R0 : Hid ((w.alloc (.cells #[.int .i64 0, .int .i64 0, .int .i64 0, .int .i64 0] 2)).rowIs w.heap.size 2 4 (fun s => .int .i64 (if s < 0 then O (4 * c + s) else 0))) := row_of (heap_alloc_new _ _) _ rfl rfl rfl rfl
  clear hc
  go_enter Tryz.func20, Tryz.ntmps20
  go_upto_region 3 with fail
  generalize hV : World.alloc w _ = V at *
  obtain ⟨b, hb⟩ : ∃ b, w.heap.size = b := ⟨_, rfl⟩
  have LB : Hid (w.heap.size ≤ b) := by show _ ≤ _; omega
  rw [hb] at R0
  rw [hb]
  clear hV hb
  go_loopw [8] (fun iv wr => ∃ s : Nat, s ≤ 4 ∧ iv = .int .i64 (s : Nat) ∧ Ab w wr ∧ wr.rowIs b 2 4 (fun i => .int .i64 (if i < s then O (4 * c + i) else 0))) (fun iv _ => 4 - (intOf iv).toNat)
  case atStart => exact ⟨0, by omega, rfl, A0.out, R0.out⟩
  case round =>
    obtain ⟨s, hs, rfl, ar, rx⟩ := hrel
    have AR := hid ar
    have RX := hid rx
    clear ar rx A0 R0
    by_cases hs4 : s < 4
    · have HS := hid hs4
      have hsI : (s : Int) < 4 := by omega
      have AC := hid (ARD.out wr c s AR.out HC.out hs4)
      have tt := TT.out (4 * c + s) (by have := HC.out; omega)
      obtain ⟨t, ht⟩ : ∃ t, 4 * c + s = t := ⟨_, rfl⟩
      have OE : Hid (O (4 * c + s) = O t) := by show _ = _; rw [ht]
      rw [ht] at AC tt
      obtain ⟨te, hte⟩ : ∃ e, E t = e := ⟨_, rfl⟩
      obtain ⟨ts, hts⟩ : ∃ e, sg t = e := ⟨_, rfl⟩
      rw [hte, hts] at AC tt
      obtain ⟨x, hx⟩ : ∃ x, F te = x := ⟨_, rfl⟩
      have fb := FB.out te tt.1
      rw [hx] at fb tt
      have CX : Hid (∀ v, Ab w v → v.cell? ⟨fb0, fo + te, none⟩ = some (.int .i64 x)) := fun v a => by rw [← hx]; exact (Below.cell a (HF.out.at0 tt.1).2.1).trans (HF.out.at0 tt.1).2.2
      have teI : (te : Int) < N := by have := tt.1; omega
      have xb : -4503599627370496 ≤ x * ts ∧ x * ts ≤ 4503599627370496 := by rcases tt.2.1 with h | h <;> rw [h] <;> omega
      have xb1 := xb.1
      have xb2 := xb.2
      have OV := hid tt.2.2
      clear tt ht hte hts hx fb xb hs4
      go_wp2_with fail
      refine AC.out.mono ?_
      rintro e9 v8 ⟨rfl, b8⟩
      have A8 : Hid (Ab w v8) := AR.out.trans b8
      have R8 := hid (row_ab RX.out b8)
      clear b8
      have ya := CX.out _ A8.out
      have oc := R8.out.cell HS.out
      have of := R8.out.frozen s
      have FE : Hid (∀ y, y = O (4 * c + s) → ∀ j, (if j = s then Value.int .i64 y else Value.int .i64 (if j < s then O (4 * c + j) else 0)) = .int .i64 (if j < s + 1 then O (4 * c + j) else 0)) := fun y hy j => by
        by_cases e : j = s
        · subst e; simp [hy]
        · by_cases l : j < s
          · simp [e, l, show j < s + 1 by omega]
          · simp [e, l, show ¬ j < s + 1 by omega]
      by_cases p : 0 < x * ts
      · have d1 : decide (0 < x * ts) = true := decide_eq_true p
        have HPO := hid p
        clear p
        go_wp2
        exact ⟨⟨s + 1, by have := HS.out; omega, by simp, A8.out.setk LB.out _, (R8.out.set s _).congr (fun j _ => FE.out (x * ts) (by rw [OE.out, OV.out, if_pos HPO.out]) j)⟩, by have := HS.out; simp [intOf]; omega⟩
      · have d1 : decide (0 < x * ts) = false := decide_eq_false p
        have HPO := hid p
        clear p
        go_wp2
        refine ⟨⟨s + 1, by have := HS.out; omega, by simp, A8.out, R8.out.congr (fun j _ => ?_)⟩, by have := HS.out; simp [intOf]; omega⟩
        have h := FE.out 0 (by rw [OE.out, OV.out, if_neg (by have := HPO.out; omega)]) j
        rw [← h]
        by_cases e : j = s <;> simp [e]
    · obtain rfl : s = 4 := by omega
      go_wp2
      go_ret
      exact ⟨b, rfl, AR.out, RX.out.congr (fun i hi => by simp [hi]), LB.out⟩
set_option maxRecDepth 100000 in
set_option maxHeartbeats 8000000 in
theorem rfits_len (rb M N lw cw lf cf : Nat) (pw pf : Option Addr) (w : World)
    (CC : Hid (∀ v, Ab w v → Calls Tryz.prog 41 #[.pointer (some ⟨rb, 0, none⟩)] v fun e w' => e = .returned (.int .i64 (M : Nat)) ∧ w' = v)) (CE : Hid (∀ v, Ab w v → Calls Tryz.prog 42 #[.pointer (some ⟨rb, 0, none⟩)] v fun e w' => e = .returned (.int .i64 (N : Nat)) ∧ w' = v))
    (hq : ((lw : Int) != (M : Int)) = true ∨ (((lw : Int) != (M : Int)) = false ∧ ((lf : Int) != (N : Int)) = true)) :
    Calls Tryz.prog 18 #[.pointer (some ⟨rb, 0, none⟩), .slice pw lw cw, .slice pf lf cf] w fun e w' => e = .returned (.bool false) ∧ w' = w := by
  rcases hq with q1 | ⟨q1, q2⟩
  · go_enter Tryz.func18, Tryz.ntmps18
    go_wp2_with fail
    refine (CC.out _ (Ab.refl w)).mono ?_
    rintro e9 v1 ⟨rfl, hv⟩
    have hv2 := hv.symm
    subst hv2
    go_wp2
    go_ret
    exact ⟨rfl, by first | trivial | rfl⟩
  · go_enter Tryz.func18, Tryz.ntmps18
    go_wp2_with fail
    refine (CC.out _ (Ab.refl w)).mono ?_
    rintro e9 v1 ⟨rfl, hv⟩
    have hv2 := hv.symm
    subst hv2
    go_wp2_with fail
    refine (CE.out _ (Ab.refl w)).mono ?_
    rintro e9 v2 ⟨rfl, hv⟩
    have hv2 := hv.symm
    subst hv2
    go_wp2
    go_ret
    exact ⟨rfl, by first | trivial | rfl⟩
set_option maxRecDepth 100000 in
set_option maxHeartbeats 8000000 in
theorem rfits_yes (rb M N cw cf : Nat) (pw pf : Option Addr) (W F : Nat → Int) (w : World) (HL : Hid (M ≤ 65536 ∧ N ≤ 65536)) (HW : Hid (IsI w pw M W)) (HF : Hid (IsI w pf N F))
    (CC : Hid (∀ v, Ab w v → Calls Tryz.prog 41 #[.pointer (some ⟨rb, 0, none⟩)] v fun e w' => e = .returned (.int .i64 (M : Nat)) ∧ w' = v)) (CE : Hid (∀ v, Ab w v → Calls Tryz.prog 42 #[.pointer (some ⟨rb, 0, none⟩)] v fun e w' => e = .returned (.int .i64 (N : Nat)) ∧ w' = v))
    (HG : Hid ((∀ i, i < M → 0 ≤ W i) ∧ (∀ i, i < N → -4503599627370496 ≤ F i ∧ F i ≤ 4503599627370496))) :
    Calls Tryz.prog 18 #[.pointer (some ⟨rb, 0, none⟩), .slice pw M cw, .slice pf N cf] w fun e w' => e = .returned (.bool true) ∧ w' = w := by
  have mm : ((M : Int) != (M : Int)) = false := by simp
  have nn : ((N : Int) != (N : Int)) = false := by simp
  go_enter Tryz.func18, Tryz.ntmps18
  go_wp2_with fail
  refine (CC.out _ (Ab.refl w)).mono ?_
  rintro e9 v1 ⟨rfl, hv⟩
  have hv2 := hv.symm
  subst hv2
  go_wp2_with fail
  refine (CE.out _ (Ab.refl w)).mono ?_
  rintro e9 v2 ⟨rfl, hv⟩
  have hv2 := hv.symm
  subst hv2
  go_wp2
  go_loopw [7] (fun iv wr => ∃ c : Nat, c ≤ M ∧ iv = .int .i64 (c : Nat) ∧ (∀ i, i < c → 0 ≤ W i) ∧ wr = w) (fun iv _ => M - (intOf iv).toNat)
  case atStart => exact ⟨0, by omega, rfl, fun i hi => absurd hi (Nat.not_lt_zero i), rfl⟩
  case round =>
    obtain ⟨c, hc, rfl, g1, hwr⟩ := hrel
    have hwr2 := hwr.symm
    subst hwr2
    have G1 := hid g1
    clear g1
    by_cases hcM : c < M
    · have HC := hid hcM
      have hcI : (c : Int) < M := by omega
      have hcB : (c : Int) ≤ 65536 := by have := HL.out; omega
      obtain ⟨b0, o0, rfl⟩ := HW.out.some0 (show 0 < M by omega)
      obtain ⟨x, hx⟩ : ∃ x, W c = x := ⟨_, rfl⟩
      have xc := (HW.out.at0 hcM).2.2
      rw [hx] at xc
      have XE := hid hx
      clear hx hcM
      have q0 : 0 ≤ x := by rw [← XE.out]; exact HG.out.1 c HC.out
      have d1 : decide (x < 0) = false := decide_eq_false (by omega)
      go_wp2
      exact ⟨⟨c + 1, by have := HC.out; omega, by simp, fun i hi => by
        by_cases l : i < c
        · exact G1.out i l
        · obtain rfl : i = c := by omega
          rw [XE.out]; omega, by first | trivial | rfl⟩, by have := HC.out; simp [intOf]; omega⟩
    · obtain rfl : c = M := by omega
      go_wp2
      go_loopw [8] (fun iv wr => ∃ c : Nat, c ≤ N ∧ iv = .int .i64 (c : Nat) ∧ (∀ i, i < c → -4503599627370496 ≤ F i ∧ F i ≤ 4503599627370496) ∧ wr = w) (fun iv _ => N - (intOf iv).toNat)
      case atStart => exact ⟨0, by omega, rfl, fun i hi => absurd hi (Nat.not_lt_zero i), rfl⟩
      case round =>
        obtain ⟨c, hc, rfl, g1, hwr⟩ := hrel
        have hwr2 := hwr.symm
        subst hwr2
        have G2 := hid g1
        clear g1
        by_cases hcN : c < N
        · have HC := hid hcN
          have hcI : (c : Int) < N := by omega
          have hcB : (c : Int) ≤ 65536 := by have := HL.out; omega
          obtain ⟨b1, o1, rfl⟩ := HF.out.some0 (show 0 < N by omega)
          obtain ⟨x, hx⟩ : ∃ x, F c = x := ⟨_, rfl⟩
          have xc := (HF.out.at0 hcN).2.2
          rw [hx] at xc
          have XE := hid hx
          clear hx hcN
          have q0 : -4503599627370496 ≤ x ∧ x ≤ 4503599627370496 := by rw [← XE.out]; exact HG.out.2 c HC.out
          have d1 : decide (x < -4503599627370496) = false := decide_eq_false (by omega)
          have d2 : decide (4503599627370496 < x) = false := decide_eq_false (by omega)
          go_wp2
          exact ⟨⟨c + 1, by have := HC.out; omega, by simp, fun i hi => by
            by_cases l : i < c
            · exact G2.out i l
            · obtain rfl : i = c := by omega
              rw [XE.out]; exact ⟨by omega, by omega⟩, by first | trivial | rfl⟩, by have := HC.out; simp [intOf]; omega⟩
        · obtain rfl : c = N := by omega
          go_wp2
          go_ret
          exact ⟨rfl, by first | trivial | rfl⟩
set_option maxRecDepth 100000 in
set_option maxHeartbeats 8000000 in
theorem rfits_no (rb M N cw cf : Nat) (pw pf : Option Addr) (W F : Nat → Int) (w : World) (HL : Hid (M ≤ 65536 ∧ N ≤ 65536)) (HW : Hid (IsI w pw M W)) (HF : Hid (IsI w pf N F))
    (CC : Hid (∀ v, Ab w v → Calls Tryz.prog 41 #[.pointer (some ⟨rb, 0, none⟩)] v fun e w' => e = .returned (.int .i64 (M : Nat)) ∧ w' = v)) (CE : Hid (∀ v, Ab w v → Calls Tryz.prog 42 #[.pointer (some ⟨rb, 0, none⟩)] v fun e w' => e = .returned (.int .i64 (N : Nat)) ∧ w' = v))
    (HG : Hid (¬ ((∀ i, i < M → 0 ≤ W i) ∧ (∀ i, i < N → -4503599627370496 ≤ F i ∧ F i ≤ 4503599627370496)))) :
    Calls Tryz.prog 18 #[.pointer (some ⟨rb, 0, none⟩), .slice pw M cw, .slice pf N cf] w fun e w' => e = .returned (.bool false) ∧ w' = w := by
  have mm : ((M : Int) != (M : Int)) = false := by simp
  have nn : ((N : Int) != (N : Int)) = false := by simp
  go_enter Tryz.func18, Tryz.ntmps18
  go_wp2_with fail
  refine (CC.out _ (Ab.refl w)).mono ?_
  rintro e9 v1 ⟨rfl, hv⟩
  have hv2 := hv.symm
  subst hv2
  go_wp2_with fail
  refine (CE.out _ (Ab.refl w)).mono ?_
  rintro e9 v2 ⟨rfl, hv⟩
  have hv2 := hv.symm
  subst hv2
  go_wp2
  go_loopw [7] (fun iv wr => ∃ c : Nat, c ≤ M ∧ iv = .int .i64 (c : Nat) ∧ (∀ i, i < c → 0 ≤ W i) ∧ wr = w) (fun iv _ => M - (intOf iv).toNat)
  case atStart => exact ⟨0, by omega, rfl, fun i hi => absurd hi (Nat.not_lt_zero i), rfl⟩
  case round =>
    obtain ⟨c, hc, rfl, g1, hwr⟩ := hrel
    have hwr2 := hwr.symm
    subst hwr2
    have G1 := hid g1
    clear g1
    by_cases hcM : c < M
    · have HC := hid hcM
      have hcI : (c : Int) < M := by omega
      have hcB : (c : Int) ≤ 65536 := by have := HL.out; omega
      obtain ⟨b0, o0, rfl⟩ := HW.out.some0 (show 0 < M by omega)
      obtain ⟨x, hx⟩ : ∃ x, W c = x := ⟨_, rfl⟩
      have xc := (HW.out.at0 hcM).2.2
      rw [hx] at xc
      have XE := hid hx
      clear hx hcM
      by_cases q0 : x < 0
      · have d1 : decide (x < 0) = true := decide_eq_true q0
        go_wp2
        go_ret
        exact ⟨rfl, by first | trivial | rfl⟩
      · have d1 : decide (x < 0) = false := decide_eq_false q0
        go_wp2
        exact ⟨⟨c + 1, by have := HC.out; omega, by simp, fun i hi => by
          by_cases l : i < c
          · exact G1.out i l
          · obtain rfl : i = c := by omega
            rw [XE.out]; omega, by first | trivial | rfl⟩, by have := HC.out; simp [intOf]; omega⟩
    · obtain rfl : c = M := by omega
      go_wp2
      go_loopw [8] (fun iv wr => ∃ c : Nat, c ≤ N ∧ iv = .int .i64 (c : Nat) ∧ (∀ i, i < c → -4503599627370496 ≤ F i ∧ F i ≤ 4503599627370496) ∧ wr = w) (fun iv _ => N - (intOf iv).toNat)
      case atStart => exact ⟨0, by omega, rfl, fun i hi => absurd hi (Nat.not_lt_zero i), rfl⟩
      case round =>
        obtain ⟨c, hc, rfl, g1, hwr⟩ := hrel
        have hwr2 := hwr.symm
        subst hwr2
        have G2 := hid g1
        clear g1
        by_cases hcN : c < N
        · have HC := hid hcN
          have hcI : (c : Int) < N := by omega
          have hcB : (c : Int) ≤ 65536 := by have := HL.out; omega
          obtain ⟨b1, o1, rfl⟩ := HF.out.some0 (show 0 < N by omega)
          obtain ⟨x, hx⟩ : ∃ x, F c = x := ⟨_, rfl⟩
          have xc := (HF.out.at0 hcN).2.2
          rw [hx] at xc
          have XE := hid hx
          clear hx hcN
          by_cases q0 : x < -4503599627370496
          · have d1 : decide (x < -4503599627370496) = true := decide_eq_true q0
            go_wp2
            go_ret
            exact ⟨rfl, by first | trivial | rfl⟩
          · have d1 : decide (x < -4503599627370496) = false := decide_eq_false q0
            by_cases q2 : 4503599627370496 < x
            · have d2 : decide (4503599627370496 < x) = true := decide_eq_true q2
              go_wp2
              go_ret
              exact ⟨rfl, by first | trivial | rfl⟩
            · have d2 : decide (4503599627370496 < x) = false := decide_eq_false q2
              go_wp2
              exact ⟨⟨c + 1, by have := HC.out; omega, by simp, fun i hi => by
                by_cases l : i < c
                · exact G2.out i l
                · obtain rfl : i = c := by omega
                  rw [XE.out]; exact ⟨by omega, by omega⟩, by first | trivial | rfl⟩, by have := HC.out; simp [intOf]; omega⟩
        · obtain rfl : c = N := by omega
          exact absurd ⟨G1.out, G2.out⟩ HG.out
end Sh
end Go.Proofs.YtalbgnhocbgapaaGreatDoor

namespace Go.Proofs.YtalbgnhocbgapaaGreatDoor
open Go.RowKit Go.Deep Cu
namespace Sh
set_option maxRecDepth 100000 in
set_option maxHeartbeats 8000000 in
theorem rall_nil (pw pf : Option Addr) (lw cw lf cf : Nat) (w : World) :
    Calls Tryz.prog 7 #[.pointer none, .slice pw lw cw, .slice pf lf cf] w fun e w' => e = .returned (.tuple #[.slice none 0 0, .int .i64 2]) ∧ w' = w := by
  go_enter Tryz.func7, Tryz.ntmps7
  go_wp2
  go_ret2
  exact ⟨rfl, rfl⟩
set_option maxRecDepth 100000 in
set_option maxHeartbeats 8000000 in
theorem rall_no (rb : Nat) (pw pf : Option Addr) (lw cw lf cf : Nat) (w : World)
    (FT : Hid (Calls Tryz.prog 18 #[.pointer (some ⟨rb, 0, none⟩), .slice pw lw cw, .slice pf lf cf] w fun e w' => e = .returned (.bool false) ∧ w' = w)) :
    Calls Tryz.prog 7 #[.pointer (some ⟨rb, 0, none⟩), .slice pw lw cw, .slice pf lf cf] w fun e w' => e = .returned (.tuple #[.slice none 0 0, .int .i64 1]) ∧ w' = w := by
  go_enter Tryz.func7, Tryz.ntmps7
  go_wp2_with fail
  refine FT.out.mono ?_
  rintro e9 v1 ⟨rfl, hv⟩
  have hv2 := hv.symm
  subst hv2
  go_wp2
  go_ret2
  exact ⟨rfl, by first | trivial | rfl⟩
set_option maxRecDepth 100000 in
set_option maxHeartbeats 16000000 in
theorem rall_go (rb M N fb0 fo cf wb wo cw : Nat) (W O T D sg : Nat → Int) (P : Nat → Nat → Int) (E : Nat → Nat) (w : World) (hl : M ≤ 65536 ∧ N ≤ 65536)
    (ARD : Hid (∀ v c s, Ab w v → c < M → s < 4 → Calls Tryz.prog 21 #[.pointer (some ⟨rb, 0, none⟩), .int .i64 (c : Nat), .int .i64 (s : Nat)] v fun e w' => e = .returned (.tuple #[.int .i64 (E (4 * c + s) : Nat), .int .i64 (sg (4 * c + s))]) ∧ Below v.heap.size v w'))
    (TT : Hid (∀ t, t < 4 * M → E t < N ∧ (sg t = 1 ∨ sg t = -1)))
    (TB : Hid (∀ t, t < 4 * M → 0 ≤ T t ∧ T t ≤ 4503599627370496))
    (PZ : Hid (∀ e, e < N → P (4 * 0) e = 0)) (PS : Hid (∀ t, t < 4 * M → ∀ e, e < N → P (t + 1) e = if e = E t ∧ 0 < T t then T t * sg t else P t e)) (PE : Hid (∀ e, e < N → P (4 * M) e = D e))
    (HW : Hid (IsI w (some ⟨wb, wo, none⟩) M W))
    (FT : Hid (Calls Tryz.prog 18 #[.pointer (some ⟨rb, 0, none⟩), .slice (some ⟨wb, wo, none⟩) M cw, .slice (some ⟨fb0, fo, none⟩) N cf] w fun e w' => e = .returned (.bool true) ∧ w' = w))
    (OU : Hid (∀ v c, Ab w v → c < M → Calls Tryz.prog 20 #[.pointer (some ⟨rb, 0, none⟩), .slice (some ⟨fb0, fo, none⟩) N cf, .int .i64 (c : Nat)] v fun e w' => ∃ b, e = .returned (.slice (some ⟨b, 0, none⟩) 4 4) ∧ Below v.heap.size v w' ∧ w'.rowIs b 2 4 (fun i => .int .i64 (O (4 * c + i))) ∧ v.heap.size ≤ b))
    (CT : Hid (∀ v c bo, Ab w v → c < M → v.rowIs bo 2 4 (fun i => .int .i64 (O (4 * c + i))) → Calls Tryz.prog 19 #[.int .i64 (W c), .slice (some ⟨bo, 0, none⟩) 4 4] v fun e w' => ∃ l, e = .returned (.tuple #[l, .int .i64 0]) ∧ Below v.heap.size v w' ∧ ∃ kb kc, l = .slice (some ⟨kb, 0, none⟩) 4 kc ∧ v.heap.size ≤ kb ∧ IsI w' (some ⟨kb, 0, none⟩) 4 (fun i => T (4 * c + i)))) :
    Calls Tryz.prog 7 #[.pointer (some ⟨rb, 0, none⟩), .slice (some ⟨wb, wo, none⟩) M cw, .slice (some ⟨fb0, fo, none⟩) N cf] w fun e w' => ∃ b, e = .returned (.tuple #[.slice (some ⟨b, 0, none⟩) N N, .int .i64 0]) ∧ Below w.heap.size w w' ∧ w'.rowIs b 2 N (fun e => .int .i64 (D e)) ∧ w.heap.size ≤ b := by
  have M1 : ∀ v : World, (Instr.makeSlice 22 (.int .i64 (N : Nat)) (.int .i64 (N : Nat))).run Tryz.prog v = .ok (.slice (some ⟨v.heap.size, 0, none⟩) N N) (v.alloc (Obj.cells (madeCells #[.int .i64 0] N) 2)) := fun v =>
    run_make_row' (P := Tryz.prog) 22 2 (.int .i64 0) 8 Tryz.underlying22 info64 rfl .i64 .i64 N (by omega) (by omega) v
  have HL := hid hl
  have A0 : Hid (Ab w (w.alloc (Obj.cells (madeCells #[.int .i64 0] N) 2))) := bl1 _ _
  have R0 : Hid ((w.alloc (Obj.cells (madeCells #[.int .i64 0] N) 2)).rowIs w.heap.size 2 N (fun e => .int .i64 (P (4 * 0) e))) := (World.rowIs_made _ _ _ _).congr (fun i hi => by rw [PZ.out i hi])
  clear hl
  go_enter Tryz.func7, Tryz.ntmps7
  go_wp2_with fail
  refine FT.out.mono ?_
  rintro e9 v1 ⟨rfl, hv⟩
  have hv2 := hv.symm
  subst hv2
  go_upto_region 8 with fail
  generalize hV : World.alloc w _ = V at *
  obtain ⟨b, hb⟩ : ∃ b, w.heap.size = b := ⟨_, rfl⟩
  have LB : Hid (w.heap.size ≤ b) := by show _ ≤ _; omega
  rw [hb] at R0
  rw [hb]
  clear hV hb M1
  go_loopw [10] (fun iv wr => ∃ c : Nat, c ≤ M ∧ iv = .int .i64 (c : Nat) ∧ Ab w wr ∧ wr.rowIs b 2 N (fun e => .int .i64 (P (4 * c) e))) (fun iv _ => M - (intOf iv).toNat)
  case atStart => exact ⟨0, by omega, rfl, A0.out, R0.out⟩
  case round =>
    obtain ⟨c, hc, rfl, ar, rx⟩ := hrel
    have AR := hid ar
    have RX := hid rx
    clear ar rx A0 R0
    by_cases hcM : c < M
    · have HC := hid hcM
      have hcI : (c : Int) < M := by omega
      have hcB : (c : Int) ≤ 65536 := by have := HL.out; omega
      obtain ⟨x, hx⟩ : ∃ x, W c = x := ⟨_, rfl⟩
      have CW : Hid (∀ v, Ab w v → v.cell? ⟨wb, wo + c, none⟩ = some (.int .i64 x)) := fun v a => by rw [← hx]; exact (Below.cell a (HW.out.at0 HC.out).2.1).trans (HW.out.at0 HC.out).2.2
      have OUc := hid (fun v (a : Ab w v) => OU.out v c a HC.out)
      have CTc := hid (fun v bo (a : Ab w v) h => CT.out v c bo a HC.out h)
      rw [hx] at CTc
      clear hx hcM
      go_upto_region 10 with fail
      have KS : Hid (∀ w', Ab wr w' → Ab wr w' ∧ w'.cell? ⟨wb, wo + c, none⟩ = some (.int .i64 x)) := fun w' h => ⟨h, CW.out _ (AR.out.trans h)⟩
      have AD0 := Ab.refl wr
      have AD := (Ab.refl wr).drew
      go_region_held3 (fun w' => Ab wr w' ∧ w'.cell? ⟨wb, wo + c, none⟩ = some (.int .i64 x)) ((refine KS.out _ ?_; (with_reducible (repeat (first | assumption | apply Ab.drew | apply Ab.alloc))); done)) (first
        | (go_at_call 20; refine (OUc.out _ (AR.out.trans AD)).mono ?_; rintro e9 w3 ⟨bo, rfl, b3, r3, -⟩; have A3 := Ab.call AD b3; have R3 := hid r3; clear b3 r3)
        | (go_at_call 19; refine (CTc.out _ bo (AR.out.trans A3) R3.out).mono ?_; rintro e9 w5 ⟨lk, rfl, b5, i5⟩; have A5 := Ab.call A3 b5; have S3 := hid A3.size; have I5 := hid i5; clear b5 i5))
      obtain ⟨kb, kc, hlk, lkb, ik⟩ := I5.out
      subst hlk
      have KB : Hid (kb ≠ b) := by have h1 := RX.out.lt; have h2 := S3.out; show kb ≠ b; omega
      have IK := hid ik
      have AW5 : Hid (Ab wr w5) := A5
      have R5 := hid (row_ab RX.out A5)
      clear I5 lkb ik R3 A3 A5 S3 AD AD0 KS RX
      go_wp2
      go_loopw [13] (fun iv w6 => ∃ s : Nat, s ≤ 4 ∧ iv = .int .i64 (s : Nat) ∧ Abx w5 b N 2 w6 ∧ w6.rowIs b 2 N (fun e => .int .i64 (P (4 * c + s) e))) (fun iv _ => 4 - (intOf iv).toNat)
      case atStart =>
        refine ⟨0, by omega, rfl, ?_, R5.out⟩
        obtain ⟨q, hb, hq, _⟩ := R5.out
        exact (Ab.refl w5).x hq hb
      case round =>
        obtain ⟨s, hs, rfl, ax, rx⟩ := hrel
        have AX := hid ax
        have RX := hid rx
        clear ax rx R5
        have AV : Hid (Ab w wr) := AX.out.ab (AR.out.trans AW5.out) LB.out
        have IK6 := hid (isI_abo IK.out AX.out.1 KB.out)
        by_cases hs4 : s < 4
        · have HS := hid hs4
          have hsI : (s : Int) < 4 := by omega
          have AC := hid (ARD.out wr c s AV.out HC.out hs4)
          have tt := TT.out (4 * c + s) (by have := HC.out; omega)
          have tb := TB.out (4 * c + s) (by have := HC.out; omega)
          have ps := PS.out (4 * c + s) (by have := HC.out; omega)
          obtain ⟨y, hy⟩ : ∃ y, T (4 * c + s) = y := ⟨_, rfl⟩
          obtain ⟨te, hte⟩ : ∃ e, E (4 * c + s) = e := ⟨_, rfl⟩
          obtain ⟨ts, hts⟩ : ∃ e, sg (4 * c + s) = e := ⟨_, rfl⟩
          rw [hte, hts] at AC tt
          rw [hy] at tb
          rw [hy, hte, hts] at ps
          have CY : Hid (∀ v, Ab wr v → v.cell? ⟨kb, 0 + s, none⟩ = some (.int .i64 y)) := fun v a => by rw [← hy]; exact (Below.cell a (IK6.out.at0 HS.out).2.1).trans (IK6.out.at0 HS.out).2.2
          have teN := tt.1
          have teI : (te : Int) < N := by omega
          have yb : -4503599627370496 ≤ y * ts ∧ y * ts ≤ 4503599627370496 := by rcases tt.2 with h | h <;> rw [h] <;> omega
          have yb1 := yb.1
          have yb2 := yb.2
          have HP := hid ps
          have HT := hid teN
          clear tt tb ps hy hte hts yb hs4 teN
          go_wp2_with fail
          refine AC.out.mono ?_
          rintro e9 v8 ⟨rfl, b8⟩
          have A8 : Hid (Ab wr v8) := b8
          have AX8 := hid (AX.out.call b8)
          have R8 := hid (row_ab RX.out b8)
          clear b8
          have ya := CY.out _ A8.out
          rw [Nat.zero_add] at ya
          have oc := R8.out.cell HT.out
          have of := R8.out.frozen te
          obtain ⟨ov, hov⟩ : ∃ v, Value.int .i64 (P (4 * c + s) te) = v := ⟨_, rfl⟩
          rw [hov] at oc
          clear hov
          by_cases p : 0 < y
          · have d1 : decide (0 < y) = true := decide_eq_true p
            have HPO := hid p
            clear p
            go_wp2
            refine ⟨⟨s + 1, by have := HS.out; omega, by simp, AX8.out.set te _, (R8.out.set te _).congr (fun j hj => ?_)⟩, by have := HS.out; simp [intOf]; omega⟩
            rw [show 4 * c + (s + 1) = 4 * c + s + 1 by omega, HP.out j hj]
            by_cases e : j = te
            · rw [if_pos e, if_pos ⟨e, HPO.out⟩]
            · rw [if_neg e, if_neg (fun h => e h.1)]
          · have d1 : decide (0 < y) = false := decide_eq_false p
            have HPO := hid p
            clear p
            go_wp2
            refine ⟨⟨s + 1, by have := HS.out; omega, by simp, AX8.out, R8.out.congr (fun j hj => ?_)⟩, by have := HS.out; simp [intOf]; omega⟩
            rw [show 4 * c + (s + 1) = 4 * c + s + 1 by omega, HP.out j hj, if_neg (fun h => by have h1 := HPO.out; have h2 := h.2; omega)]
        · obtain rfl : s = 4 := by omega
          go_wp2
          exact ⟨⟨c + 1, by have := HC.out; omega, by simp, AV.out, RX.out⟩, by have := HC.out; simp [intOf]; omega⟩
    · obtain rfl : c = M := by omega
      go_wp2
      go_ret2
      exact ⟨b, rfl, AR.out, RX.out.congr (fun i hi => by rw [PE.out i hi]), LB.out⟩
end Sh
end Go.Proofs.YtalbgnhocbgapaaGreatDoor

namespace Go.Proofs.YtalbgnhocbgapaaGreatDoor
open Go.RowKit Go.Deep
namespace Sh
theorem wpList_zero {ops : Array Oper} {rest : List Oper} {o : Oper} {a : Act} {w : World} {Q : Exit → Act → World → Prop} (hgd : o.guard = none) (s x : Operand)
    (ho : o.op = .call { callee := .builtin .append, args := #[s, x], argTypes := #[22, 22] })
    (g : Nat) (hs : a.eval s = .slice (some ⟨g, 0, none⟩) 0 0) (src : Value) (hx : a.eval x = src) (hsrc : Src Tryz.prog 1 22 src 0 [] w)
    (h : wpList Tryz.prog ops Q rest (a.put o.dst (.slice (some ⟨g, 0, none⟩) 0 0)) w) : wpList Tryz.prog ops Q (o :: rest) a w := by
  obtain ⟨i0, hi, hz0, hz1, hz2⟩ := info_i
  refine wpList_plain hgd fun _ hK => ?_
  have hr := run_append_room_src (P := Tryz.prog) w 22 22 o.type 2 i0 Tryz.underlying22 hi g 0 0 0 src 0 [] (by rw [hz1]; exact hsrc) (Nat.le_refl _) (fun j hj => absurd hj (Nat.not_lt_zero j)) (fun j hj => absurd hj (Nat.not_lt_zero j))
  unfold Oper.wp execOp
  simp only [ho, resolve, invoke, builtin, Sem.run_bind, Sem.run_pure, Result.andThen_ok, List.map_toArray, List.map_cons, List.map_nil, hs, hx, hr]
  exact hK _ _ h
theorem news_in {w : World} {b o N : Nat} {D : Nat → Int} (h : IsI w (some ⟨b, o, none⟩) N D) : ∀ j u, (((List.range N).map D).map (Value.int .i64))[j]? = some u → w.cell? ((⟨b, o, none⟩ : Addr).add j) = some u := fun j u hu => by
  have hj : j < N := by
    rcases Nat.lt_or_ge j N with h1 | h1
    · exact h1
    · rw [List.getElem?_eq_none (by simpa using h1)] at hu; cases hu
  simp [hj] at hu
  rw [add_off, ← hu]
  exact (h.at0 hj).2.2
theorem cutL_len (W : Int) (n : Nat) (f : Nat → Int) : (cutL W n f).length = n := by unfold cutL; simp
theorem cutL_get {W : Int} {n : Nat} {f : Nat → Int} {i : Nat} (hi : i < n) : (cutL W n f).getD i 0 = cut1 W (sumN f n) (f i) := by
  unfold cutL
  simp [List.getD, hi]
theorem f_le {n : Nat} {f : Nat → Int} (hf : ∀ i, i < n → 0 ≤ f i) {i : Nat} (hi : i < n) : f i ≤ sumN f n := by
  have m := sumN_mono hf (m := i + 1) (by omega)
  have m0 := sumN_nn (f := f) (n := i) (fun j hj => hf j (by omega))
  have m1 : sumN f (i + 1) = sumN f i + f i := rfl
  omega
theorem cutL_in {W : Int} {n : Nat} {f : Nat → Int} (g : good W n f) {i : Nat} (hi : i < n) : 0 ≤ cut1 W (sumN f n) (f i) ∧ cut1 W (sumN f n) (f i) ≤ f i := cut1_in g.1 (g.2.1 i hi) (by have := f_le g.2.1 hi; have := g.2.2; omega)
theorem cut_own {W : Int} {n B : Nat} {f : Nat → Int} {v : Value} {w : World} (g : good W n f) (h : Own B v (cutL W n f) w) : ∃ a0 cap, v = .slice a0 n cap ∧ IsI w a0 n (fun i => cut1 W (sumN f n) (f i)) := by
  obtain ⟨a0, cap, e, i⟩ := own_in h (fun x hx => by
    unfold cutL at hx
    obtain ⟨j, hj, rfl⟩ := List.mem_map.1 hx
    have hj' := List.mem_range.1 hj
    have c := cutL_in g hj'
    have := f_le g.2.1 hj'
    have := g.2.2
    unfold W64
    omega)
  rw [cutL_len] at e i
  exact ⟨a0, cap, e, i.congr (fun k hk => cutL_get hk)⟩
end Sh
end Go.Proofs.YtalbgnhocbgapaaGreatDoor

namespace Go.Proofs.YtalbgnhocbgapaaGreatDoor
open Go.RowKit Go.Deep
namespace Sh
theorem wpList_copy {ops : Array Oper} {rest : List Oper} {o : Oper} {a : Act} {w : World} {Q : Exit → Act → World → Prop} (hgd : o.guard = none) (s x : Operand)
    (ho : o.op = .call { callee := .builtin .append, args := #[s, x], argTypes := #[22, 22] })
    (B g : Nat) (hs : a.eval s = .slice (some ⟨g, 0, none⟩) 0 0) (own : Own B (.slice (some ⟨g, 0, none⟩) 0 0) [] w)
    (p : Option Addr) (n c : Nat) (f : Nat → Int) (hx : a.eval x = .slice p n c) (hI : IsI w p n f) (hn : n ≤ 65536) (hB : B ≤ w.heap.size)
    (h : ∀ g1 c1 w', IsI w' (some ⟨g1, 0, none⟩) n f → Below B w w' → B ≤ g1 → wpList Tryz.prog ops Q rest (a.put o.dst (.slice (some ⟨g1, 0, none⟩) n c1)) w') : wpList Tryz.prog ops Q (o :: rest) a w := by
  by_cases h0 : n = 0
  · subst h0
    exact wpList_zero hgd s x ho g hs (.slice p 0 c) hx (src_in hI c) (h g 0 w (IsI.nil _ _ _) (Below.refl _ _) (World.ownsRow.lt own g rfl).1)
  · obtain ⟨b0, o0, rfl⟩ := hI.some0 (by omega)
    refine wpList_app hgd s x ho B _ [] hs own ⟨b0, o0, none⟩ n c ((List.range n).map f) hx (by simp) (news_in hI) (by omega) (by simp; omega) hB n (by simp) ?_
    intro g1 c1 w' o1 x1 _ hg
    refine h g1 c1 w' ?_ (Below.grown (Below.refl _ _) x1 hB (fun k hk => (World.ownsRow.lt own k hk).1)) hg
    obtain ⟨a0, cap, e1, e2⟩ := own_in o1 (fun x hx => by
      rw [List.nil_append] at hx
      obtain ⟨i, hi, rfl⟩ := List.mem_map.1 hx
      exact (hI.at0 (List.mem_range.1 hi)).1)
    have lq : (([] : List Int) ++ (List.range n).map f).length = n := by simp
    rw [lq] at e1 e2
    injection e1 with e3 e4 e5
    rw [e3]
    exact e2.congr (fun k hk => by simp [hk])
end Sh
end Go.Proofs.YtalbgnhocbgapaaGreatDoor
