/-
  Cuts: walks over the reference (layer 14).
-/
import Derived.Test.YtpbidcjfnkmddaaUg
namespace Go.Proofs.Ytpbidcjfnkmddaa
open Go.RowKit Go.Deep
namespace Sh
set_option maxRecDepth 100000 in
set_option maxHeartbeats 8000000 in
theorem rcut_neg (W : Int) (p : Option Addr) (n cp : Nat) (w : World) (hW : W < 0) :
    Calls Try.prog 10 #[.int .i64 W, .slice p n cp] w fun e w' => e = .returned (.tuple #[.slice none 0 0, .int .i64 1]) ∧ w' = w := by
  have d0 : decide (W < 0) = true := decide_eq_true hW
  go_enter Try.func10, Try.ntmps10
  go_wp2
  go_ret2
  exact ⟨rfl, rfl⟩
set_option maxRecDepth 100000 in
set_option maxHeartbeats 8000000 in
theorem rcut_no (W : Int) (p : Option Addr) (n cp : Nat) (f : Nat → Int) (w : World) (hW : 0 ≤ W) (hn : n ≤ 65536) (hf : IsI w p n f) (HB : Hid (¬ good W n f)) :
    Calls Try.prog 10 #[.int .i64 W, .slice p n cp] w fun e w' => e = .returned (.tuple #[.slice none 0 0, .int .i64 1]) ∧ w' = w := by
  have HF := hid hf
  have HN := hid hn
  clear hf hn
  have d0 : decide (W < 0) = false := decide_eq_false (by omega)
  go_enter Try.func10, Try.ntmps10
  go_wp2
  go_loopw [6, 7] (fun sv iv wr => ∃ c : Nat, c ≤ n ∧ iv = .int .i64 (c : Nat) ∧ sv = .int .i64 (sumN f c) ∧ (∀ i, i < c → 0 ≤ f i) ∧ sumN f c ≤ 9223372036854775807 ∧ wr = w) (fun _ iv _ => n - (intOf iv).toNat)
  case atStart => exact ⟨0, by omega, rfl, rfl, fun i hi => absurd hi (Nat.not_lt_zero i), by show (0 : Int) ≤ _; omega, rfl⟩
  case round =>
    obtain ⟨c, hc, rfl, rfl, g1, g2, hwr⟩ := hrel
    have hwr2 := hwr.symm
    subst hwr2
    have G1 := hid g1
    have HC := hid hc
    have s0 := sumN_nn g1
    obtain ⟨s, hs⟩ : ∃ s, sumN f c = s := ⟨_, rfl⟩
    have SE := hid hs
    rw [hs] at s0 g2 ⊢
    clear g1 hs
    by_cases hcn : c < n
    · have HC2 := hid hcn
      have hcI : (c : Int) < n := by omega
      have hcB : (c : Int) ≤ 65536 := by have := HN.out; omega
      obtain ⟨b0, o0, rfl⟩ := HF.out.some0 (show 0 < n by omega)
      obtain ⟨x, hx⟩ : ∃ x, f c = x := ⟨_, rfl⟩
      have at0 := HF.out.at0 hcn
      rw [hx] at at0
      have xc := at0.2.2
      have x1 := at0.1.1
      have x2 := at0.1.2
      have XE := hid hx
      clear at0 hx hcn hc
      have NX : Hid (0 ≤ x → s + x ≤ 9223372036854775807 → ∃ c' : Nat, c' ≤ n ∧ Value.int .i64 (↑c + 1) = .int .i64 (c' : Nat) ∧ Value.int .i64 (s + x) = .int .i64 (sumN f c') ∧ (∀ i, i < c' → 0 ≤ f i) ∧ sumN f c' ≤ 9223372036854775807 ∧ True) := fun q1 q2 => by
        have e : sumN f (c + 1) = s + x := by show sumN f c + f c = _; rw [SE.out, XE.out]
        refine ⟨c + 1, by have := HC2.out; omega, by simp, by rw [e], fun i hi => ?_, by rw [e]; exact q2, trivial⟩
        by_cases l : i < c
        · exact G1.out i l
        · obtain rfl : i = c := by omega
          rw [XE.out]; exact q1
      by_cases q0 : x < 0
      · have d1 : decide (x < 0) = true := decide_eq_true q0
        go_wp2
        go_ret2
        exact ⟨rfl, by first | trivial | rfl⟩
      · have d1 : decide (x < 0) = false := decide_eq_false q0
        by_cases q1 : 9223372036854775807 - s < x
        · have d2 : decide (9223372036854775807 - s < x) = true := decide_eq_true q1
          go_wp2
          go_ret2
          exact ⟨rfl, by first | trivial | rfl⟩
        · have d2 : decide (9223372036854775807 - s < x) = false := decide_eq_false q1
          go_wp2
          exact ⟨NX.out (by omega) (by omega), by have := HC2.out; simp [intOf]; omega⟩
    · have e6 : n = c := by omega
      subst e6
      exact absurd ⟨hW, G1.out, by rw [SE.out]; exact g2⟩ HB.out
set_option maxRecDepth 100000 in
set_option maxHeartbeats 8000000 in
theorem rcut_all (W : Int) (p : Option Addr) (n cp : Nat) (f : Nat → Int) (w : World) (hW : 0 ≤ W) (hn : n ≤ 65536) (hf : IsI w p n f) (HG : Hid ((∀ i, i < n → 0 ≤ f i) ∧ sumN f n ≤ 9223372036854775807)) (HQ : Hid (decide (W < sumN f n) = false)) :
    Calls Try.prog 10 #[.int .i64 W, .slice p n cp] w fun e w' => ∃ v, e = .returned (.tuple #[v, .int .i64 0]) ∧ Below w.heap.size w w' ∧ Own w.heap.size v (cutL W n f) w' := by
  have HF := hid hf
  have HN := hid hn
  clear hf hn
  have d0 : decide (W < 0) = false := decide_eq_false (by omega)
  go_enter Try.func10, Try.ntmps10
  go_wp2
  go_loopw [6, 7] (fun sv iv wr => ∃ c : Nat, c ≤ n ∧ iv = .int .i64 (c : Nat) ∧ sv = .int .i64 (sumN f c) ∧ (∀ i, i < c → 0 ≤ f i) ∧ sumN f c ≤ 9223372036854775807 ∧ wr = w) (fun _ iv _ => n - (intOf iv).toNat)
  case atStart => exact ⟨0, by omega, rfl, rfl, fun i hi => absurd hi (Nat.not_lt_zero i), by show (0 : Int) ≤ _; omega, rfl⟩
  case round =>
    obtain ⟨c, hc, rfl, rfl, g1, g2, hwr⟩ := hrel
    have hwr2 := hwr.symm
    subst hwr2
    have G1 := hid g1
    have HC := hid hc
    have s0 := sumN_nn g1
    obtain ⟨s, hs⟩ : ∃ s, sumN f c = s := ⟨_, rfl⟩
    have SE := hid hs
    rw [hs] at s0 g2 ⊢
    clear g1 hs
    by_cases hcn : c < n
    · have HC2 := hid hcn
      have hcI : (c : Int) < n := by omega
      have hcB : (c : Int) ≤ 65536 := by have := HN.out; omega
      obtain ⟨b0, o0, rfl⟩ := HF.out.some0 (show 0 < n by omega)
      obtain ⟨x, hx⟩ : ∃ x, f c = x := ⟨_, rfl⟩
      have at0 := HF.out.at0 hcn
      rw [hx] at at0
      have xc := at0.2.2
      have x1 := at0.1.1
      have x2 := at0.1.2
      have XE := hid hx
      clear at0 hx hcn hc
      have NX : Hid (0 ≤ x → s + x ≤ 9223372036854775807 → ∃ c' : Nat, c' ≤ n ∧ Value.int .i64 (↑c + 1) = .int .i64 (c' : Nat) ∧ Value.int .i64 (s + x) = .int .i64 (sumN f c') ∧ (∀ i, i < c' → 0 ≤ f i) ∧ sumN f c' ≤ 9223372036854775807 ∧ True) := fun q1 q2 => by
        have e : sumN f (c + 1) = s + x := by show sumN f c + f c = _; rw [SE.out, XE.out]
        refine ⟨c + 1, by have := HC2.out; omega, by simp, by rw [e], fun i hi => ?_, by rw [e]; exact q2, trivial⟩
        by_cases l : i < c
        · exact G1.out i l
        · obtain rfl : i = c := by omega
          rw [XE.out]; exact q1
      have q0 : 0 ≤ x := by rw [← XE.out]; exact HG.out.1 c HC2.out
      have q1 : s + x ≤ 9223372036854775807 := by
        have m := sumN_mono HG.out.1 (m := c + 1) (by have := HC2.out; omega)
        have e : sumN f (c + 1) = s + x := by show sumN f c + f c = _; rw [SE.out, XE.out]
        have := HG.out.2
        omega
      have d1 : decide (x < 0) = false := decide_eq_false (by omega)
      have d2 : decide (9223372036854775807 - s < x) = false := decide_eq_false (by omega)
      go_wp2
      exact ⟨NX.out (by omega) (by omega), by have := HC2.out; simp [intOf]; omega⟩
    · have e6 : n = c := by omega
      subst e6
      have g3 : decide (W < s) = false := by rw [← SE.out]; exact HQ.out
      have o0 := hid (own_new w w.heap.size (Nat.le_refl _))
      have B0 := hid (bl1 w (.cells #[] 2))
      go_upto_region 12 with fail
      generalize hV : World.alloc w _ = V at *
      obtain ⟨gq, hgq⟩ : ∃ g, w.heap.size = g := ⟨_, rfl⟩
      go_loopw [8, 9] (fun ov iv wr => ∃ c : Nat, c ≤ n ∧ iv = .int .i64 (c : Nat) ∧ Own w.heap.size ov ((List.range c).map (fun i => cut1 W (sumN f n) (f i))) wr ∧ Ab w wr) (fun _ iv _ => n - (intOf iv).toNat)
      case atStart => exact ⟨0, by omega, rfl, o0.out, B0.out⟩
      case round =>
        obtain ⟨c, hc, rfl, ow, ar⟩ := hrel
        have OX := hid ow
        have AR := hid ar
        clear ow ar o0 B0 hgq hV
        by_cases hcn : c < n
        · have HC2 := hid hcn
          have hcI : (c : Int) < n := by omega
          have hcB : (c : Int) ≤ 65536 := by have := HN.out; omega
          obtain ⟨b0, o0, rfl⟩ := HF.out.some0 (show 0 < n by omega)
          obtain ⟨x, hx⟩ : ∃ x, f c = x := ⟨_, rfl⟩
          obtain ⟨y, hy⟩ : ∃ y, cut1 W s x = y := ⟨_, rfl⟩
          have at0 := HF.out.at0 hcn
          rw [hx] at at0
          have xc : wr.cell? ⟨b0, o0 + c, none⟩ = some (.int .i64 x) := (Below.cell AR.out at0.2.1).trans at0.2.2
          have XW : Hid (W64 x) := at0.1
          have YE : Hid (cut1 W (sumN f n) (f c) = y) := by show _ = _; rw [SE.out, hx]; exact hy
          have YH := hid hy
          clear at0 hx hcn hc hy
          have PE : x = y := by
            have h := YH.out
            unfold cut1 at h
            rwa [if_neg (of_decide_eq_false g3)] at h
          subst PE
          have N1 : Hid (∀ j u, (([x] : List Int).map (Value.int .i64))[j]? = some u → (wr.alloc (.cells #[.int .i64 x] 2)).cell? ((⟨wr.heap.size, 0, none⟩ : Addr).add j) = some u) := World.news_of_block (cs := #[.int .i64 x]) (t := 2) (fr := (0, 0)) (heap_alloc_new wr _)
          have O2 := hid (Own.alloc OX.out (.cells #[.int .i64 x] 2))
          have LS : Hid (w.heap.size ≤ (wr.alloc (.cells #[.int .i64 x] 2)).heap.size) := Nat.le_trans AR.out.size (by simp)
          have LE : Hid (((List.range c).map (fun i => cut1 W (sumN f n) (f i))).length = c) := by show _ = _; simp
          go_wp2_with (first
            | (at_builtin; refine wpList_app rfl (.tmp 57) (.tmp 59) rfl w.heap.size _ _ rfl O2.out ⟨wr.heap.size, 0, none⟩ 1 1 [x] rfl rfl N1.out (by decide) (by have := LE.out; have := HC2.out; have := HN.out; omega) LS.out (c + 1) (by rw [LE.out]) ?_; intro g1 c1 w1 o1 x1 y1 _; have O1 := hid o1; have X1 := hid x1; clear o1 x1 y1))
          refine ⟨⟨c + 1, by have := HC2.out; omega, by simp, ?_, ?_⟩, by have := HC2.out; simp [intOf]; omega⟩
          · rw [List.range_succ, List.map_append]
            have h := O1.out
            simp only [List.map_cons, List.map_nil, YE.out]
            exact h
          · exact Below.grown (Ab.trans AR.out (bl1 wr _) : Below _ _ _) X1.out LS.out (fun k hk => (World.ownsRow.lt OX.out k hk).1)
        · have e6 : n = c := by omega
          subst e6
          go_wp2
          go_ret2
          exact ⟨_, rfl, AR.out, OX.out⟩
set_option maxRecDepth 100000 in
set_option maxHeartbeats 8000000 in
theorem rcut_over (W : Int) (p : Option Addr) (n cp : Nat) (f : Nat → Int) (w : World) (hW : 0 ≤ W) (HW : Hid (W64 W)) (hn : n ≤ 65536) (hf : IsI w p n f) (HG : Hid ((∀ i, i < n → 0 ≤ f i) ∧ sumN f n ≤ 9223372036854775807)) (HQ : Hid (decide (W < sumN f n) = true)) :
    Calls Try.prog 10 #[.int .i64 W, .slice p n cp] w fun e w' => ∃ v, e = .returned (.tuple #[v, .int .i64 0]) ∧ Below w.heap.size w w' ∧ Own w.heap.size v (cutL W n f) w' := by
  have HS2 : Hid (W64 (sumN f n)) := ⟨by have := sumN_nn HG.out.1; omega, HG.out.2⟩
  have HF := hid hf
  have HN := hid hn
  clear hf hn
  have d0 : decide (W < 0) = false := decide_eq_false (by omega)
  go_enter Try.func10, Try.ntmps10
  go_wp2
  go_loopw [6, 7] (fun sv iv wr => ∃ c : Nat, c ≤ n ∧ iv = .int .i64 (c : Nat) ∧ sv = .int .i64 (sumN f c) ∧ (∀ i, i < c → 0 ≤ f i) ∧ sumN f c ≤ 9223372036854775807 ∧ wr = w) (fun _ iv _ => n - (intOf iv).toNat)
  case atStart => exact ⟨0, by omega, rfl, rfl, fun i hi => absurd hi (Nat.not_lt_zero i), by show (0 : Int) ≤ _; omega, rfl⟩
  case round =>
    obtain ⟨c, hc, rfl, rfl, g1, g2, hwr⟩ := hrel
    have hwr2 := hwr.symm
    subst hwr2
    have G1 := hid g1
    have HC := hid hc
    have s0 := sumN_nn g1
    obtain ⟨s, hs⟩ : ∃ s, sumN f c = s := ⟨_, rfl⟩
    have SE := hid hs
    rw [hs] at s0 g2 ⊢
    clear g1 hs
    by_cases hcn : c < n
    · have HC2 := hid hcn
      have hcI : (c : Int) < n := by omega
      have hcB : (c : Int) ≤ 65536 := by have := HN.out; omega
      obtain ⟨b0, o0, rfl⟩ := HF.out.some0 (show 0 < n by omega)
      obtain ⟨x, hx⟩ : ∃ x, f c = x := ⟨_, rfl⟩
      have at0 := HF.out.at0 hcn
      rw [hx] at at0
      have xc := at0.2.2
      have x1 := at0.1.1
      have x2 := at0.1.2
      have XE := hid hx
      clear at0 hx hcn hc
      have NX : Hid (0 ≤ x → s + x ≤ 9223372036854775807 → ∃ c' : Nat, c' ≤ n ∧ Value.int .i64 (↑c + 1) = .int .i64 (c' : Nat) ∧ Value.int .i64 (s + x) = .int .i64 (sumN f c') ∧ (∀ i, i < c' → 0 ≤ f i) ∧ sumN f c' ≤ 9223372036854775807 ∧ True) := fun q1 q2 => by
        have e : sumN f (c + 1) = s + x := by show sumN f c + f c = _; rw [SE.out, XE.out]
        refine ⟨c + 1, by have := HC2.out; omega, by simp, by rw [e], fun i hi => ?_, by rw [e]; exact q2, trivial⟩
        by_cases l : i < c
        · exact G1.out i l
        · obtain rfl : i = c := by omega
          rw [XE.out]; exact q1
      have q0 : 0 ≤ x := by rw [← XE.out]; exact HG.out.1 c HC2.out
      have q1 : s + x ≤ 9223372036854775807 := by
        have m := sumN_mono HG.out.1 (m := c + 1) (by have := HC2.out; omega)
        have e : sumN f (c + 1) = s + x := by show sumN f c + f c = _; rw [SE.out, XE.out]
        have := HG.out.2
        omega
      have d1 : decide (x < 0) = false := decide_eq_false (by omega)
      have d2 : decide (9223372036854775807 - s < x) = false := decide_eq_false (by omega)
      go_wp2
      exact ⟨NX.out (by omega) (by omega), by have := HC2.out; simp [intOf]; omega⟩
    · have e6 : n = c := by omega
      subst e6
      have HS3 : Hid (W64 s) := by rw [← SE.out]; exact HS2.out
      have g3 : decide (W < s) = true := by rw [← SE.out]; exact HQ.out
      have o0 := hid (own_new w w.heap.size (Nat.le_refl _))
      have B0 := hid (bl1 w (.cells #[] 2))
      go_upto_region 12 with fail
      generalize hV : World.alloc w _ = V at *
      obtain ⟨gq, hgq⟩ : ∃ g, w.heap.size = g := ⟨_, rfl⟩
      go_loopw [8, 9] (fun ov iv wr => ∃ c : Nat, c ≤ n ∧ iv = .int .i64 (c : Nat) ∧ Own w.heap.size ov ((List.range c).map (fun i => cut1 W (sumN f n) (f i))) wr ∧ Ab w wr) (fun _ iv _ => n - (intOf iv).toNat)
      case atStart => exact ⟨0, by omega, rfl, o0.out, B0.out⟩
      case round =>
        obtain ⟨c, hc, rfl, ow, ar⟩ := hrel
        have OX := hid ow
        have AR := hid ar
        clear ow ar o0 B0 hgq hV
        by_cases hcn : c < n
        · have HC2 := hid hcn
          have hcI : (c : Int) < n := by omega
          have hcB : (c : Int) ≤ 65536 := by have := HN.out; omega
          obtain ⟨b0, o0, rfl⟩ := HF.out.some0 (show 0 < n by omega)
          obtain ⟨x, hx⟩ : ∃ x, f c = x := ⟨_, rfl⟩
          obtain ⟨y, hy⟩ : ∃ y, cut1 W s x = y := ⟨_, rfl⟩
          have at0 := HF.out.at0 hcn
          rw [hx] at at0
          have xc : wr.cell? ⟨b0, o0 + c, none⟩ = some (.int .i64 x) := (Below.cell AR.out at0.2.1).trans at0.2.2
          have XW : Hid (W64 x) := at0.1
          have YE : Hid (cut1 W (sumN f n) (f c) = y) := by show _ = _; rw [SE.out, hx]; exact hy
          have YH := hid hy
          clear at0 hx hcn hc hy
          have PC := hid (rpart_at x W s wr XW.out HW.out HS3.out)
          have PE : Hid (part x W s = y) := by
            have h := YH.out
            unfold cut1 at h
            rwa [if_pos (of_decide_eq_true g3)] at h
          go_wp2_with fail
          refine PC.out.mono ?_
          rintro e9 v9 ⟨rfl, hv9⟩
          have hv8 := hv9.symm
          subst hv8
          rw [PE.out]
          have N1 : Hid (∀ j u, (([y] : List Int).map (Value.int .i64))[j]? = some u → (wr.alloc (.cells #[.int .i64 y] 2)).cell? ((⟨wr.heap.size, 0, none⟩ : Addr).add j) = some u) := World.news_of_block (cs := #[.int .i64 y]) (t := 2) (fr := (0, 0)) (heap_alloc_new wr _)
          have O2 := hid (Own.alloc OX.out (.cells #[.int .i64 y] 2))
          have LS : Hid (w.heap.size ≤ (wr.alloc (.cells #[.int .i64 y] 2)).heap.size) := Nat.le_trans AR.out.size (by simp)
          have LE : Hid (((List.range c).map (fun i => cut1 W (sumN f n) (f i))).length = c) := by show _ = _; simp
          go_wp2_with (first
            | (at_builtin; refine wpList_app rfl (.tmp 57) (.tmp 59) rfl w.heap.size _ _ rfl O2.out ⟨wr.heap.size, 0, none⟩ 1 1 [y] rfl rfl N1.out (by decide) (by have := LE.out; have := HC2.out; have := HN.out; omega) LS.out (c + 1) (by rw [LE.out]) ?_; intro g1 c1 w1 o1 x1 y1 _; have O1 := hid o1; have X1 := hid x1; clear o1 x1 y1))
          refine ⟨⟨c + 1, by have := HC2.out; omega, by simp, ?_, ?_⟩, by have := HC2.out; simp [intOf]; omega⟩
          · rw [List.range_succ, List.map_append]
            have h := O1.out
            simp only [List.map_cons, List.map_nil, YE.out]
            exact h
          · exact Below.grown (Ab.trans AR.out (bl1 wr _) : Below _ _ _) X1.out LS.out (fun k hk => (World.ownsRow.lt OX.out k hk).1)
        · have e6 : n = c := by omega
          subst e6
          go_wp2
          go_ret2
          exact ⟨_, rfl, AR.out, OX.out⟩
theorem rcut_at (W : Int) (p : Option Addr) (n cp : Nat) (f : Nat → Int) (w : World) (hW : W64 W) (hn : n ≤ 65536) (hf : IsI w p n f) :
    (good W n f → Calls Try.prog 10 #[.int .i64 W, .slice p n cp] w fun e w' => ∃ v, e = .returned (.tuple #[v, .int .i64 0]) ∧ Below w.heap.size w w' ∧ Own w.heap.size v (cutL W n f) w') ∧
    (¬ good W n f → Calls Try.prog 10 #[.int .i64 W, .slice p n cp] w fun e w' => e = .returned (.tuple #[.slice none 0 0, .int .i64 1]) ∧ w' = w) := by
  refine ⟨fun g => ?_, fun b => ?_⟩
  · by_cases q : W < sumN f n
    · exact rcut_over W p n cp f w g.1 hW hn hf g.2 (decide_eq_true q)
    · exact rcut_all W p n cp f w g.1 hn hf g.2 (decide_eq_false q)
  · by_cases q : W < 0
    · exact rcut_neg W p n cp w q
    · exact rcut_no W p n cp f w (by omega) hn hf b
end Sh
end Go.Proofs.Ytpbidcjfnkmddaa
