/-
  Cut: walks over the program (layer 14).
-/
import Derived.Test.YtpbidcjfnkmddaaYm
namespace Go.Proofs.Ytpbidcjfnkmddaa
open Go.RowKit Go.Deep
namespace Sh
set_option maxRecDepth 100000 in
set_option maxHeartbeats 8000000 in
theorem total_yes (p : Option Addr) (n cp : Nat) (f : Nat → Int) (w : World) (hn : n ≤ 65536) (hf : IsI w p n f) (HG : Hid ((∀ i, i < n → 0 ≤ f i) ∧ sumN f n ≤ 9223372036854775807)) :
    Calls Try.prog 15 #[.slice p n cp] w fun e w' => e = .returned (.tuple #[.int .i64 (sumN f n), .bool true]) ∧ w' = w := by
  have HF := hid hf
  have HN := hid hn
  clear hf hn
  go_enter Try.func15, Try.ntmps15
  go_wp2
  go_loopw [4, 9] (fun sv iv wr => ∃ c : Nat, c ≤ n ∧ iv = .int .i64 (c : Nat) ∧ sv = .int .i64 (sumN f c) ∧ (∀ i, i < c → 0 ≤ f i) ∧ sumN f c ≤ 9223372036854775807 ∧ wr = w) (fun _ iv _ => n - (intOf iv).toNat)
  case atStart => exact ⟨0, by omega, rfl, rfl, fun i hi => absurd hi (Nat.not_lt_zero i), by show (0 : Int) ≤ _; omega, rfl⟩
  case round =>
    obtain ⟨c, hc, rfl, rfl, g1, g2, hwr⟩ := hrel
    have hwr2 := hwr.symm
    subst hwr2
    have G1 := hid g1
    have HC := hid hc
    have s0 := sumN_nn g1
    obtain ⟨s, hs⟩ : ∃ s, sumN f c = s := ⟨_, rfl⟩
    have SE := hid hs
    rw [hs] at s0 g2 ⊢
    clear g1 hs
    by_cases hcn : c < n
    · have HC2 := hid hcn
      have hcI : (c : Int) < n := by omega
      have hcB : (c : Int) ≤ 65536 := by have := HN.out; omega
      obtain ⟨b0, o0, rfl⟩ := HF.out.some0 (show 0 < n by omega)
      obtain ⟨x, hx⟩ : ∃ x, f c = x := ⟨_, rfl⟩
      have at0 := HF.out.at0 hcn
      rw [hx] at at0
      have xc := at0.2.2
      have x1 := at0.1.1
      have x2 := at0.1.2
      have XE := hid hx
      clear at0 hx hcn hc
      have NX : Hid (0 ≤ x → s + x ≤ 9223372036854775807 → ∃ c' : Nat, c' ≤ n ∧ Value.int .i64 (↑c + 1) = .int .i64 (c' : Nat) ∧ Value.int .i64 (s + x) = .int .i64 (sumN f c') ∧ (∀ i, i < c' → 0 ≤ f i) ∧ sumN f c' ≤ 9223372036854775807 ∧ True) := fun q1 q2 => by
        have e : sumN f (c + 1) = s + x := by show sumN f c + f c = _; rw [SE.out, XE.out]
        refine ⟨c + 1, by have := HC2.out; omega, by simp, by rw [e], fun i hi => ?_, by rw [e]; exact q2, trivial⟩
        by_cases l : i < c
        · exact G1.out i l
        · obtain rfl : i = c := by omega
          rw [XE.out]; exact q1
      have q0 : 0 ≤ x := by rw [← XE.out]; exact HG.out.1 c HC2.out
      have q1 : s + x ≤ 9223372036854775807 := by
        have m := sumN_mono HG.out.1 (m := c + 1) (by have := HC2.out; omega)
        have e : sumN f (c + 1) = s + x := by show sumN f c + f c = _; rw [SE.out, XE.out]
        have := HG.out.2
        omega
      have d1 : decide (x < 0) = false := decide_eq_false (by omega)
      have d2 : decide (9223372036854775807 - s < x) = false := decide_eq_false (by omega)
      go_wp2
      exact ⟨NX.out (by omega) (by omega), by have := HC2.out; simp [intOf]; omega⟩
    · have e6 : n = c := by omega
      subst e6
      go_wp2
      go_ret2
      exact ⟨by rw [SE.out]; rfl, by first | trivial | rfl⟩
set_option maxRecDepth 100000 in
set_option maxHeartbeats 8000000 in
theorem total_no (p : Option Addr) (n cp : Nat) (f : Nat → Int) (w : World) (hn : n ≤ 65536) (hf : IsI w p n f) (HB : Hid (¬ ((∀ i, i < n → 0 ≤ f i) ∧ sumN f n ≤ 9223372036854775807))) :
    Calls Try.prog 15 #[.slice p n cp] w fun e w' => e = .returned (.tuple #[.int .i64 0, .bool false]) ∧ w' = w := by
  have HF := hid hf
  have HN := hid hn
  clear hf hn
  go_enter Try.func15, Try.ntmps15
  go_wp2
  go_loopw [4, 9] (fun sv iv wr => ∃ c : Nat, c ≤ n ∧ iv = .int .i64 (c : Nat) ∧ sv = .int .i64 (sumN f c) ∧ (∀ i, i < c → 0 ≤ f i) ∧ sumN f c ≤ 9223372036854775807 ∧ wr = w) (fun _ iv _ => n - (intOf iv).toNat)
  case atStart => exact ⟨0, by omega, rfl, rfl, fun i hi => absurd hi (Nat.not_lt_zero i), by show (0 : Int) ≤ _; omega, rfl⟩
  case round =>
    obtain ⟨c, hc, rfl, rfl, g1, g2, hwr⟩ := hrel
    have hwr2 := hwr.symm
    subst hwr2
    have G1 := hid g1
    have HC := hid hc
    have s0 := sumN_nn g1
    obtain ⟨s, hs⟩ : ∃ s, sumN f c = s := ⟨_, rfl⟩
    have SE := hid hs
    rw [hs] at s0 g2 ⊢
    clear g1 hs
    by_cases hcn : c < n
    · have HC2 := hid hcn
      have hcI : (c : Int) < n := by omega
      have hcB : (c : Int) ≤ 65536 := by have := HN.out; omega
      obtain ⟨b0, o0, rfl⟩ := HF.out.some0 (show 0 < n by omega)
      obtain ⟨x, hx⟩ : ∃ x, f c = x := ⟨_, rfl⟩
      have at0 := HF.out.at0 hcn
      rw [hx] at at0
      have xc := at0.2.2
      have x1 := at0.1.1
      have x2 := at0.1.2
      have XE := hid hx
      clear at0 hx hcn hc
      have NX : Hid (0 ≤ x → s + x ≤ 9223372036854775807 → ∃ c' : Nat, c' ≤ n ∧ Value.int .i64 (↑c + 1) = .int .i64 (c' : Nat) ∧ Value.int .i64 (s + x) = .int .i64 (sumN f c') ∧ (∀ i, i < c' → 0 ≤ f i) ∧ sumN f c' ≤ 9223372036854775807 ∧ True) := fun q1 q2 => by
        have e : sumN f (c + 1) = s + x := by show sumN f c + f c = _; rw [SE.out, XE.out]
        refine ⟨c + 1, by have := HC2.out; omega, by simp, by rw [e], fun i hi => ?_, by rw [e]; exact q2, trivial⟩
        by_cases l : i < c
        · exact G1.out i l
        · obtain rfl : i = c := by omega
          rw [XE.out]; exact q1
      by_cases q0 : x < 0
      · have d1 : decide (x < 0) = true := decide_eq_true q0
        go_wp2
        go_ret2
        exact ⟨rfl, by first | trivial | rfl⟩
      · have d1 : decide (x < 0) = false := decide_eq_false q0
        by_cases q1 : 9223372036854775807 - s < x
        · have d2 : decide (9223372036854775807 - s < x) = true := decide_eq_true q1
          go_wp2
          go_ret2
          exact ⟨rfl, by first | trivial | rfl⟩
        · have d2 : decide (9223372036854775807 - s < x) = false := decide_eq_false q1
          go_wp2
          exact ⟨NX.out (by omega) (by omega), by have := HC2.out; simp [intOf]; omega⟩
    · have e6 : n = c := by omega
      subst e6
      exact absurd ⟨G1.out, by rw [SE.out]; exact g2⟩ HB.out
set_option maxRecDepth 100000 in
set_option maxHeartbeats 8000000 in
theorem cut_neg (W S : Int) (ok : Bool) (p : Option Addr) (n cp : Nat) (w : World) (hW : W < 0)
    (T : Hid (Calls Try.prog 15 #[.slice p n cp] w fun e w' => e = .returned (.tuple #[.int .i64 S, .bool ok]) ∧ w' = w)) :
    Calls Try.prog 9 #[.int .i64 W, .slice p n cp] w fun e w' => e = .returned (.tuple #[.slice none 0 0, .int .i64 1]) ∧ w' = w := by
  have d0 : decide (W < 0) = true := decide_eq_true hW
  go_enter Try.func9, Try.ntmps9
  go_wp2_with fail
  refine T.out.mono ?_
  rintro e9 v ⟨rfl, hv⟩
  have hv2 := hv.symm
  subst hv2
  go_wp2
  go_ret2
  exact ⟨rfl, by first | trivial | rfl⟩
set_option maxRecDepth 100000 in
set_option maxHeartbeats 8000000 in
theorem cut_bad (W S : Int) (p : Option Addr) (n cp : Nat) (w : World) (hW : 0 ≤ W)
    (T : Hid (Calls Try.prog 15 #[.slice p n cp] w fun e w' => e = .returned (.tuple #[.int .i64 S, .bool false]) ∧ w' = w)) :
    Calls Try.prog 9 #[.int .i64 W, .slice p n cp] w fun e w' => e = .returned (.tuple #[.slice none 0 0, .int .i64 1]) ∧ w' = w := by
  have d0 : decide (W < 0) = false := decide_eq_false (by omega)
  go_enter Try.func9, Try.ntmps9
  go_wp2_with fail
  refine T.out.mono ?_
  rintro e9 v ⟨rfl, hv⟩
  have hv2 := hv.symm
  subst hv2
  go_wp2
  go_ret2
  exact ⟨rfl, by first | trivial | rfl⟩
set_option maxRecDepth 100000 in
set_option maxHeartbeats 8000000 in
theorem cut_all (W S : Int) (p : Option Addr) (n cp : Nat) (f : Nat → Int) (w : World) (hW : 0 ≤ W) (hS : S ≤ W)
    (T : Hid (Calls Try.prog 15 #[.slice p n cp] w fun e w' => e = .returned (.tuple #[.int .i64 S, .bool true]) ∧ w' = w))
    (C : Hid (Calls Try.prog 16 #[.slice p n cp] w fun e w' => ∃ v, e = .returned v ∧ Below w.heap.size w w' ∧ Own w.heap.size v ((List.range n).map f) w')) :
    Calls Try.prog 9 #[.int .i64 W, .slice p n cp] w fun e w' => ∃ v, e = .returned (.tuple #[v, .int .i64 0]) ∧ Below w.heap.size w w' ∧ Own w.heap.size v ((List.range n).map f) w' := by
  have d0 : decide (W < 0) = false := decide_eq_false (by omega)
  have d1 : decide (S ≤ W) = true := decide_eq_true hS
  go_enter Try.func9, Try.ntmps9
  go_wp2_with fail
  refine T.out.mono ?_
  rintro e9 v ⟨rfl, hv⟩
  have hv2 := hv.symm
  subst hv2
  go_wp2_with fail
  refine C.out.mono ?_
  rintro e8 v ⟨x, rfl, bl, ow⟩
  have BL := hid bl
  have OW := hid ow
  clear bl ow
  go_wp2
  go_ret2
  exact ⟨_, rfl, BL.out, OW.out⟩
set_option maxRecDepth 100000 in
set_option maxHeartbeats 8000000 in
theorem cut_over (W S : Int) (b0 o0 : Nat) (n cp : Nat) (f : Nat → Int) (w : World) (hn0 : 0 < n) (hn : n ≤ 65536) (hf : IsI w (some ⟨b0, o0, none⟩) n f) (hW : 0 ≤ W) (HW : Hid (W64 W)) (hS : W < S) (HS : Hid (W64 S))
    (T : Hid (Calls Try.prog 15 #[.slice (some ⟨b0, o0, none⟩) n cp] w fun e w' => e = .returned (.tuple #[.int .i64 S, .bool true]) ∧ w' = w))
    (C : Hid (Calls Try.prog 16 #[.slice (some ⟨b0, o0, none⟩) n cp] w fun e w' => ∃ v, e = .returned v ∧ Below w.heap.size w w' ∧ Own w.heap.size v ((List.range n).map f) w')) :
    Calls Try.prog 9 #[.int .i64 W, .slice (some ⟨b0, o0, none⟩) n cp] w fun e w' => ∃ v, e = .returned (.tuple #[v, .int .i64 0]) ∧ Below w.heap.size w w' ∧ Own w.heap.size v ((List.range n).map fun i => part (f i) W S) w' := by
  have HF := hid hf
  have HN := hid hn
  have HN0 := hid hn0
  clear hf hn hn0
  have d0 : decide (W < 0) = false := decide_eq_false (by omega)
  have d1 : decide (S ≤ W) = false := decide_eq_false (by omega)
  go_enter Try.func9, Try.ntmps9
  go_wp2_with fail
  refine T.out.mono ?_
  rintro e9 v ⟨rfl, hv⟩
  have hv2 := hv.symm
  subst hv2
  go_wp2_with fail
  refine C.out.mono ?_
  rintro e8 v ⟨x, rfl, bl, ow⟩
  obtain ⟨g, cap, F, rfl, hg, hc, hm, row, hF⟩ := own_twoA ow HN0.out
  have IN : Hid (Ab w v ∧ ∃ G, v.rowIs g 2 cap G ∧ ∀ i, i < n → G i = .int .i64 (if i < 0 then part (f i) W S else f i)) := ⟨bl, F, row, fun i hi => by rw [hF i hi]; simp⟩
  have GH := hid hg
  have CH := hid hc
  have MH := hid hm
  clear bl ow hg hc hm row hF T C
  go_wp2
  go_loopw [30] (fun iv wr => ∃ c : Nat, c ≤ n ∧ iv = .int .i64 (c : Nat) ∧ Ab w wr ∧ ∃ G, wr.rowIs g 2 cap G ∧ ∀ i, i < n → G i = .int .i64 (if i < c then part (f i) W S else f i)) (fun iv _ => n - (intOf iv).toNat)
  case atStart => exact ⟨0, by omega, rfl, IN.out⟩
  case round =>
    obtain ⟨c, hc, rfl, ar, G, row, hG⟩ := hrel
    have AR := hid ar
    have RW := hid row
    have GG := hid hG
    clear ar row hG IN
    by_cases hcn : c < n
    · have HC := hid hcn
      have hcI : (c : Int) < n := by omega
      have hcB : (c : Int) ≤ 65536 := by have := HN.out; omega
      obtain ⟨x, hx⟩ : ∃ x, f c = x := ⟨_, rfl⟩
      obtain ⟨y, hy⟩ : ∃ y, part x W S = y := ⟨_, rfl⟩
      have at0 := HF.out.at0 hcn
      rw [hx] at at0
      have xc : wr.cell? ⟨b0, o0 + c, none⟩ = some (.int .i64 x) := (Below.cell AR.out at0.2.1).trans at0.2.2
      have XW : Hid (W64 x) := at0.1
      have XE := hid hx
      have YE := hid hy
      have PC := hid (partC x W S wr XW.out HW.out HS.out)
      rw [hy] at PC
      clear at0 hx hcn hy
      go_wp2_with fail
      refine PC.out.mono ?_
      rintro e7 v7 ⟨rfl, b7⟩
      have A7 : Hid (Ab wr v7) := b7
      clear b7
      have R7 := hid (row_ab RW.out A7.out)
      have yc := R7.out.cell (show c < cap by have := CH.out; have := HC.out; omega)
      have yf := R7.out.frozen c
      go_wp2
      refine ⟨⟨c + 1, by have := HC.out; omega, by simp, (AR.out.trans A7.out).set GH.out _, _, R7.out.set c _, fun i hi => ?_⟩, by simp [intOf]; have := HC.out; omega⟩
      have q := GG.out i hi
      by_cases e : i = c
      · simp [e, XE.out, YE.out]
      · rw [if_neg e, q]
        by_cases l : i < c
        · simp [l, show i < c + 1 by omega]
        · simp [l, show ¬ i < c + 1 by omega]
    · have e6 : n = c := by omega
      subst e6
      go_wp2
      go_ret2
      exact ⟨_, rfl, AR.out, row_ownA RW.out GH.out CH.out MH.out (fun i hi => by rw [GG.out i hi]; simp [hi])⟩
/-- CUT -/
theorem cutC : CutC := by
  intro W p n c f w hW hn hf
  by_cases G : (∀ i, i < n → 0 ≤ f i) ∧ sumN f n ≤ 9223372036854775807
  · have T := total_yes p n c f w hn hf G
    constructor
    · rintro ⟨g1, g2, g3⟩
      have C := clone_at p n c f w hn hf
      by_cases l : sumN f n ≤ W
      · have e : cutL W n f = (List.range n).map f := by
          unfold cutL
          refine List.map_congr_left (fun i _ => ?_)
          unfold cut1
          rw [if_neg (by omega)]
        rw [e]
        exact cut_all W (sumN f n) p n c f w g1 l T C
      · have e : cutL W n f = (List.range n).map fun i => part (f i) W (sumN f n) := by
          unfold cutL
          refine List.map_congr_left (fun i _ => ?_)
          unfold cut1
          rw [if_pos (by omega)]
        have n0 : 0 < n := by
          rcases Nat.eq_zero_or_pos n with h0 | h0
          · subst h0
            have z : sumN f 0 = 0 := rfl
            omega
          · exact h0
        have s0 := sumN_nn g2
        obtain ⟨b0, o0, rfl⟩ := hf.some0 n0
        rw [e]
        exact cut_over W (sumN f n) b0 o0 n c f w n0 hn hf g1 hW (by omega) (show W64 _ from ⟨by omega, g3⟩) T C
    · intro b
      have nW : W < 0 := by
        rcases Int.lt_or_le W 0 with h | h
        · exact h
        · exact absurd ⟨h, G⟩ b
      refine (cut_neg W _ _ p n c w nW T).mono ?_
      rintro e w' ⟨rfl, rfl⟩
      exact ⟨rfl, Below.refl _ _⟩
  · have T := total_no p n c f w hn hf G
    constructor
    · intro g
      exact absurd g.2 G
    · intro _
      rcases Int.lt_or_le W 0 with h | h
      · refine (cut_neg W _ _ p n c w h T).mono ?_
        rintro e w' ⟨rfl, rfl⟩
        exact ⟨rfl, Below.refl _ _⟩
      · refine (cut_bad W _ p n c w h T).mono ?_
        rintro e w' ⟨rfl, rfl⟩
        exact ⟨rfl, Below.refl _ _⟩
end Sh
end Go.Proofs.Ytpbidcjfnkmddaa
