/-
  Each out its part or one more, all together the part of all: the walk (layer 17).
-/
import Derived.Test.YtehadalddjbclaaTrB
namespace Go.Proofs.Ytehadalddjbclaa
open Go.RowKit Go.Deep
namespace Tr
open Sh
set_option maxRecDepth 100000 in
set_option maxHeartbeats 16000000 in
theorem parts_long (TC : TakesC) (W h : Int) (p : Option Addr) (n cp : Nat) (w : World) (hl : 65536 < n) :
    Calls Try.prog 4 #[.int .i64 W, .int .i64 h, .slice p n cp] w fun e w' => e = .returned (.bool true) ∧ Below w.heap.size w w' := by
  have LV := hid (awake17_at TC w)
  have lI : decide ((65536 : Int) < (n : Int)) = true := decide_eq_true (by omega)
  clear TC
  go_enter Try.func4, Try.ntmps4
  go_wp2_with fail
  refine LV.out.mono ?_
  rintro e w1 ⟨rfl, b1⟩
  have A1 : Hid (Ab w w1) := b1
  clear b1
  go_wp2
  go_ret
  exact ⟨rfl, A1.out⟩
set_option maxRecDepth 100000 in
set_option maxHeartbeats 16000000 in
theorem parts_bad (TC : TakesC) (W h : Int) (p : Option Addr) (n cp : Nat) (f : Nat → Int) (w : World) (hn : n ≤ 65536) (hf : IsI w p n f)
    (CT : Hid (∀ (g c : Nat) (v : World), IsI v (some ⟨g, 0, none⟩) n f → Calls Try.prog 6 #[.int .i64 W, .int .i64 h, .slice (some ⟨g, 0, none⟩) n c] v fun e w' => e = .returned (.tuple #[.slice none 0 0, .int .i64 1]) ∧ Below v.heap.size v w')) :
    Calls Try.prog 4 #[.int .i64 W, .int .i64 h, .slice p n cp] w fun e w' => e = .returned (.bool true) ∧ Below w.heap.size w w' := by
  have LV := hid (awake17_at TC w)
  have lI : decide ((65536 : Int) < ((n : Nat) : Int)) = false := decide_eq_false (by omega)
  have HN := hid hn
  have IW := hid hf
  clear TC hf hn
  go_enter Try.func4, Try.ntmps4
  go_wp2_with fail
  refine LV.out.mono ?_
  rintro e w1 ⟨rfl, b1⟩
  have A1 : Hid (Ab w w1) := b1
  clear b1 LV
  have OO := hid (own_new w1 w1.heap.size (Nat.le_refl _))
  have B8 : Hid (Ab w1 (w1.alloc (.cells #[] 2))) := bl1 w1 (.cells #[] 2)
  have I1 := hid (IW.out.below (A1.out.trans B8.out))
  go_wp2_with (first
    | (at_builtin; refine wpList_copy rfl (.tmp 26) (.tmp 27) rfl w1.heap.size w1.heap.size rfl OO.out p n cp f rfl I1.out HN.out (by simp) ?_; intro g1 c1 w4 i4 b4 _; have I4 := hid i4; have A4 : Hid (Ab w w4) := A1.out.trans (Below.trans (bl1 w1 (.cells #[] 2)) b4); clear i4 b4))
  clear OO B8 I1
  refine (CT.out g1 c1 w4 I4.out).mono ?_
  rintro e9 v3 ⟨rfl, b3⟩
  have A3 : Hid (Ab w v3) := A4.out.trans b3
  clear b3
  go_wp2
  go_ret
  exact ⟨rfl, A3.out⟩
set_option maxRecDepth 100000 in
set_option maxHeartbeats 16000000 in
theorem parts_go (TC : TakesC) (W h : Int) (p : Option Addr) (n cp : Nat) (f : Nat → Int) (w : World) (hn : n ≤ 65536) (hW0 : 0 ≤ W) (hW : W ≤ 9223372036854775807) (hh0 : 0 ≤ h) (hh : h ≤ 9223372036854775807) (HG : Hid (good17 W h n f)) (hf : IsI w p n f)
    (PC : Hid (∀ y z v, W64 y → W64 z → Calls Try.prog 9 #[.int .i64 h, .int .i64 y, .int .i64 z] v fun e w' => e = .returned (.int .i64 (Sh.part h y z)) ∧ Below v.heap.size v w'))
    (CT : Hid (∀ (g c : Nat) (v : World), IsI v (some ⟨g, 0, none⟩) n f → Calls Try.prog 6 #[.int .i64 W, .int .i64 h, .slice (some ⟨g, 0, none⟩) n c] v fun e w' => ∃ a0 cap, e = .returned (.tuple #[.slice a0 n cap, .int .i64 0]) ∧ Below v.heap.size v w' ∧ IsI w' a0 n (tkA h W f))) :
    Calls Try.prog 4 #[.int .i64 W, .int .i64 h, .slice p n cp] w fun e w' => e = .returned (.bool true) ∧ Below w.heap.size w w' := by
  have LV := hid (awake17_at TC w)
  have lI : decide ((65536 : Int) < ((n : Nat) : Int)) = false := decide_eq_false (by omega)
  have HN := hid hn
  have IW := hid hf
  clear TC hf hn
  go_enter Try.func4, Try.ntmps4
  go_wp2_with fail
  refine LV.out.mono ?_
  rintro e w1 ⟨rfl, b1⟩
  have A1 : Hid (Ab w w1) := b1
  clear b1 LV
  have OO := hid (own_new w1 w1.heap.size (Nat.le_refl _))
  have B8 : Hid (Ab w1 (w1.alloc (.cells #[] 2))) := bl1 w1 (.cells #[] 2)
  have I1 := hid (IW.out.below (A1.out.trans B8.out))
  go_wp2_with (first
    | (at_builtin; refine wpList_copy rfl (.tmp 26) (.tmp 27) rfl w1.heap.size w1.heap.size rfl OO.out p n cp f rfl I1.out HN.out (by simp) ?_; intro g1 c1 w4 i4 b4 _; have I4 := hid i4; have A4 : Hid (Ab w w4) := A1.out.trans (Below.trans (bl1 w1 (.cells #[] 2)) b4); clear i4 b4))
  clear OO B8 I1
  refine (CT.out g1 c1 w4 I4.out).mono ?_
  rintro e9 v3 ⟨a3, c3, rfl, b3, i3⟩
  have A3 : Hid (Ab w v3) := A4.out.trans b3
  have I3 := hid i3
  clear b3 i3 CT A4 I4
  have nn : ((n : Int) != (n : Int)) = false := by simp
  go_wp2
  go_loopw [10, 11, 12] (fun sv kv iv wr => ∃ c : Nat, c ≤ n ∧ iv = .int .i64 (c : Nat) ∧ sv = .int .i64 (sumN f c) ∧ kv = .int .i64 (Sh.part h (sumN f c) W) ∧ Ab v3 wr) (fun _ _ iv _ => n - (intOf iv).toNat)
  case atStart => exact ⟨0, by omega, rfl, rfl, by show Value.int .i64 0 = .int .i64 (Sh.part h 0 W); rw [part_0], Ab.refl _⟩
  case round =>
    obtain ⟨c, hc, rfl, rfl, rfl, ar⟩ := hrel
    have AR := hid ar
    obtain ⟨s0, s1⟩ := HG.out.2.2.sum hc
    obtain ⟨s, hs⟩ : ∃ s, sumN f c = s := ⟨_, rfl⟩
    obtain ⟨l, hl⟩ : ∃ l, Sh.part h s W = l := ⟨_, rfl⟩
    have SE := hid hs
    have LE := hid hl
    have lb := part_in h s W
    rw [hl] at lb
    rw [hs] at s0 s1 ⊢
    rw [hl]
    clear hs hl ar
    by_cases hcn : c < n
    · have HC2 := hid hcn
      have hcI : (c : Int) < n := by omega
      have hcB : (c : Int) ≤ 65536 := by have := HN.out; omega
      obtain ⟨b0, o0, rfl⟩ := IW.out.some0 (show 0 < n by omega)
      obtain ⟨b2, o2, rfl⟩ := I3.out.some0 (show 0 < n by omega)
      obtain ⟨x, hx⟩ : ∃ x, f c = x := ⟨_, rfl⟩
      obtain ⟨y, hy⟩ : ∃ y, tkA h W f c = y := ⟨_, rfl⟩
      obtain ⟨o, ho⟩ : ∃ o, Sh.part h x W = o := ⟨_, rfl⟩
      have at0 := IW.out.at0 hcn
      have at2 := I3.out.at0 hcn
      rw [hx] at at0
      rw [hy] at at2
      have xc : wr.cell? ⟨b0, o0 + c, none⟩ = some (.int .i64 x) := (Below.cell (A3.out.trans AR.out) at0.2.1).trans at0.2.2
      have yc : wr.cell? ⟨b2, o2 + c, none⟩ = some (.int .i64 y) := (Below.cell AR.out at2.2.1).trans at2.2.2
      have LX : Hid (b0 < wr.heap.size ∧ b2 < wr.heap.size) := ⟨Nat.lt_of_lt_of_le at0.2.1 (A3.out.trans AR.out).size, Nat.lt_of_lt_of_le at2.2.1 AR.out.size⟩
      have x1 := at0.1.1
      have x2 := at0.1.2
      have sum1 : Hid (sumN f (c + 1) = s + x) := by show _ = _; show sumN f c + f c = _; rw [SE.out, hx]
      have took1 : Hid (Sh.part h (s + x) W = l + y) := by
        show _ = _
        have e : tkA h W f c = Sh.part h (sumN f (c + 1)) W - Sh.part h (sumN f c) W := rfl
        rw [sum1.out, SE.out, LE.out, hy] at e
        omega
      have lb2 := part_in h (s + x) W
      rw [took1.out] at lb2
      obtain ⟨s2, s3⟩ := HG.out.2.2.sum (k := c + 1) hcn
      rw [sum1.out] at s2 s3
      have x0 : 0 ≤ x := by rw [← hx]; exact HG.out.2.2.1 c hcn
      have y0 : 0 ≤ y := by rw [← hy]; exact tk_nn hh0 hh HG.out.2.2 hcn
      have y1 : y ≤ h := by rw [← hy]; exact tk_in hh0 hh HG.out.2.2 hcn
      have ob := part_in h x W
      rw [ho] at ob
      have QA : y = o ∨ y = o + 1 := by
        have q := tk_own hh0 hh HG.out.2.2 hcn
        rw [hx, ho, hy] at q
        exact q
      have QY : x = 0 → y = 0 := fun e => by rw [← hy]; exact tk_zero (by rw [hx]; exact e)
      have QX : h = W → y = x := fun e => by
        have q := tk_same hW HG.out.2.2 hcn
        rw [← e, hx] at q
        rw [← hy, ← e]
        exact q
      have PCX : Hid (∀ v, Calls Try.prog 9 #[.int .i64 h, .int .i64 x, .int .i64 W] v fun e w' => e = .returned (.int .i64 o) ∧ Below v.heap.size v w') := fun v => by
        have q := PC.out x W v ⟨by omega, by omega⟩ ⟨by omega, hW⟩
        rw [ho] at q
        exact q
      clear at0 at2 hx hy ho hcn hc PC
      rcases QA with qa | qa
      · by_cases qz : x = 0
        · have qy := QY qz
          by_cases qh : h = W
          · clear QY QX
            subst qa
            subst qz
            subst qy
            have sum0 : Hid (sumN f (c + 1) = s) := by have q := sum1.out; rw [Int.add_zero] at q; exact q
            have z7 : decide ((0 : Int) < 0) = false := by decide
            subst qh
            go_wp2_with fail
            refine (PCX.out _).mono ?_
            rintro e9 v7 ⟨rfl, b7⟩
            have A7 : Hid (Ab wr v7) := b7
            have x7 : v7.cell? ⟨b0, o0 + c, none⟩ = some (.int .i64 0) := (Below.cell b7 LX.out.1).trans xc
            have y7 : v7.cell? ⟨b2, o2 + c, none⟩ = some (.int .i64 0) := (Below.cell b7 LX.out.2).trans yc
            clear b7
            go_upto_region 19 with fail
            obtain ⟨UU, E, hF1, hF2⟩ := cls v7
            have HU := hid hF2
            have HU1 := hid hF1
            have u1 : ∀ u, (E u).cell? ⟨b0, o0 + c, none⟩ = some (.int .i64 0) := fun u => (Below.cell (A7.out.trans (hF1 u)) LX.out.1).trans xc
            have u2 : ∀ u, (E u).cell? ⟨b2, o2 + c, none⟩ = some (.int .i64 0) := fun u => (Below.cell (A7.out.trans (hF1 u)) LX.out.2).trans yc
            have DD0 := HU.out _ (Ab.refl v7).drew
            clear hF1 hF2
            refine region_cls E (by kernel_rfl) (by kernel_rfl) DD0 ?_
            repeat (go_big_quiet_step (with_reducible rfl))
            refine wpQuiet_nil ?_
            intro z hwz
            obtain ⟨u0, hu⟩ := hwz
            have AZ : Hid (Ab wr z) := by rw [hu]; exact A7.out.trans (HU1.out u0)
            clear hu u0
            clear HU HU1 DD0 u1 u2
            clear E UU
            go_wp2
            refine ⟨⟨c + 1, by have := HC2.out; omega, by simp, by rw [sum0.out], by rw [sum0.out, LE.out], AR.out.trans AZ.out⟩, by have := HC2.out; simp [intOf]; omega⟩
          · clear QY QX
            subst qa
            subst qz
            subst qy
            have sum0 : Hid (sumN f (c + 1) = s) := by have q := sum1.out; rw [Int.add_zero] at q; exact q
            have z7 : decide ((0 : Int) < 0) = false := by decide
            have z5 : (h == W) = false := by simp [qh]
            go_wp2_with fail
            refine (PCX.out _).mono ?_
            rintro e9 v7 ⟨rfl, b7⟩
            have A7 : Hid (Ab wr v7) := b7
            have x7 : v7.cell? ⟨b0, o0 + c, none⟩ = some (.int .i64 0) := (Below.cell b7 LX.out.1).trans xc
            have y7 : v7.cell? ⟨b2, o2 + c, none⟩ = some (.int .i64 0) := (Below.cell b7 LX.out.2).trans yc
            clear b7
            go_upto_region 19 with fail
            obtain ⟨UU, E, hF1, hF2⟩ := cls v7
            have HU := hid hF2
            have HU1 := hid hF1
            have u1 : ∀ u, (E u).cell? ⟨b0, o0 + c, none⟩ = some (.int .i64 0) := fun u => (Below.cell (A7.out.trans (hF1 u)) LX.out.1).trans xc
            have u2 : ∀ u, (E u).cell? ⟨b2, o2 + c, none⟩ = some (.int .i64 0) := fun u => (Below.cell (A7.out.trans (hF1 u)) LX.out.2).trans yc
            have DD0 := HU.out _ (Ab.refl v7).drew
            clear hF1 hF2
            refine region_cls E (by kernel_rfl) (by kernel_rfl) DD0 ?_
            repeat (go_big_quiet_step (with_reducible rfl))
            refine wpQuiet_nil ?_
            intro z hwz
            obtain ⟨u0, hu⟩ := hwz
            have AZ : Hid (Ab wr z) := by rw [hu]; exact A7.out.trans (HU1.out u0)
            clear hu u0
            clear HU HU1 DD0 u1 u2
            clear E UU
            go_wp2
            refine ⟨⟨c + 1, by have := HC2.out; omega, by simp, by rw [sum0.out], by rw [sum0.out, LE.out], AR.out.trans AZ.out⟩, by have := HC2.out; simp [intOf]; omega⟩
        · by_cases qh : h = W
          · have qx := QX qh
            clear QY QX
            subst qa
            have z0 : decide (y < 0) = false := decide_eq_false (by omega)
            subst qx
            subst qh
            have z3 : (y == 0) = false := by simpa using qz
            go_wp2_with fail
            refine (PCX.out _).mono ?_
            rintro e9 v7 ⟨rfl, b7⟩
            have A7 : Hid (Ab wr v7) := b7
            have x7 : v7.cell? ⟨b0, o0 + c, none⟩ = some (.int .i64 (y)) := (Below.cell b7 LX.out.1).trans xc
            have y7 : v7.cell? ⟨b2, o2 + c, none⟩ = some (.int .i64 (y)) := (Below.cell b7 LX.out.2).trans yc
            clear b7
            go_upto_region 19 with fail
            obtain ⟨UU, E, hF1, hF2⟩ := cls v7
            have HU := hid hF2
            have HU1 := hid hF1
            have u1 : ∀ u, (E u).cell? ⟨b0, o0 + c, none⟩ = some (.int .i64 (y)) := fun u => (Below.cell (A7.out.trans (hF1 u)) LX.out.1).trans xc
            have u2 : ∀ u, (E u).cell? ⟨b2, o2 + c, none⟩ = some (.int .i64 (y)) := fun u => (Below.cell (A7.out.trans (hF1 u)) LX.out.2).trans yc
            have DD0 := HU.out _ (Ab.refl v7).drew
            clear hF1 hF2
            refine region_cls E (by kernel_rfl) (by kernel_rfl) DD0 ?_
            repeat (go_big_quiet_step (with_reducible rfl))
            refine wpQuiet_nil ?_
            intro z hwz
            obtain ⟨u0, hu⟩ := hwz
            have AZ : Hid (Ab wr z) := by rw [hu]; exact A7.out.trans (HU1.out u0)
            clear hu u0
            clear HU HU1 DD0 u1 u2
            clear E UU
            go_wp2
            refine ⟨⟨c + 1, by have := HC2.out; omega, by simp, by rw [sum1.out], by rw [sum1.out, took1.out], AR.out.trans AZ.out⟩, by have := HC2.out; simp [intOf]; omega⟩
          · clear QY QX
            subst qa
            have z0 : decide (y < 0) = false := decide_eq_false (by omega)
            have z3 : (x == 0) = false := by simp [qz]
            have z5 : (h == W) = false := by simp [qh]
            go_wp2_with fail
            refine (PCX.out _).mono ?_
            rintro e9 v7 ⟨rfl, b7⟩
            have A7 : Hid (Ab wr v7) := b7
            have x7 : v7.cell? ⟨b0, o0 + c, none⟩ = some (.int .i64 x) := (Below.cell b7 LX.out.1).trans xc
            have y7 : v7.cell? ⟨b2, o2 + c, none⟩ = some (.int .i64 (y)) := (Below.cell b7 LX.out.2).trans yc
            clear b7
            go_upto_region 19 with fail
            obtain ⟨UU, E, hF1, hF2⟩ := cls v7
            have HU := hid hF2
            have HU1 := hid hF1
            have u1 : ∀ u, (E u).cell? ⟨b0, o0 + c, none⟩ = some (.int .i64 x) := fun u => (Below.cell (A7.out.trans (hF1 u)) LX.out.1).trans xc
            have u2 : ∀ u, (E u).cell? ⟨b2, o2 + c, none⟩ = some (.int .i64 (y)) := fun u => (Below.cell (A7.out.trans (hF1 u)) LX.out.2).trans yc
            have DD0 := HU.out _ (Ab.refl v7).drew
            clear hF1 hF2
            refine region_cls E (by kernel_rfl) (by kernel_rfl) DD0 ?_
            repeat (go_big_quiet_step (with_reducible rfl))
            refine wpQuiet_nil ?_
            intro z hwz
            obtain ⟨u0, hu⟩ := hwz
            have AZ : Hid (Ab wr z) := by rw [hu]; exact A7.out.trans (HU1.out u0)
            clear hu u0
            clear HU HU1 DD0 u1 u2
            clear E UU
            go_wp2
            refine ⟨⟨c + 1, by have := HC2.out; omega, by simp, by rw [sum1.out], by rw [sum1.out, took1.out], AR.out.trans AZ.out⟩, by have := HC2.out; simp [intOf]; omega⟩
      · by_cases qz : x = 0
        · exact absurd (QY qz) (by omega)
        · by_cases qh : h = W
          · have qx := QX qh
            clear QY QX
            subst qa
            have z0 : decide (o + 1 < 0) = false := decide_eq_false (by omega)
            have z1 : (o + 1 == o) = false := by rw [beq_eq_false_iff_ne]; omega
            have w1 : o + 1 ≤ 9223372036854775807 := by omega
            subst qx
            subst qh
            have z3 : (o + 1 == 0) = false := by simpa using qz
            go_wp2_with fail
            refine (PCX.out _).mono ?_
            rintro e9 v7 ⟨rfl, b7⟩
            have A7 : Hid (Ab wr v7) := b7
            have x7 : v7.cell? ⟨b0, o0 + c, none⟩ = some (.int .i64 (o + 1)) := (Below.cell b7 LX.out.1).trans xc
            have y7 : v7.cell? ⟨b2, o2 + c, none⟩ = some (.int .i64 (o + 1)) := (Below.cell b7 LX.out.2).trans yc
            clear b7
            go_upto_region 19 with fail
            obtain ⟨UU, E, hF1, hF2⟩ := cls v7
            have HU := hid hF2
            have HU1 := hid hF1
            have u1 : ∀ u, (E u).cell? ⟨b0, o0 + c, none⟩ = some (.int .i64 (o + 1)) := fun u => (Below.cell (A7.out.trans (hF1 u)) LX.out.1).trans xc
            have u2 : ∀ u, (E u).cell? ⟨b2, o2 + c, none⟩ = some (.int .i64 (o + 1)) := fun u => (Below.cell (A7.out.trans (hF1 u)) LX.out.2).trans yc
            have DD0 := HU.out _ (Ab.refl v7).drew
            clear hF1 hF2
            refine region_cls E (by kernel_rfl) (by kernel_rfl) DD0 ?_
            repeat (go_big_quiet_step (with_reducible rfl))
            refine wpQuiet_nil ?_
            intro z hwz
            obtain ⟨u0, hu⟩ := hwz
            have AZ : Hid (Ab wr z) := by rw [hu]; exact A7.out.trans (HU1.out u0)
            clear hu u0
            clear HU HU1 DD0 u1 u2
            clear E UU
            go_wp2
            refine ⟨⟨c + 1, by have := HC2.out; omega, by simp, by rw [sum1.out], by rw [sum1.out, took1.out], AR.out.trans AZ.out⟩, by have := HC2.out; simp [intOf]; omega⟩
          · clear QY QX
            subst qa
            have z0 : decide (o + 1 < 0) = false := decide_eq_false (by omega)
            have z1 : (o + 1 == o) = false := by rw [beq_eq_false_iff_ne]; omega
            have w1 : o + 1 ≤ 9223372036854775807 := by omega
            have z3 : (x == 0) = false := by simp [qz]
            have z5 : (h == W) = false := by simp [qh]
            go_wp2_with fail
            refine (PCX.out _).mono ?_
            rintro e9 v7 ⟨rfl, b7⟩
            have A7 : Hid (Ab wr v7) := b7
            have x7 : v7.cell? ⟨b0, o0 + c, none⟩ = some (.int .i64 x) := (Below.cell b7 LX.out.1).trans xc
            have y7 : v7.cell? ⟨b2, o2 + c, none⟩ = some (.int .i64 (o + 1)) := (Below.cell b7 LX.out.2).trans yc
            clear b7
            go_upto_region 19 with fail
            obtain ⟨UU, E, hF1, hF2⟩ := cls v7
            have HU := hid hF2
            have HU1 := hid hF1
            have u1 : ∀ u, (E u).cell? ⟨b0, o0 + c, none⟩ = some (.int .i64 x) := fun u => (Below.cell (A7.out.trans (hF1 u)) LX.out.1).trans xc
            have u2 : ∀ u, (E u).cell? ⟨b2, o2 + c, none⟩ = some (.int .i64 (o + 1)) := fun u => (Below.cell (A7.out.trans (hF1 u)) LX.out.2).trans yc
            have DD0 := HU.out _ (Ab.refl v7).drew
            clear hF1 hF2
            refine region_cls E (by kernel_rfl) (by kernel_rfl) DD0 ?_
            repeat (go_big_quiet_step (with_reducible rfl))
            refine wpQuiet_nil ?_
            intro z hwz
            obtain ⟨u0, hu⟩ := hwz
            have AZ : Hid (Ab wr z) := by rw [hu]; exact A7.out.trans (HU1.out u0)
            clear hu u0
            clear HU HU1 DD0 u1 u2
            clear E UU
            go_wp2
            refine ⟨⟨c + 1, by have := HC2.out; omega, by simp, by rw [sum1.out], by rw [sum1.out, took1.out], AR.out.trans AZ.out⟩, by have := HC2.out; simp [intOf]; omega⟩
    · have e6 : n = c := by omega
      subst e6
      have M := HG.out
      have mo := tk_most hh0 hh M.2.2
      rw [tk_sum, SE.out, LE.out] at mo
      have PCX : Hid (∀ v, Calls Try.prog 9 #[.int .i64 h, .int .i64 s, .int .i64 W] v fun e w' => e = .returned (.int .i64 l) ∧ Below v.heap.size v w') := fun v => by
        have q := PC.out s W v ⟨by omega, by omega⟩ ⟨by omega, hW⟩
        rw [LE.out] at q
        exact q
      have z0 : (l == l) = true := by simp
      have z1 : decide (l ≤ h) = true := decide_eq_true mo.1
      have QE : W ≠ 0 → s = W → l = h := fun a b => mo.2 (by omega) b
      clear mo M PC hc
      by_cases q1 : s = W
      · have z2 : (s != W) = false := by simp [q1]
        by_cases q2 : W = 0
        · have z3 : (W == 0) = true := by simp [q2]
          clear QE q1 q2
          go_wp2_with fail
          refine (PCX.out _).mono ?_
          rintro e9 v7 ⟨rfl, b7⟩
          have A7 : Hid (Ab w v7) := (A3.out.trans AR.out).call b7
          clear b7
          go_wp2
          all_goals (go_ret; exact ⟨rfl, A7.out⟩)
        · have z3 : (W == 0) = false := by simp [q2]
          have z4 : (l == h) = true := by simp [QE q2 q1]
          clear QE q1 q2
          go_wp2_with fail
          refine (PCX.out _).mono ?_
          rintro e9 v7 ⟨rfl, b7⟩
          have A7 : Hid (Ab w v7) := (A3.out.trans AR.out).call b7
          clear b7
          go_wp2
          all_goals (go_ret; exact ⟨rfl, A7.out⟩)
      · have z2 : (s != W) = true := by simp [q1]
        clear QE q1
        go_wp2_with fail
        refine (PCX.out _).mono ?_
        rintro e9 v7 ⟨rfl, b7⟩
        have A7 : Hid (Ab w v7) := (A3.out.trans AR.out).call b7
        clear b7
        go_wp2
        all_goals (go_ret; exact ⟨rfl, A7.out⟩)
theorem parts17_at (SC : PartC) (TC : TakesC) (W h : Int) (p : Option Addr) (n cp : Nat) (f : Nat → Int) (w : World) (hW : W64 W) (hh : W64 h) (hf : IsI w p n f) :
    Calls Try.prog 4 #[.int .i64 W, .int .i64 h, .slice p n cp] w fun e w' => e = .returned (.bool true) ∧ Below w.heap.size w w' := by
  by_cases hl : 65536 < n
  · exact parts_long TC W h p n cp w hl
  have hn : n ≤ 65536 := by omega
  by_cases g : good17 W h n f
  · refine parts_go TC W h p n cp f w hn g.1 hW.2 g.2.1 hh.2 g hf (fun y z v hy hz => SC h y z v hh hy hz) (fun g1 c1 v i => ((TC W h _ n c1 f v hW hh hn i).1 g).mono ?_)
    rintro e w' ⟨u, rfl, b, o⟩
    obtain ⟨a0, cap, rfl, i⟩ := tk_own17 g hh o
    exact ⟨a0, cap, rfl, b, i⟩
  · exact parts_bad TC W h p n cp f w hn hf (fun g1 c1 v i => (TC W h _ n c1 f v hW hh hn i).2 g)
end Tr
end Go.Proofs.Ytehadalddjbclaa
