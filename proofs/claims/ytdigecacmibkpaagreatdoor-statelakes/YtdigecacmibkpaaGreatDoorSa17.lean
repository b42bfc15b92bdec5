/-
  Some of the texts of this proof, one behind the other.
-/
import Derived.Deep.QuietTactic
import Derived.Test.YtdigecacmibkpaaGreatDoorSa16
namespace Go.Proofs.YtdigecacmibkpaaGreatDoor
open Go.RowKit Tf Cu Go.Deep
attribute [local go_sem] run_bits run_from raw_feq raw_fne raw_flt raw_fgt run_neg run_store_float
namespace Ss
set_option maxRecDepth 100000 in
theorem rawBits20 (x : Nat) (w : World) :
    Calls Tryz.prog 49 #[.float .f64 x] w fun e w' => e = .returned (.int .u64 ((x : Nat) : Int)) ∧ w' = w := by
  go_enter Tryz.func49, Tryz.ntmps49
  go_wp2
  go_ret
  exact ⟨rfl, rfl⟩
set_option maxRecDepth 100000 in
set_option maxHeartbeats 16000000 in
theorem rbtw20 (x lo hi : Nat) (w : World) : Calls Tryz.prog 33 #[.float .f64 x, .float .f64 lo, .float .f64 hi] w fun e w' => e = .returned (.bool (btw x lo hi)) ∧ w' = w := by
  have RB := hid (rawBits20 x w)
  have BT : Hid (btw x lo hi = ((fgt x lo || feq x lo) && (flt x hi || feq x hi) && decide (x ≠ 9223372036854775808))) := rfl
  cases h1 : (fgt x lo || feq x lo) with
  | false =>
    have K : Hid (btw x lo hi = false) := BT.out.trans (by rw [h1]; rfl)
    clear BT
    go_enter Tryz.func33, Tryz.ntmps33
    go_wp2
    go_ret
    exact ⟨by rw [K.out]; rfl, rfl⟩
  | true =>
    cases h2 : (flt x hi || feq x hi) with
    | false =>
      have K : Hid (btw x lo hi = false) := BT.out.trans (by rw [h1, h2]; rfl)
      clear BT
      go_enter Tryz.func33, Tryz.ntmps33
      go_wp2
      go_ret
      exact ⟨by rw [K.out]; rfl, rfl⟩
    | true =>
      by_cases h3 : x = 9223372036854775808
      · have K : Hid (btw x lo hi = false) := BT.out.trans (by rw [h1, h2, decide_eq_false (fun q => q h3)]; rfl)
        have d3 : ((x : Int) != 9223372036854775808) = false := by simp; omega
        clear BT h3
        go_enter Tryz.func33, Tryz.ntmps33
        go_wp2_with fail
        refine RB.out.mono ?_
        rintro e9 v9 ⟨rfl, hv9⟩
        have hv8 := hv9.symm
        subst hv8
        go_wp2
        go_ret
        exact ⟨by rw [K.out]; rfl, rfl⟩
      · have K : Hid (btw x lo hi = true) := BT.out.trans (by rw [h1, h2, decide_eq_true h3]; rfl)
        have d3 : ((x : Int) != 9223372036854775808) = true := by simp; omega
        clear BT h3
        go_enter Tryz.func33, Tryz.ntmps33
        go_wp2_with fail
        refine RB.out.mono ?_
        rintro e9 v9 ⟨rfl, hv9⟩
        have hv8 := hv9.symm
        subst hv8
        go_wp2
        go_ret
        exact ⟨by rw [K.out]; rfl, rfl⟩
set_option maxRecDepth 100000 in
set_option maxHeartbeats 16000000 in
theorem rfloats20 (p : Option Addr) (N c : Nat) (f : Nat → Nat) (m nm : Nat) (q : Nat → Bool) (w : World) (hm : Op.negFloat .f64 m = nm) (hN : N ≤ 131072) (hf : IsFl w p N f) (hq : ∀ i, i < N → q i = !btw (f i) nm m) :
    Calls Tryz.prog 38 #[.slice p N c, .float .f64 m] w fun e w' => e = .returned (.int .i64 (fp q N)) ∧ w' = w := by
  have HF := hid hf
  have HN := hid hN
  have HQ := hid hq
  clear hf hN hq
  go_enter Tryz.func38, Tryz.ntmps38
  go_wp2
  go_loopw [5] (fun iv wr => ∃ k : Nat, k ≤ N ∧ iv = .int .i64 (k : Nat) ∧ (∀ i, i < k → q i = false) ∧ wr = w) (fun iv _ => N - (intOf iv).toNat)
  case atStart => exact ⟨0, by omega, rfl, fun i hi => absurd hi (Nat.not_lt_zero i), rfl⟩
  case round =>
    obtain ⟨k, hk, rfl, g1, hwr⟩ := hrel
    have hwr2 := hwr.symm
    subst hwr2
    have G1 := hid g1
    clear g1
    by_cases hkn : k < N
    · have HK := hid hkn
      have kI : (k : Int) < N := by omega
      have kB : (k : Int) ≤ 131072 := by have := HN.out; omega
      obtain ⟨b0, o0, rfl⟩ := HF.out.some0 (show 0 < N by omega)
      obtain ⟨x, hx⟩ : ∃ x, f k = x := ⟨_, rfl⟩
      have xc := (HF.out.at0 hkn).2.2
      rw [hx] at xc
      have CB := hid (rbtw20 x nm m w)
      have qk := HQ.out k hkn
      rw [hx] at qk
      clear hx hkn hk
      cases hb : btw x nm m with
      | false =>
        rw [hb] at CB
        have QK : Hid (q k = true) := qk.trans (by rw [hb]; rfl)
        have E : Hid (fp q N = (k : Nat)) := fp_hit G1.out QK.out HK.out
        clear qk hb
        go_wp2_with fail
        refine CB.out.mono ?_
        rintro e9 v9 ⟨rfl, hv9⟩
        have hv8 := hv9.symm
        subst hv8
        go_wp2
        go_ret
        exact ⟨by rw [E.out]; rfl, by first | trivial | rfl⟩
      | true =>
        rw [hb] at CB
        have QK : Hid (q k = false) := qk.trans (by rw [hb]; rfl)
        clear qk hb
        go_wp2_with fail
        refine CB.out.mono ?_
        rintro e9 v9 ⟨rfl, hv9⟩
        have hv8 := hv9.symm
        subst hv8
        go_wp2
        refine ⟨⟨k + 1, by have := HK.out; omega, by simp, fun i hi => ?_, by first | trivial | rfl⟩, by have := HK.out; simp [intOf]; omega⟩
        by_cases l : i < k
        · exact G1.out i l
        · obtain rfl : i = k := by omega
          exact QK.out
    · have e6 : N = k := by omega
      subst e6
      have E : Hid (fp q N = -1) := fp_none G1.out
      go_wp2
      go_ret
      exact ⟨by rw [E.out]; rfl, by first | trivial | rfl⟩
set_option maxRecDepth 100000 in
set_option maxHeartbeats 16000000 in
theorem rquanta20 (p : Option Addr) (N c : Nat) (f : Nat → Int) (th : Int) (w : World) (hN : N ≤ 131072) (hf : Sh.IsI w p N f) (ht : 0 ≤ th ∧ th ≤ 4503599627370496) :
    Calls Tryz.prog 39 #[.slice p N c, .int .i64 th] w fun e w' => e = .returned (.int .i64 (fp (bQ f th) N)) ∧ w' = w := by
  have HF := hid hf
  have HN := hid hN
  have HT := hid ht
  clear hf hN ht
  go_enter Tryz.func39, Tryz.ntmps39
  go_wp2
  go_loopw [1, 5] (fun sv iv wr => ∃ k : Nat, k ≤ N ∧ iv = .int .i64 (k : Nat) ∧ sv = .int .i64 (th + Sh.sumN f k) ∧ (0 ≤ th + Sh.sumN f k ∧ th + Sh.sumN f k ≤ 4503599627370496) ∧ (∀ i, i < k → bQ f th i = false) ∧ wr = w) (fun _ iv _ => N - (intOf iv).toNat)
  case atStart => exact ⟨0, by omega, rfl, by show _ = Value.int .i64 (th + 0); rw [Int.add_zero], by show 0 ≤ th + 0 ∧ th + 0 ≤ _; have := HT.out; omega, fun i hi => absurd hi (Nat.not_lt_zero i), rfl⟩
  case round =>
    obtain ⟨k, hk, rfl, rfl, hb, g1, hwr⟩ := hrel
    have hwr2 := hwr.symm
    subst hwr2
    have G1 := hid g1
    clear g1
    have s1 := hb.1
    have s2 := hb.2
    obtain ⟨s, hs⟩ : ∃ s, th + Sh.sumN f k = s := ⟨_, rfl⟩
    rw [hs] at s1 s2 ⊢
    clear hb
    by_cases hkn : k < N
    · have HK := hid hkn
      have kI : (k : Int) < N := by omega
      have kB : (k : Int) ≤ 131072 := by have := HN.out; omega
      obtain ⟨b0, o0, rfl⟩ := HF.out.some0 (show 0 < N by omega)
      obtain ⟨x, hx⟩ : ∃ x, f k = x := ⟨_, rfl⟩
      have xc := (HF.out.at0 hkn).2.2
      rw [hx] at xc
      have QE : Hid (bQ f th k = (decide (x < 0) || decide (4503599627370496 - s < x))) := by show bQ f th k = _; unfold bQ; rw [hs, hx]
      have M3 : Hid (th + Sh.sumN f (k + 1) = s + x) := by show th + (Sh.sumN f k + f k) = _; rw [← hs, hx]; omega
      clear hx hs hkn hk
      by_cases q1 : x < 0
      · have d1 : decide (x < 0) = true := decide_eq_true q1
        have E : Hid (fp (bQ f th) N = (k : Nat)) := fp_hit G1.out (QE.out.trans (by rw [d1]; rfl)) HK.out
        go_wp2
        go_ret
        exact ⟨by rw [E.out]; rfl, by first | trivial | rfl⟩
      · have d1 : decide (x < 0) = false := decide_eq_false q1
        by_cases q2 : 4503599627370496 - s < x
        · have d2 : decide (4503599627370496 - s < x) = true := decide_eq_true q2
          have E : Hid (fp (bQ f th) N = (k : Nat)) := fp_hit G1.out (QE.out.trans (by rw [d1, d2]; rfl)) HK.out
          go_wp2
          go_ret
          exact ⟨by rw [E.out]; rfl, by first | trivial | rfl⟩
        · have d2 : decide (4503599627370496 - s < x) = false := decide_eq_false q2
          have QF : Hid (bQ f th k = false) := QE.out.trans (by rw [d1, d2]; rfl)
          have n1 : 0 ≤ s + x := by omega
          have n2 : s + x ≤ 4503599627370496 := by omega
          clear q1 q2
          go_wp2
          refine ⟨⟨k + 1, by have := HK.out; omega, by simp, by rw [M3.out], by rw [M3.out]; exact ⟨n1, n2⟩, fun i hi => ?_, by first | trivial | rfl⟩, by have := HK.out; simp [intOf]; omega⟩
          by_cases l : i < k
          · exact G1.out i l
          · obtain rfl : i = k := by omega
            exact QF.out
    · have e6 : N = k := by omega
      subst e6
      have E : Hid (fp (bQ f th) N = -1) := fp_none G1.out
      go_wp2
      go_ret
      exact ⟨by rw [E.out]; rfl, by first | trivial | rfl⟩
set_option maxRecDepth 100000 in
set_option maxHeartbeats 16000000 in
theorem rall20 (pa pb : Option Addr) (n ca m cb : Nat) (xs ys : Nat → Nat) (w : World) (hn : n ≤ 131072) (hm : m ≤ 131072) (hA : IsFl w pa n xs) (hB : IsFl w pb m ys) :
    Calls Tryz.prog 44 #[.slice pa n ca, .slice pb m cb] w fun e w' => e = .returned (.bool (eqL n m xs ys)) ∧ Below w.heap.size w w' := by
  have HA := hid hA
  have HB := hid hB
  have HL := hid (And.intro hn hm)
  clear hA hB hn hm
  by_cases hnm : n = m
  · subst hnm
    have e1 : ((n : Int) != (n : Int)) = false := by simp
    go_enter Tryz.func44, Tryz.ntmps44
    go_wp2
    go_loopw [5] (fun iv wr => ∃ k : Nat, k ≤ n ∧ iv = .int .i64 (k : Nat) ∧ Ab w wr ∧ ∀ i, i < k → xs i = ys i) (fun iv _ => n - (intOf iv).toNat)
    case atStart => exact ⟨0, by omega, rfl, Ab.refl w, fun i hi => absurd hi (Nat.not_lt_zero i)⟩
    case round =>
      obtain ⟨k, hk, rfl, ar, g1⟩ := hrel
      have AR := hid ar
      have G1 := hid g1
      clear ar g1
      by_cases hkn : k < n
      · have HK := hid hkn
        have kI : (k : Int) < n := by omega
        have kB : (k : Int) ≤ 131072 := by have := HL.out; omega
        obtain ⟨x, hx⟩ : ∃ x, xs k = x := ⟨_, rfl⟩
        obtain ⟨y, hy⟩ : ∃ y, ys k = y := ⟨_, rfl⟩
        obtain ⟨b1, o1, rfl⟩ := HA.out.some0 (show 0 < n by omega)
        obtain ⟨b2, o2, rfl⟩ := HB.out.some0 (show 0 < n by omega)
        have X1 : Hid (∀ v, Ab wr v → v.cell? ⟨b1, o1 + k, none⟩ = some (.float .f64 x)) := fun v a => by rw [← hx]; exact ((HA.out.below (AR.out.trans a)).at0 hkn).2.2
        have X2 : Hid (∀ v, Ab wr v → v.cell? ⟨b2, o2 + k, none⟩ = some (.float .f64 y)) := fun v a => by rw [← hy]; exact ((HB.out.below (AR.out.trans a)).at0 hkn).2.2
        clear hkn hk
        by_cases q : x = y
        · have SS : Hid (∀ v, Calls Tryz.prog 79 #[.float .f64 x, .float .f64 y] v fun e w' => e = .returned (.bool true) ∧ Below v.heap.size v w') := fun v => by
            have h := rawSame_any x y v
            rw [show sameB x y = true by unfold sameB; exact decide_eq_true q] at h
            exact h.mono fun _ _ ⟨he, hw⟩ => ⟨he, by rw [hw]; exact Below.refl _ _⟩
          have XE : Hid (xs k = ys k) := by show _ = _; rw [hx, hy, q]
          clear hx hy q
          go_upto_region 6 with fail
          obtain ⟨UU, E, hF1, hF2⟩ := cls wr
          have HU := hid hF2
          have HU1 := hid hF1
          have y1 : ∀ u, (E u).cell? ⟨b1, o1 + k, none⟩ = some (.float .f64 x) := fun u => X1.out _ (hF1 u)
          have y2 : ∀ u, (E u).cell? ⟨b2, o2 + k, none⟩ = some (.float .f64 y) := fun u => X2.out _ (hF1 u)
          have DD0 := HU.out _ (Ab.refl wr).drew
          clear hF1 hF2
          refine region_cls E (by kernel_rfl) (by kernel_rfl) DD0 ?_
          repeat (go_big_quiet_step (first | (with_reducible rfl) | (go_at_call 79; exact calls_cls HU HU1 (SS.out _))))
          refine wpQuiet_nil ?_
          intro z hwz
          obtain ⟨u0, hu⟩ := hwz
          have A2 : Hid (Ab wr z) := by rw [hu]; exact HU1.out u0
          clear hu u0
          clear HU HU1 DD0 y1 y2
          clear E UU
          go_wp2
          refine ⟨⟨k + 1, by have := HK.out; omega, by simp, AR.out.trans A2.out, fun i hi => ?_⟩, by have := HK.out; simp [intOf]; omega⟩
          by_cases l : i < k
          · exact G1.out i l
          · obtain rfl : i = k := by omega
            exact XE.out
        · have SS : Hid (∀ v, Calls Tryz.prog 79 #[.float .f64 x, .float .f64 y] v fun e w' => e = .returned (.bool false) ∧ Below v.heap.size v w') := fun v => by
            have h := rawSame_any x y v
            rw [show sameB x y = false by unfold sameB; exact decide_eq_false q] at h
            exact h.mono fun _ _ ⟨he, hw⟩ => ⟨he, by rw [hw]; exact Below.refl _ _⟩
          have NE : Hid (eqL n n xs ys = false) := eqL_no HK.out (by rw [hx, hy]; exact q)
          clear hx hy q
          go_upto_region 6 with fail
          obtain ⟨UU, E, hF1, hF2⟩ := cls wr
          have HU := hid hF2
          have HU1 := hid hF1
          have y1 : ∀ u, (E u).cell? ⟨b1, o1 + k, none⟩ = some (.float .f64 x) := fun u => X1.out _ (hF1 u)
          have y2 : ∀ u, (E u).cell? ⟨b2, o2 + k, none⟩ = some (.float .f64 y) := fun u => X2.out _ (hF1 u)
          have DD0 := HU.out _ (Ab.refl wr).drew
          clear hF1 hF2
          refine region_cls E (by kernel_rfl) (by kernel_rfl) DD0 ?_
          repeat (go_big_quiet_step (first | (with_reducible rfl) | (go_at_call 79; exact calls_cls HU HU1 (SS.out _))))
          refine wpQuiet_nil ?_
          intro z hwz
          obtain ⟨u0, hu⟩ := hwz
          have A2 : Hid (Ab wr z) := by rw [hu]; exact HU1.out u0
          clear hu u0
          clear HU HU1 DD0 y1 y2
          clear E UU
          go_wp2
          go_ret
          exact ⟨by rw [NE.out]; rfl, AR.out.trans A2.out⟩
      · have e6 : n = k := by omega
        subst e6
        have E : Hid (eqL n n xs ys = true) := eqL_yes G1.out
        go_wp2
        go_ret
        exact ⟨by rw [E.out]; rfl, AR.out⟩
  · have e1 : ((n : Int) != (m : Int)) = true := by simp; omega
    have E : Hid (eqL n m xs ys = false) := eqL_len hnm
    clear hnm
    go_enter Tryz.func44, Tryz.ntmps44
    go_wp2
    go_ret
    exact ⟨by rw [E.out]; rfl, Below.refl _ _⟩
set_option maxRecDepth 100000 in
set_option maxHeartbeats 16000000 in
theorem rwhole20 (pa pb : Option Addr) (n ca m cb : Nat) (xs ys : Nat → Int) (w : World) (hn : n ≤ 131072) (hm : m ≤ 131072) (hA : Sh.IsI w pa n xs) (hB : Sh.IsI w pb m ys) :
    Calls Tryz.prog 45 #[.slice pa n ca, .slice pb m cb] w fun e w' => e = .returned (.bool (eqL n m xs ys)) ∧ Below w.heap.size w w' := by
  have HA := hid hA
  have HB := hid hB
  have HL := hid (And.intro hn hm)
  clear hA hB hn hm
  by_cases hnm : n = m
  · subst hnm
    have e1 : ((n : Int) != (n : Int)) = false := by simp
    go_enter Tryz.func45, Tryz.ntmps45
    go_wp2
    go_loopw [5] (fun iv wr => ∃ k : Nat, k ≤ n ∧ iv = .int .i64 (k : Nat) ∧ Ab w wr ∧ ∀ i, i < k → xs i = ys i) (fun iv _ => n - (intOf iv).toNat)
    case atStart => exact ⟨0, by omega, rfl, Ab.refl w, fun i hi => absurd hi (Nat.not_lt_zero i)⟩
    case round =>
      obtain ⟨k, hk, rfl, ar, g1⟩ := hrel
      have AR := hid ar
      have G1 := hid g1
      clear ar g1
      by_cases hkn : k < n
      · have HK := hid hkn
        have kI : (k : Int) < n := by omega
        have kB : (k : Int) ≤ 131072 := by have := HL.out; omega
        obtain ⟨x, hx⟩ : ∃ x, xs k = x := ⟨_, rfl⟩
        obtain ⟨y, hy⟩ : ∃ y, ys k = y := ⟨_, rfl⟩
        obtain ⟨b1, o1, rfl⟩ := HA.out.some0 (show 0 < n by omega)
        obtain ⟨b2, o2, rfl⟩ := HB.out.some0 (show 0 < n by omega)
        have X1 : Hid (∀ v, Ab wr v → v.cell? ⟨b1, o1 + k, none⟩ = some (.int .i64 x)) := fun v a => by rw [← hx]; exact ((HA.out.below (AR.out.trans a)).at0 hkn).2.2
        have X2 : Hid (∀ v, Ab wr v → v.cell? ⟨b2, o2 + k, none⟩ = some (.int .i64 y)) := fun v a => by rw [← hy]; exact ((HB.out.below (AR.out.trans a)).at0 hkn).2.2
        clear hkn hk
        by_cases q : x = y
        · have d1 : (x != y) = false := by simp [q]
          have XE : Hid (xs k = ys k) := by show _ = _; rw [hx, hy, q]
          clear hx hy q
          go_upto_region 6 with fail
          obtain ⟨UU, E, hF1, hF2⟩ := cls wr
          have HU := hid hF2
          have HU1 := hid hF1
          have y1 : ∀ u, (E u).cell? ⟨b1, o1 + k, none⟩ = some (.int .i64 x) := fun u => X1.out _ (hF1 u)
          have y2 : ∀ u, (E u).cell? ⟨b2, o2 + k, none⟩ = some (.int .i64 y) := fun u => X2.out _ (hF1 u)
          have DD0 := HU.out _ (Ab.refl wr).drew
          clear hF1 hF2
          refine region_cls E (by kernel_rfl) (by kernel_rfl) DD0 ?_
          repeat (go_big_quiet_step (with_reducible rfl))
          refine wpQuiet_nil ?_
          intro z hwz
          obtain ⟨u0, hu⟩ := hwz
          have A2 : Hid (Ab wr z) := by rw [hu]; exact HU1.out u0
          clear hu u0
          clear HU HU1 DD0 y1 y2
          clear E UU
          go_wp2
          refine ⟨⟨k + 1, by have := HK.out; omega, by simp, AR.out.trans A2.out, fun i hi => ?_⟩, by have := HK.out; simp [intOf]; omega⟩
          by_cases l : i < k
          · exact G1.out i l
          · obtain rfl : i = k := by omega
            exact XE.out
        · have d1 : (x != y) = true := by simp [q]
          have NE : Hid (eqL n n xs ys = false) := eqL_no HK.out (by rw [hx, hy]; exact q)
          clear hx hy q
          go_upto_region 6 with fail
          obtain ⟨UU, E, hF1, hF2⟩ := cls wr
          have HU := hid hF2
          have HU1 := hid hF1
          have y1 : ∀ u, (E u).cell? ⟨b1, o1 + k, none⟩ = some (.int .i64 x) := fun u => X1.out _ (hF1 u)
          have y2 : ∀ u, (E u).cell? ⟨b2, o2 + k, none⟩ = some (.int .i64 y) := fun u => X2.out _ (hF1 u)
          have DD0 := HU.out _ (Ab.refl wr).drew
          clear hF1 hF2
          refine region_cls E (by kernel_rfl) (by kernel_rfl) DD0 ?_
          repeat (go_big_quiet_step (with_reducible rfl))
          refine wpQuiet_nil ?_
          intro z hwz
          obtain ⟨u0, hu⟩ := hwz
          have A2 : Hid (Ab wr z) := by rw [hu]; exact HU1.out u0
          clear hu u0
          clear HU HU1 DD0 y1 y2
          clear E UU
          go_wp2
          go_ret
          exact ⟨by rw [NE.out]; rfl, AR.out.trans A2.out⟩
      · have e6 : n = k := by omega
        subst e6
        have E : Hid (eqL n n xs ys = true) := eqL_yes G1.out
        go_wp2
        go_ret
        exact ⟨by rw [E.out]; rfl, AR.out⟩
  · have e1 : ((n : Int) != (m : Int)) = true := by simp; omega
    have E : Hid (eqL n m xs ys = false) := eqL_len hnm
    clear hnm
    go_enter Tryz.func45, Tryz.ntmps45
    go_wp2
    go_ret
    exact ⟨by rw [E.out]; rfl, Below.refl _ _⟩
end Ss
end Go.Proofs.YtdigecacmibkpaaGreatDoor
