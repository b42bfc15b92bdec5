/-
  Some of the texts of this proof, one behind the other.
-/
import Derived.Test.YtdigecacmibkpaaGreatDoorSa18
namespace Go.Proofs.YtdigecacmibkpaaGreatDoor
open Go.RowKit Tf Cu Go.Deep
attribute [local go_sem] run_bits run_from raw_feq raw_fne raw_flt raw_fgt run_neg run_store_float
namespace Ss
set_option maxRecDepth 100000 in
set_option maxHeartbeats 16000000 in
theorem sameLF_len (p : Option Addr) (n c : Nat) (p' : Option Addr) (n' c' : Nat) (w : World) (h : ((n : Int) != (n' : Int)) = true) :
    Calls Tryz.prog 40 #[.slice p n c, .slice p' n' c', .func (.func 41) #[] #[]] w fun e w' => e = .returned (.bool false) ∧ w' = w := by
  go_enter Tryz.func40, Tryz.ntmps40
  go_wp2
  go_ret
  exact ⟨rfl, rfl⟩
set_option maxRecDepth 100000 in
set_option maxHeartbeats 16000000 in
theorem sameLF_go (p : Option Addr) (n c : Nat) (p' : Option Addr) (c' : Nat) (f g : Nat → Nat) (w : World) (hN : n ≤ 281474976710656) (HF : Hid (IsFl w p n f)) (HG : Hid (IsFl w p' n g)) (r : Bool) (RY : Hid ((∀ i, i < n → f i = g i) → r = true)) (RN : Hid (∀ k, k < n → f k ≠ g k → r = false)) :
    Calls Tryz.prog 40 #[.slice p n c, .slice p' n c', .func (.func 41) #[] #[]] w fun e w' => e = .returned (.bool r) ∧ w' = w := by
  have HN := hid hN
  clear hN
  have d0 : ((n : Int) != (n : Int)) = false := by simp
  go_enter Tryz.func40, Tryz.ntmps40
  go_wp2
  go_loopw [16] (fun iv wr => ∃ k : Nat, k ≤ n ∧ iv = .int .i64 (k : Nat) ∧ (∀ i, i < k → f i = g i) ∧ wr = w) (fun iv _ => n - (intOf iv).toNat)
  case atStart => exact ⟨0, by omega, rfl, fun i hi => absurd hi (Nat.not_lt_zero i), rfl⟩
  case round =>
    obtain ⟨k, hk, rfl, g1, hwr⟩ := hrel
    have hwr2 := hwr.symm
    subst hwr2
    have G1 := hid g1
    clear g1
    by_cases hkn : k < n
    · have HK := hid hkn
      have kI : (k : Int) < n := by omega
      have kB : (k : Int) ≤ 281474976710656 := by have := HN.out; omega
      obtain ⟨b0, o0, rfl⟩ := HF.out.some0 (show 0 < n by omega)
      obtain ⟨b1, o1, rfl⟩ := HG.out.some0 (show 0 < n by omega)
      obtain ⟨x, hx⟩ : ∃ x, f k = x := ⟨_, rfl⟩
      obtain ⟨y, hy⟩ : ∃ y, g k = y := ⟨_, rfl⟩
      have xc := (HF.out.at0 hkn).2.2
      have yc := (HG.out.at0 hkn).2.2
      rw [hx] at xc
      rw [hy] at yc
      by_cases q : x = y
      · have CS := hid (sameF_at x y true w (decide_eq_true q))
        have E : Hid (f k = g k) := by rw [hx, hy]; exact q
        clear q hx hy hkn hk
        go_wp2_with fail
        refine CS.out.mono ?_
        rintro e9 v9 ⟨rfl, hv9⟩
        have hv8 := hv9.symm
        subst hv8
        go_wp2
        refine ⟨⟨k + 1, by have := HK.out; omega, by simp, fun i hi => ?_, by first | trivial | rfl⟩, by have := HK.out; simp [intOf]; omega⟩
        by_cases l : i < k
        · exact G1.out i l
        · obtain rfl : i = k := by omega
          exact E.out
      · have CS := hid (sameF_at x y false w (decide_eq_false q))
        have E : Hid (r = false) := RN.out k hkn (by rw [hx, hy]; exact q)
        clear q hx hy hkn hk
        go_wp2_with fail
        refine CS.out.mono ?_
        rintro e9 v9 ⟨rfl, hv9⟩
        have hv8 := hv9.symm
        subst hv8
        go_wp2
        go_ret
        exact ⟨by rw [E.out]; rfl, by first | trivial | rfl⟩
    · have e6 : n = k := by omega
      subst e6
      have E : Hid (r = true) := RY.out G1.out
      go_wp2
      go_ret
      exact ⟨by rw [E.out]; rfl, by first | trivial | rfl⟩
theorem sameLF_at (p : Option Addr) (n c : Nat) (p' : Option Addr) (n' c' : Nat) (f g : Nat → Nat) (r : Bool) (w : World) (hN : n ≤ 281474976710656) (hf : IsFl w p n f) (hg : IsFl w p' n' g) (hr : eqL n n' f g = r) :
    Calls Tryz.prog 40 #[.slice p n c, .slice p' n' c', .func (.func 41) #[] #[]] w fun e w' => e = .returned (.bool r) ∧ w' = w := by
  by_cases h : n = n'
  · subst h
    exact sameLF_go p n c p' c' f g w hN hf hg r (fun q => by rw [← hr]; exact eqL_yes q) (fun k hk q => by rw [← hr]; exact eqL_no hk q)
  · rw [← hr, eqL_len h]
    exact sameLF_len p n c p' n' c' w (by simp; omega)
set_option maxRecDepth 100000 in
set_option maxHeartbeats 16000000 in
theorem sameLI_len (p : Option Addr) (n c : Nat) (p' : Option Addr) (n' c' : Nat) (w : World) (h : ((n : Int) != (n' : Int)) = true) :
    Calls Tryz.prog 42 #[.slice p n c, .slice p' n' c', .func (.func 43) #[] #[]] w fun e w' => e = .returned (.bool false) ∧ w' = w := by
  go_enter Tryz.func42, Tryz.ntmps42
  go_wp2
  go_ret
  exact ⟨rfl, rfl⟩
set_option maxRecDepth 100000 in
set_option maxHeartbeats 16000000 in
theorem sameLI_go (p : Option Addr) (n c : Nat) (p' : Option Addr) (c' : Nat) (f g : Nat → Int) (w : World) (hN : n ≤ 281474976710656) (HF : Hid (Sh.IsI w p n f)) (HG : Hid (Sh.IsI w p' n g)) (r : Bool) (RY : Hid ((∀ i, i < n → f i = g i) → r = true)) (RN : Hid (∀ k, k < n → f k ≠ g k → r = false)) :
    Calls Tryz.prog 42 #[.slice p n c, .slice p' n c', .func (.func 43) #[] #[]] w fun e w' => e = .returned (.bool r) ∧ w' = w := by
  have HN := hid hN
  clear hN
  have d0 : ((n : Int) != (n : Int)) = false := by simp
  go_enter Tryz.func42, Tryz.ntmps42
  go_wp2
  go_loopw [16] (fun iv wr => ∃ k : Nat, k ≤ n ∧ iv = .int .i64 (k : Nat) ∧ (∀ i, i < k → f i = g i) ∧ wr = w) (fun iv _ => n - (intOf iv).toNat)
  case atStart => exact ⟨0, by omega, rfl, fun i hi => absurd hi (Nat.not_lt_zero i), rfl⟩
  case round =>
    obtain ⟨k, hk, rfl, g1, hwr⟩ := hrel
    have hwr2 := hwr.symm
    subst hwr2
    have G1 := hid g1
    clear g1
    by_cases hkn : k < n
    · have HK := hid hkn
      have kI : (k : Int) < n := by omega
      have kB : (k : Int) ≤ 281474976710656 := by have := HN.out; omega
      obtain ⟨b0, o0, rfl⟩ := HF.out.some0 (show 0 < n by omega)
      obtain ⟨b1, o1, rfl⟩ := HG.out.some0 (show 0 < n by omega)
      obtain ⟨x, hx⟩ : ∃ x, f k = x := ⟨_, rfl⟩
      obtain ⟨y, hy⟩ : ∃ y, g k = y := ⟨_, rfl⟩
      have xc := (HF.out.at0 hkn).2.2
      have yc := (HG.out.at0 hkn).2.2
      rw [hx] at xc
      rw [hy] at yc
      by_cases q : x = y
      · have CS := hid (sameQ_at x y true w (decide_eq_true q))
        have E : Hid (f k = g k) := by rw [hx, hy]; exact q
        clear q hx hy hkn hk
        go_wp2_with fail
        refine CS.out.mono ?_
        rintro e9 v9 ⟨rfl, hv9⟩
        have hv8 := hv9.symm
        subst hv8
        go_wp2
        refine ⟨⟨k + 1, by have := HK.out; omega, by simp, fun i hi => ?_, by first | trivial | rfl⟩, by have := HK.out; simp [intOf]; omega⟩
        by_cases l : i < k
        · exact G1.out i l
        · obtain rfl : i = k := by omega
          exact E.out
      · have CS := hid (sameQ_at x y false w (decide_eq_false q))
        have E : Hid (r = false) := RN.out k hkn (by rw [hx, hy]; exact q)
        clear q hx hy hkn hk
        go_wp2_with fail
        refine CS.out.mono ?_
        rintro e9 v9 ⟨rfl, hv9⟩
        have hv8 := hv9.symm
        subst hv8
        go_wp2
        go_ret
        exact ⟨by rw [E.out]; rfl, by first | trivial | rfl⟩
    · have e6 : n = k := by omega
      subst e6
      have E : Hid (r = true) := RY.out G1.out
      go_wp2
      go_ret
      exact ⟨by rw [E.out]; rfl, by first | trivial | rfl⟩
theorem sameLI_at (p : Option Addr) (n c : Nat) (p' : Option Addr) (n' c' : Nat) (f g : Nat → Int) (r : Bool) (w : World) (hN : n ≤ 281474976710656) (hf : Sh.IsI w p n f) (hg : Sh.IsI w p' n' g) (hr : eqL n n' f g = r) :
    Calls Tryz.prog 42 #[.slice p n c, .slice p' n' c', .func (.func 43) #[] #[]] w fun e w' => e = .returned (.bool r) ∧ w' = w := by
  by_cases h : n = n'
  · subst h
    exact sameLI_go p n c p' c' f g w hN hf hg r (fun q => by rw [← hr]; exact eqL_yes q) (fun k hk q => by rw [← hr]; exact eqL_no hk q)
  · rw [← hr, eqL_len h]
    exact sameLI_len p n c p' n' c' w (by simp; omega)
set_option maxRecDepth 100000 in
set_option maxHeartbeats 16000000 in
theorem same_0 (pb : Option Addr) (lb cb : Nat) (pw : Option Addr) (lw cw : Nat) (pt : Option Addr) (lt ct : Nat) (ps : Option Addr) (ls cs : Nat) (sky st : Int) (pb' : Option Addr) (lb' cb' : Nat) (pw' : Option Addr) (lw' cw' : Nat) (pt' : Option Addr) (lt' ct' : Nat) (ps' : Option Addr) (ls' cs' : Nat) (sky' st' : Int) (w : World)
    (C0 : Hid (∀ v, Ab w v → Calls Tryz.prog 40 #[.slice pb lb cb, .slice pb' lb' cb', .func (.func 41) #[] #[]] v fun e w' => e = .returned (.bool false) ∧ w' = v)) :
    Calls Tryz.prog 15 #[.agg #[.slice pb lb cb, .slice pw lw cw, .slice pt lt ct, .slice ps ls cs, .int .i64 sky, .int .i64 st], .agg #[.slice pb' lb' cb', .slice pw' lw' cw', .slice pt' lt' ct', .slice ps' ls' cs', .int .i64 sky', .int .i64 st']] w fun e w' => e = .returned (.bool false) ∧ Below w.heap.size w w' := by
  have A0 : Hid (Ab w ((w.alloc (.cells #[.slice pb lb cb, .slice pw lw cw, .slice pt lt ct, .slice ps ls cs, .int .i64 sky, .int .i64 st] 33)).alloc (.cells #[.slice pb' lb' cb', .slice pw' lw' cw', .slice pt' lt' ct', .slice ps' ls' cs', .int .i64 sky', .int .i64 st'] 33))) := bl2 _ _ _
  have R0 : Hid (((w.alloc (.cells #[.slice pb lb cb, .slice pw lw cw, .slice pt lt ct, .slice ps ls cs, .int .i64 sky, .int .i64 st] 33)).alloc (.cells #[.slice pb' lb' cb', .slice pw' lw' cw', .slice pt' lt' ct', .slice ps' ls' cs', .int .i64 sky', .int .i64 st'] 33)).heap[w.heap.size]? = some (.cells #[.slice pb lb cb, .slice pw lw cw, .slice pt lt ct, .slice ps ls cs, .int .i64 sky, .int .i64 st] 33)) := heap_alloc2_old _ _ _
  have Q0 : Hid (((w.alloc (.cells #[.slice pb lb cb, .slice pw lw cw, .slice pt lt ct, .slice ps ls cs, .int .i64 sky, .int .i64 st] 33)).alloc (.cells #[.slice pb' lb' cb', .slice pw' lw' cw', .slice pt' lt' ct', .slice ps' ls' cs', .int .i64 sky', .int .i64 st'] 33)).heap[w.heap.size + 1]? = some (.cells #[.slice pb' lb' cb', .slice pw' lw' cw', .slice pt' lt' ct', .slice ps' ls' cs', .int .i64 sky', .int .i64 st'] 33)) := heap_alloc2_new _ _ _
  go_enter Tryz.func15, Tryz.ntmps15
  go_upto_region 1 with fail
  generalize hW : World.alloc (World.alloc w _) _ = v0 at *
  obtain ⟨ga, hga⟩ : ∃ g, w.heap.size = g := ⟨_, rfl⟩
  obtain ⟨gq, hgq⟩ : ∃ g, w.heap.size + 1 = g := ⟨_, rfl⟩
  rw [hgq] at Q0 ⊢
  rw [hga] at R0 ⊢
  clear hga hgq hW
  have x0 := cell_of_row _ _ 0 _ _ _ R0.out
  have x1 := cell_of_row _ _ 1 _ _ _ R0.out
  have x2 := cell_of_row _ _ 2 _ _ _ R0.out
  have x3 := cell_of_row _ _ 3 _ _ _ R0.out
  have x4 := cell_of_row _ _ 4 _ _ _ R0.out
  have x5 := cell_of_row _ _ 5 _ _ _ R0.out
  have y0 := cell_of_row _ _ 0 _ _ _ Q0.out
  have y1 := cell_of_row _ _ 1 _ _ _ Q0.out
  have y2 := cell_of_row _ _ 2 _ _ _ Q0.out
  have y3 := cell_of_row _ _ 3 _ _ _ Q0.out
  have y4 := cell_of_row _ _ 4 _ _ _ Q0.out
  have y5 := cell_of_row _ _ 5 _ _ _ Q0.out
  go_wp2_with fail
  refine (C0.out v0 A0.out).mono ?_
  rintro e9 v9 ⟨rfl, hv9⟩
  have hv8 := hv9.symm
  subst hv8
  go_wp2
  go_ret
  exact ⟨rfl, A0.out⟩
set_option maxRecDepth 100000 in
set_option maxHeartbeats 16000000 in
theorem same_1 (pb : Option Addr) (lb cb : Nat) (pw : Option Addr) (lw cw : Nat) (pt : Option Addr) (lt ct : Nat) (ps : Option Addr) (ls cs : Nat) (sky st : Int) (pb' : Option Addr) (lb' cb' : Nat) (pw' : Option Addr) (lw' cw' : Nat) (pt' : Option Addr) (lt' ct' : Nat) (ps' : Option Addr) (ls' cs' : Nat) (sky' st' : Int) (w : World)
    (C0 : Hid (∀ v, Ab w v → Calls Tryz.prog 40 #[.slice pb lb cb, .slice pb' lb' cb', .func (.func 41) #[] #[]] v fun e w' => e = .returned (.bool true) ∧ w' = v))
    (C1 : Hid (∀ v, Ab w v → Calls Tryz.prog 42 #[.slice pw lw cw, .slice pw' lw' cw', .func (.func 43) #[] #[]] v fun e w' => e = .returned (.bool false) ∧ w' = v)) :
    Calls Tryz.prog 15 #[.agg #[.slice pb lb cb, .slice pw lw cw, .slice pt lt ct, .slice ps ls cs, .int .i64 sky, .int .i64 st], .agg #[.slice pb' lb' cb', .slice pw' lw' cw', .slice pt' lt' ct', .slice ps' ls' cs', .int .i64 sky', .int .i64 st']] w fun e w' => e = .returned (.bool false) ∧ Below w.heap.size w w' := by
  have A0 : Hid (Ab w ((w.alloc (.cells #[.slice pb lb cb, .slice pw lw cw, .slice pt lt ct, .slice ps ls cs, .int .i64 sky, .int .i64 st] 33)).alloc (.cells #[.slice pb' lb' cb', .slice pw' lw' cw', .slice pt' lt' ct', .slice ps' ls' cs', .int .i64 sky', .int .i64 st'] 33))) := bl2 _ _ _
  have R0 : Hid (((w.alloc (.cells #[.slice pb lb cb, .slice pw lw cw, .slice pt lt ct, .slice ps ls cs, .int .i64 sky, .int .i64 st] 33)).alloc (.cells #[.slice pb' lb' cb', .slice pw' lw' cw', .slice pt' lt' ct', .slice ps' ls' cs', .int .i64 sky', .int .i64 st'] 33)).heap[w.heap.size]? = some (.cells #[.slice pb lb cb, .slice pw lw cw, .slice pt lt ct, .slice ps ls cs, .int .i64 sky, .int .i64 st] 33)) := heap_alloc2_old _ _ _
  have Q0 : Hid (((w.alloc (.cells #[.slice pb lb cb, .slice pw lw cw, .slice pt lt ct, .slice ps ls cs, .int .i64 sky, .int .i64 st] 33)).alloc (.cells #[.slice pb' lb' cb', .slice pw' lw' cw', .slice pt' lt' ct', .slice ps' ls' cs', .int .i64 sky', .int .i64 st'] 33)).heap[w.heap.size + 1]? = some (.cells #[.slice pb' lb' cb', .slice pw' lw' cw', .slice pt' lt' ct', .slice ps' ls' cs', .int .i64 sky', .int .i64 st'] 33)) := heap_alloc2_new _ _ _
  go_enter Tryz.func15, Tryz.ntmps15
  go_upto_region 1 with fail
  generalize hW : World.alloc (World.alloc w _) _ = v0 at *
  obtain ⟨ga, hga⟩ : ∃ g, w.heap.size = g := ⟨_, rfl⟩
  obtain ⟨gq, hgq⟩ : ∃ g, w.heap.size + 1 = g := ⟨_, rfl⟩
  rw [hgq] at Q0 ⊢
  rw [hga] at R0 ⊢
  clear hga hgq hW
  have x0 := cell_of_row _ _ 0 _ _ _ R0.out
  have x1 := cell_of_row _ _ 1 _ _ _ R0.out
  have x2 := cell_of_row _ _ 2 _ _ _ R0.out
  have x3 := cell_of_row _ _ 3 _ _ _ R0.out
  have x4 := cell_of_row _ _ 4 _ _ _ R0.out
  have x5 := cell_of_row _ _ 5 _ _ _ R0.out
  have y0 := cell_of_row _ _ 0 _ _ _ Q0.out
  have y1 := cell_of_row _ _ 1 _ _ _ Q0.out
  have y2 := cell_of_row _ _ 2 _ _ _ Q0.out
  have y3 := cell_of_row _ _ 3 _ _ _ Q0.out
  have y4 := cell_of_row _ _ 4 _ _ _ Q0.out
  have y5 := cell_of_row _ _ 5 _ _ _ Q0.out
  go_wp2_with fail
  refine (C0.out v0 A0.out).mono ?_
  rintro e9 v9 ⟨rfl, hv9⟩
  have hv8 := hv9.symm
  subst hv8
  go_wp2_with fail
  refine (C1.out v0 A0.out).mono ?_
  rintro e9 v9 ⟨rfl, hv9⟩
  have hv8 := hv9.symm
  subst hv8
  go_wp2
  go_ret
  exact ⟨rfl, A0.out⟩
set_option maxRecDepth 100000 in
set_option maxHeartbeats 16000000 in
theorem same_2 (pb : Option Addr) (lb cb : Nat) (pw : Option Addr) (lw cw : Nat) (pt : Option Addr) (lt ct : Nat) (ps : Option Addr) (ls cs : Nat) (sky st : Int) (pb' : Option Addr) (lb' cb' : Nat) (pw' : Option Addr) (lw' cw' : Nat) (pt' : Option Addr) (lt' ct' : Nat) (ps' : Option Addr) (ls' cs' : Nat) (sky' st' : Int) (w : World)
    (C0 : Hid (∀ v, Ab w v → Calls Tryz.prog 40 #[.slice pb lb cb, .slice pb' lb' cb', .func (.func 41) #[] #[]] v fun e w' => e = .returned (.bool true) ∧ w' = v))
    (C1 : Hid (∀ v, Ab w v → Calls Tryz.prog 42 #[.slice pw lw cw, .slice pw' lw' cw', .func (.func 43) #[] #[]] v fun e w' => e = .returned (.bool true) ∧ w' = v))
    (C2 : Hid (∀ v, Ab w v → Calls Tryz.prog 42 #[.slice pt lt ct, .slice pt' lt' ct', .func (.func 43) #[] #[]] v fun e w' => e = .returned (.bool false) ∧ w' = v)) :
    Calls Tryz.prog 15 #[.agg #[.slice pb lb cb, .slice pw lw cw, .slice pt lt ct, .slice ps ls cs, .int .i64 sky, .int .i64 st], .agg #[.slice pb' lb' cb', .slice pw' lw' cw', .slice pt' lt' ct', .slice ps' ls' cs', .int .i64 sky', .int .i64 st']] w fun e w' => e = .returned (.bool false) ∧ Below w.heap.size w w' := by
  have A0 : Hid (Ab w ((w.alloc (.cells #[.slice pb lb cb, .slice pw lw cw, .slice pt lt ct, .slice ps ls cs, .int .i64 sky, .int .i64 st] 33)).alloc (.cells #[.slice pb' lb' cb', .slice pw' lw' cw', .slice pt' lt' ct', .slice ps' ls' cs', .int .i64 sky', .int .i64 st'] 33))) := bl2 _ _ _
  have R0 : Hid (((w.alloc (.cells #[.slice pb lb cb, .slice pw lw cw, .slice pt lt ct, .slice ps ls cs, .int .i64 sky, .int .i64 st] 33)).alloc (.cells #[.slice pb' lb' cb', .slice pw' lw' cw', .slice pt' lt' ct', .slice ps' ls' cs', .int .i64 sky', .int .i64 st'] 33)).heap[w.heap.size]? = some (.cells #[.slice pb lb cb, .slice pw lw cw, .slice pt lt ct, .slice ps ls cs, .int .i64 sky, .int .i64 st] 33)) := heap_alloc2_old _ _ _
  have Q0 : Hid (((w.alloc (.cells #[.slice pb lb cb, .slice pw lw cw, .slice pt lt ct, .slice ps ls cs, .int .i64 sky, .int .i64 st] 33)).alloc (.cells #[.slice pb' lb' cb', .slice pw' lw' cw', .slice pt' lt' ct', .slice ps' ls' cs', .int .i64 sky', .int .i64 st'] 33)).heap[w.heap.size + 1]? = some (.cells #[.slice pb' lb' cb', .slice pw' lw' cw', .slice pt' lt' ct', .slice ps' ls' cs', .int .i64 sky', .int .i64 st'] 33)) := heap_alloc2_new _ _ _
  go_enter Tryz.func15, Tryz.ntmps15
  go_upto_region 1 with fail
  generalize hW : World.alloc (World.alloc w _) _ = v0 at *
  obtain ⟨ga, hga⟩ : ∃ g, w.heap.size = g := ⟨_, rfl⟩
  obtain ⟨gq, hgq⟩ : ∃ g, w.heap.size + 1 = g := ⟨_, rfl⟩
  rw [hgq] at Q0 ⊢
  rw [hga] at R0 ⊢
  clear hga hgq hW
  have x0 := cell_of_row _ _ 0 _ _ _ R0.out
  have x1 := cell_of_row _ _ 1 _ _ _ R0.out
  have x2 := cell_of_row _ _ 2 _ _ _ R0.out
  have x3 := cell_of_row _ _ 3 _ _ _ R0.out
  have x4 := cell_of_row _ _ 4 _ _ _ R0.out
  have x5 := cell_of_row _ _ 5 _ _ _ R0.out
  have y0 := cell_of_row _ _ 0 _ _ _ Q0.out
  have y1 := cell_of_row _ _ 1 _ _ _ Q0.out
  have y2 := cell_of_row _ _ 2 _ _ _ Q0.out
  have y3 := cell_of_row _ _ 3 _ _ _ Q0.out
  have y4 := cell_of_row _ _ 4 _ _ _ Q0.out
  have y5 := cell_of_row _ _ 5 _ _ _ Q0.out
  go_wp2_with fail
  refine (C0.out v0 A0.out).mono ?_
  rintro e9 v9 ⟨rfl, hv9⟩
  have hv8 := hv9.symm
  subst hv8
  go_wp2_with fail
  refine (C1.out v0 A0.out).mono ?_
  rintro e9 v9 ⟨rfl, hv9⟩
  have hv8 := hv9.symm
  subst hv8
  go_wp2_with fail
  refine (C2.out v0 A0.out).mono ?_
  rintro e9 v9 ⟨rfl, hv9⟩
  have hv8 := hv9.symm
  subst hv8
  go_wp2
  go_ret
  exact ⟨rfl, A0.out⟩
set_option maxRecDepth 100000 in
set_option maxHeartbeats 16000000 in
theorem same_3 (pb : Option Addr) (lb cb : Nat) (pw : Option Addr) (lw cw : Nat) (pt : Option Addr) (lt ct : Nat) (ps : Option Addr) (ls cs : Nat) (sky st : Int) (pb' : Option Addr) (lb' cb' : Nat) (pw' : Option Addr) (lw' cw' : Nat) (pt' : Option Addr) (lt' ct' : Nat) (ps' : Option Addr) (ls' cs' : Nat) (sky' st' : Int) (w : World)
    (C0 : Hid (∀ v, Ab w v → Calls Tryz.prog 40 #[.slice pb lb cb, .slice pb' lb' cb', .func (.func 41) #[] #[]] v fun e w' => e = .returned (.bool true) ∧ w' = v))
    (C1 : Hid (∀ v, Ab w v → Calls Tryz.prog 42 #[.slice pw lw cw, .slice pw' lw' cw', .func (.func 43) #[] #[]] v fun e w' => e = .returned (.bool true) ∧ w' = v))
    (C2 : Hid (∀ v, Ab w v → Calls Tryz.prog 42 #[.slice pt lt ct, .slice pt' lt' ct', .func (.func 43) #[] #[]] v fun e w' => e = .returned (.bool true) ∧ w' = v))
    (C3 : Hid (∀ v, Ab w v → Calls Tryz.prog 40 #[.slice ps ls cs, .slice ps' ls' cs', .func (.func 41) #[] #[]] v fun e w' => e = .returned (.bool false) ∧ w' = v)) :
    Calls Tryz.prog 15 #[.agg #[.slice pb lb cb, .slice pw lw cw, .slice pt lt ct, .slice ps ls cs, .int .i64 sky, .int .i64 st], .agg #[.slice pb' lb' cb', .slice pw' lw' cw', .slice pt' lt' ct', .slice ps' ls' cs', .int .i64 sky', .int .i64 st']] w fun e w' => e = .returned (.bool false) ∧ Below w.heap.size w w' := by
  have A0 : Hid (Ab w ((w.alloc (.cells #[.slice pb lb cb, .slice pw lw cw, .slice pt lt ct, .slice ps ls cs, .int .i64 sky, .int .i64 st] 33)).alloc (.cells #[.slice pb' lb' cb', .slice pw' lw' cw', .slice pt' lt' ct', .slice ps' ls' cs', .int .i64 sky', .int .i64 st'] 33))) := bl2 _ _ _
  have R0 : Hid (((w.alloc (.cells #[.slice pb lb cb, .slice pw lw cw, .slice pt lt ct, .slice ps ls cs, .int .i64 sky, .int .i64 st] 33)).alloc (.cells #[.slice pb' lb' cb', .slice pw' lw' cw', .slice pt' lt' ct', .slice ps' ls' cs', .int .i64 sky', .int .i64 st'] 33)).heap[w.heap.size]? = some (.cells #[.slice pb lb cb, .slice pw lw cw, .slice pt lt ct, .slice ps ls cs, .int .i64 sky, .int .i64 st] 33)) := heap_alloc2_old _ _ _
  have Q0 : Hid (((w.alloc (.cells #[.slice pb lb cb, .slice pw lw cw, .slice pt lt ct, .slice ps ls cs, .int .i64 sky, .int .i64 st] 33)).alloc (.cells #[.slice pb' lb' cb', .slice pw' lw' cw', .slice pt' lt' ct', .slice ps' ls' cs', .int .i64 sky', .int .i64 st'] 33)).heap[w.heap.size + 1]? = some (.cells #[.slice pb' lb' cb', .slice pw' lw' cw', .slice pt' lt' ct', .slice ps' ls' cs', .int .i64 sky', .int .i64 st'] 33)) := heap_alloc2_new _ _ _
  go_enter Tryz.func15, Tryz.ntmps15
  go_upto_region 1 with fail
  generalize hW : World.alloc (World.alloc w _) _ = v0 at *
  obtain ⟨ga, hga⟩ : ∃ g, w.heap.size = g := ⟨_, rfl⟩
  obtain ⟨gq, hgq⟩ : ∃ g, w.heap.size + 1 = g := ⟨_, rfl⟩
  rw [hgq] at Q0 ⊢
  rw [hga] at R0 ⊢
  clear hga hgq hW
  have x0 := cell_of_row _ _ 0 _ _ _ R0.out
  have x1 := cell_of_row _ _ 1 _ _ _ R0.out
  have x2 := cell_of_row _ _ 2 _ _ _ R0.out
  have x3 := cell_of_row _ _ 3 _ _ _ R0.out
  have x4 := cell_of_row _ _ 4 _ _ _ R0.out
  have x5 := cell_of_row _ _ 5 _ _ _ R0.out
  have y0 := cell_of_row _ _ 0 _ _ _ Q0.out
  have y1 := cell_of_row _ _ 1 _ _ _ Q0.out
  have y2 := cell_of_row _ _ 2 _ _ _ Q0.out
  have y3 := cell_of_row _ _ 3 _ _ _ Q0.out
  have y4 := cell_of_row _ _ 4 _ _ _ Q0.out
  have y5 := cell_of_row _ _ 5 _ _ _ Q0.out
  go_wp2_with fail
  refine (C0.out v0 A0.out).mono ?_
  rintro e9 v9 ⟨rfl, hv9⟩
  have hv8 := hv9.symm
  subst hv8
  go_wp2_with fail
  refine (C1.out v0 A0.out).mono ?_
  rintro e9 v9 ⟨rfl, hv9⟩
  have hv8 := hv9.symm
  subst hv8
  go_wp2_with fail
  refine (C2.out v0 A0.out).mono ?_
  rintro e9 v9 ⟨rfl, hv9⟩
  have hv8 := hv9.symm
  subst hv8
  go_wp2_with fail
  refine (C3.out v0 A0.out).mono ?_
  rintro e9 v9 ⟨rfl, hv9⟩
  have hv8 := hv9.symm
  subst hv8
  go_wp2
  go_ret
  exact ⟨rfl, A0.out⟩
set_option maxRecDepth 100000 in
set_option maxHeartbeats 16000000 in
theorem same_4 (pb : Option Addr) (lb cb : Nat) (pw : Option Addr) (lw cw : Nat) (pt : Option Addr) (lt ct : Nat) (ps : Option Addr) (ls cs : Nat) (sky st : Int) (pb' : Option Addr) (lb' cb' : Nat) (pw' : Option Addr) (lw' cw' : Nat) (pt' : Option Addr) (lt' ct' : Nat) (ps' : Option Addr) (ls' cs' : Nat) (sky' st' : Int) (w : World) (h4 : (sky == sky') = false)
    (C0 : Hid (∀ v, Ab w v → Calls Tryz.prog 40 #[.slice pb lb cb, .slice pb' lb' cb', .func (.func 41) #[] #[]] v fun e w' => e = .returned (.bool true) ∧ w' = v))
    (C1 : Hid (∀ v, Ab w v → Calls Tryz.prog 42 #[.slice pw lw cw, .slice pw' lw' cw', .func (.func 43) #[] #[]] v fun e w' => e = .returned (.bool true) ∧ w' = v))
    (C2 : Hid (∀ v, Ab w v → Calls Tryz.prog 42 #[.slice pt lt ct, .slice pt' lt' ct', .func (.func 43) #[] #[]] v fun e w' => e = .returned (.bool true) ∧ w' = v))
    (C3 : Hid (∀ v, Ab w v → Calls Tryz.prog 40 #[.slice ps ls cs, .slice ps' ls' cs', .func (.func 41) #[] #[]] v fun e w' => e = .returned (.bool true) ∧ w' = v)) :
    Calls Tryz.prog 15 #[.agg #[.slice pb lb cb, .slice pw lw cw, .slice pt lt ct, .slice ps ls cs, .int .i64 sky, .int .i64 st], .agg #[.slice pb' lb' cb', .slice pw' lw' cw', .slice pt' lt' ct', .slice ps' ls' cs', .int .i64 sky', .int .i64 st']] w fun e w' => e = .returned (.bool false) ∧ Below w.heap.size w w' := by
  have A0 : Hid (Ab w ((w.alloc (.cells #[.slice pb lb cb, .slice pw lw cw, .slice pt lt ct, .slice ps ls cs, .int .i64 sky, .int .i64 st] 33)).alloc (.cells #[.slice pb' lb' cb', .slice pw' lw' cw', .slice pt' lt' ct', .slice ps' ls' cs', .int .i64 sky', .int .i64 st'] 33))) := bl2 _ _ _
  have R0 : Hid (((w.alloc (.cells #[.slice pb lb cb, .slice pw lw cw, .slice pt lt ct, .slice ps ls cs, .int .i64 sky, .int .i64 st] 33)).alloc (.cells #[.slice pb' lb' cb', .slice pw' lw' cw', .slice pt' lt' ct', .slice ps' ls' cs', .int .i64 sky', .int .i64 st'] 33)).heap[w.heap.size]? = some (.cells #[.slice pb lb cb, .slice pw lw cw, .slice pt lt ct, .slice ps ls cs, .int .i64 sky, .int .i64 st] 33)) := heap_alloc2_old _ _ _
  have Q0 : Hid (((w.alloc (.cells #[.slice pb lb cb, .slice pw lw cw, .slice pt lt ct, .slice ps ls cs, .int .i64 sky, .int .i64 st] 33)).alloc (.cells #[.slice pb' lb' cb', .slice pw' lw' cw', .slice pt' lt' ct', .slice ps' ls' cs', .int .i64 sky', .int .i64 st'] 33)).heap[w.heap.size + 1]? = some (.cells #[.slice pb' lb' cb', .slice pw' lw' cw', .slice pt' lt' ct', .slice ps' ls' cs', .int .i64 sky', .int .i64 st'] 33)) := heap_alloc2_new _ _ _
  go_enter Tryz.func15, Tryz.ntmps15
  go_upto_region 1 with fail
  generalize hW : World.alloc (World.alloc w _) _ = v0 at *
  obtain ⟨ga, hga⟩ : ∃ g, w.heap.size = g := ⟨_, rfl⟩
  obtain ⟨gq, hgq⟩ : ∃ g, w.heap.size + 1 = g := ⟨_, rfl⟩
  rw [hgq] at Q0 ⊢
  rw [hga] at R0 ⊢
  clear hga hgq hW
  have x0 := cell_of_row _ _ 0 _ _ _ R0.out
  have x1 := cell_of_row _ _ 1 _ _ _ R0.out
  have x2 := cell_of_row _ _ 2 _ _ _ R0.out
  have x3 := cell_of_row _ _ 3 _ _ _ R0.out
  have x4 := cell_of_row _ _ 4 _ _ _ R0.out
  have x5 := cell_of_row _ _ 5 _ _ _ R0.out
  have y0 := cell_of_row _ _ 0 _ _ _ Q0.out
  have y1 := cell_of_row _ _ 1 _ _ _ Q0.out
  have y2 := cell_of_row _ _ 2 _ _ _ Q0.out
  have y3 := cell_of_row _ _ 3 _ _ _ Q0.out
  have y4 := cell_of_row _ _ 4 _ _ _ Q0.out
  have y5 := cell_of_row _ _ 5 _ _ _ Q0.out
  go_wp2_with fail
  refine (C0.out v0 A0.out).mono ?_
  rintro e9 v9 ⟨rfl, hv9⟩
  have hv8 := hv9.symm
  subst hv8
  go_wp2_with fail
  refine (C1.out v0 A0.out).mono ?_
  rintro e9 v9 ⟨rfl, hv9⟩
  have hv8 := hv9.symm
  subst hv8
  go_wp2_with fail
  refine (C2.out v0 A0.out).mono ?_
  rintro e9 v9 ⟨rfl, hv9⟩
  have hv8 := hv9.symm
  subst hv8
  go_wp2_with fail
  refine (C3.out v0 A0.out).mono ?_
  rintro e9 v9 ⟨rfl, hv9⟩
  have hv8 := hv9.symm
  subst hv8
  go_wp2
  go_ret
  exact ⟨rfl, A0.out⟩
set_option maxRecDepth 100000 in
set_option maxHeartbeats 16000000 in
theorem same_5 (pb : Option Addr) (lb cb : Nat) (pw : Option Addr) (lw cw : Nat) (pt : Option Addr) (lt ct : Nat) (ps : Option Addr) (ls cs : Nat) (sky st : Int) (pb' : Option Addr) (lb' cb' : Nat) (pw' : Option Addr) (lw' cw' : Nat) (pt' : Option Addr) (lt' ct' : Nat) (ps' : Option Addr) (ls' cs' : Nat) (sky' st' : Int) (w : World) (h4 : (sky == sky') = true) (h5 : (st == st') = false)
    (C0 : Hid (∀ v, Ab w v → Calls Tryz.prog 40 #[.slice pb lb cb, .slice pb' lb' cb', .func (.func 41) #[] #[]] v fun e w' => e = .returned (.bool true) ∧ w' = v))
    (C1 : Hid (∀ v, Ab w v → Calls Tryz.prog 42 #[.slice pw lw cw, .slice pw' lw' cw', .func (.func 43) #[] #[]] v fun e w' => e = .returned (.bool true) ∧ w' = v))
    (C2 : Hid (∀ v, Ab w v → Calls Tryz.prog 42 #[.slice pt lt ct, .slice pt' lt' ct', .func (.func 43) #[] #[]] v fun e w' => e = .returned (.bool true) ∧ w' = v))
    (C3 : Hid (∀ v, Ab w v → Calls Tryz.prog 40 #[.slice ps ls cs, .slice ps' ls' cs', .func (.func 41) #[] #[]] v fun e w' => e = .returned (.bool true) ∧ w' = v)) :
    Calls Tryz.prog 15 #[.agg #[.slice pb lb cb, .slice pw lw cw, .slice pt lt ct, .slice ps ls cs, .int .i64 sky, .int .i64 st], .agg #[.slice pb' lb' cb', .slice pw' lw' cw', .slice pt' lt' ct', .slice ps' ls' cs', .int .i64 sky', .int .i64 st']] w fun e w' => e = .returned (.bool false) ∧ Below w.heap.size w w' := by
  have A0 : Hid (Ab w ((w.alloc (.cells #[.slice pb lb cb, .slice pw lw cw, .slice pt lt ct, .slice ps ls cs, .int .i64 sky, .int .i64 st] 33)).alloc (.cells #[.slice pb' lb' cb', .slice pw' lw' cw', .slice pt' lt' ct', .slice ps' ls' cs', .int .i64 sky', .int .i64 st'] 33))) := bl2 _ _ _
  have R0 : Hid (((w.alloc (.cells #[.slice pb lb cb, .slice pw lw cw, .slice pt lt ct, .slice ps ls cs, .int .i64 sky, .int .i64 st] 33)).alloc (.cells #[.slice pb' lb' cb', .slice pw' lw' cw', .slice pt' lt' ct', .slice ps' ls' cs', .int .i64 sky', .int .i64 st'] 33)).heap[w.heap.size]? = some (.cells #[.slice pb lb cb, .slice pw lw cw, .slice pt lt ct, .slice ps ls cs, .int .i64 sky, .int .i64 st] 33)) := heap_alloc2_old _ _ _
  have Q0 : Hid (((w.alloc (.cells #[.slice pb lb cb, .slice pw lw cw, .slice pt lt ct, .slice ps ls cs, .int .i64 sky, .int .i64 st] 33)).alloc (.cells #[.slice pb' lb' cb', .slice pw' lw' cw', .slice pt' lt' ct', .slice ps' ls' cs', .int .i64 sky', .int .i64 st'] 33)).heap[w.heap.size + 1]? = some (.cells #[.slice pb' lb' cb', .slice pw' lw' cw', .slice pt' lt' ct', .slice ps' ls' cs', .int .i64 sky', .int .i64 st'] 33)) := heap_alloc2_new _ _ _
  go_enter Tryz.func15, Tryz.ntmps15
  go_upto_region 1 with fail
  generalize hW : World.alloc (World.alloc w _) _ = v0 at *
  obtain ⟨ga, hga⟩ : ∃ g, w.heap.size = g := ⟨_, rfl⟩
  obtain ⟨gq, hgq⟩ : ∃ g, w.heap.size + 1 = g := ⟨_, rfl⟩
  rw [hgq] at Q0 ⊢
  rw [hga] at R0 ⊢
  clear hga hgq hW
  have x0 := cell_of_row _ _ 0 _ _ _ R0.out
  have x1 := cell_of_row _ _ 1 _ _ _ R0.out
  have x2 := cell_of_row _ _ 2 _ _ _ R0.out
  have x3 := cell_of_row _ _ 3 _ _ _ R0.out
  have x4 := cell_of_row _ _ 4 _ _ _ R0.out
  have x5 := cell_of_row _ _ 5 _ _ _ R0.out
  have y0 := cell_of_row _ _ 0 _ _ _ Q0.out
  have y1 := cell_of_row _ _ 1 _ _ _ Q0.out
  have y2 := cell_of_row _ _ 2 _ _ _ Q0.out
  have y3 := cell_of_row _ _ 3 _ _ _ Q0.out
  have y4 := cell_of_row _ _ 4 _ _ _ Q0.out
  have y5 := cell_of_row _ _ 5 _ _ _ Q0.out
  go_wp2_with fail
  refine (C0.out v0 A0.out).mono ?_
  rintro e9 v9 ⟨rfl, hv9⟩
  have hv8 := hv9.symm
  subst hv8
  go_wp2_with fail
  refine (C1.out v0 A0.out).mono ?_
  rintro e9 v9 ⟨rfl, hv9⟩
  have hv8 := hv9.symm
  subst hv8
  go_wp2_with fail
  refine (C2.out v0 A0.out).mono ?_
  rintro e9 v9 ⟨rfl, hv9⟩
  have hv8 := hv9.symm
  subst hv8
  go_wp2_with fail
  refine (C3.out v0 A0.out).mono ?_
  rintro e9 v9 ⟨rfl, hv9⟩
  have hv8 := hv9.symm
  subst hv8
  go_wp2
  go_ret
  exact ⟨rfl, A0.out⟩
set_option maxRecDepth 100000 in
set_option maxHeartbeats 16000000 in
theorem same_6 (pb : Option Addr) (lb cb : Nat) (pw : Option Addr) (lw cw : Nat) (pt : Option Addr) (lt ct : Nat) (ps : Option Addr) (ls cs : Nat) (sky st : Int) (pb' : Option Addr) (lb' cb' : Nat) (pw' : Option Addr) (lw' cw' : Nat) (pt' : Option Addr) (lt' ct' : Nat) (ps' : Option Addr) (ls' cs' : Nat) (sky' st' : Int) (w : World) (h4 : (sky == sky') = true) (h5 : (st == st') = true)
    (C0 : Hid (∀ v, Ab w v → Calls Tryz.prog 40 #[.slice pb lb cb, .slice pb' lb' cb', .func (.func 41) #[] #[]] v fun e w' => e = .returned (.bool true) ∧ w' = v))
    (C1 : Hid (∀ v, Ab w v → Calls Tryz.prog 42 #[.slice pw lw cw, .slice pw' lw' cw', .func (.func 43) #[] #[]] v fun e w' => e = .returned (.bool true) ∧ w' = v))
    (C2 : Hid (∀ v, Ab w v → Calls Tryz.prog 42 #[.slice pt lt ct, .slice pt' lt' ct', .func (.func 43) #[] #[]] v fun e w' => e = .returned (.bool true) ∧ w' = v))
    (C3 : Hid (∀ v, Ab w v → Calls Tryz.prog 40 #[.slice ps ls cs, .slice ps' ls' cs', .func (.func 41) #[] #[]] v fun e w' => e = .returned (.bool true) ∧ w' = v)) :
    Calls Tryz.prog 15 #[.agg #[.slice pb lb cb, .slice pw lw cw, .slice pt lt ct, .slice ps ls cs, .int .i64 sky, .int .i64 st], .agg #[.slice pb' lb' cb', .slice pw' lw' cw', .slice pt' lt' ct', .slice ps' ls' cs', .int .i64 sky', .int .i64 st']] w fun e w' => e = .returned (.bool true) ∧ Below w.heap.size w w' := by
  have A0 : Hid (Ab w ((w.alloc (.cells #[.slice pb lb cb, .slice pw lw cw, .slice pt lt ct, .slice ps ls cs, .int .i64 sky, .int .i64 st] 33)).alloc (.cells #[.slice pb' lb' cb', .slice pw' lw' cw', .slice pt' lt' ct', .slice ps' ls' cs', .int .i64 sky', .int .i64 st'] 33))) := bl2 _ _ _
  have R0 : Hid (((w.alloc (.cells #[.slice pb lb cb, .slice pw lw cw, .slice pt lt ct, .slice ps ls cs, .int .i64 sky, .int .i64 st] 33)).alloc (.cells #[.slice pb' lb' cb', .slice pw' lw' cw', .slice pt' lt' ct', .slice ps' ls' cs', .int .i64 sky', .int .i64 st'] 33)).heap[w.heap.size]? = some (.cells #[.slice pb lb cb, .slice pw lw cw, .slice pt lt ct, .slice ps ls cs, .int .i64 sky, .int .i64 st] 33)) := heap_alloc2_old _ _ _
  have Q0 : Hid (((w.alloc (.cells #[.slice pb lb cb, .slice pw lw cw, .slice pt lt ct, .slice ps ls cs, .int .i64 sky, .int .i64 st] 33)).alloc (.cells #[.slice pb' lb' cb', .slice pw' lw' cw', .slice pt' lt' ct', .slice ps' ls' cs', .int .i64 sky', .int .i64 st'] 33)).heap[w.heap.size + 1]? = some (.cells #[.slice pb' lb' cb', .slice pw' lw' cw', .slice pt' lt' ct', .slice ps' ls' cs', .int .i64 sky', .int .i64 st'] 33)) := heap_alloc2_new _ _ _
  go_enter Tryz.func15, Tryz.ntmps15
  go_upto_region 1 with fail
  generalize hW : World.alloc (World.alloc w _) _ = v0 at *
  obtain ⟨ga, hga⟩ : ∃ g, w.heap.size = g := ⟨_, rfl⟩
  obtain ⟨gq, hgq⟩ : ∃ g, w.heap.size + 1 = g := ⟨_, rfl⟩
  rw [hgq] at Q0 ⊢
  rw [hga] at R0 ⊢
  clear hga hgq hW
  have x0 := cell_of_row _ _ 0 _ _ _ R0.out
  have x1 := cell_of_row _ _ 1 _ _ _ R0.out
  have x2 := cell_of_row _ _ 2 _ _ _ R0.out
  have x3 := cell_of_row _ _ 3 _ _ _ R0.out
  have x4 := cell_of_row _ _ 4 _ _ _ R0.out
  have x5 := cell_of_row _ _ 5 _ _ _ R0.out
  have y0 := cell_of_row _ _ 0 _ _ _ Q0.out
  have y1 := cell_of_row _ _ 1 _ _ _ Q0.out
  have y2 := cell_of_row _ _ 2 _ _ _ Q0.out
  have y3 := cell_of_row _ _ 3 _ _ _ Q0.out
  have y4 := cell_of_row _ _ 4 _ _ _ Q0.out
  have y5 := cell_of_row _ _ 5 _ _ _ Q0.out
  go_wp2_with fail
  refine (C0.out v0 A0.out).mono ?_
  rintro e9 v9 ⟨rfl, hv9⟩
  have hv8 := hv9.symm
  subst hv8
  go_wp2_with fail
  refine (C1.out v0 A0.out).mono ?_
  rintro e9 v9 ⟨rfl, hv9⟩
  have hv8 := hv9.symm
  subst hv8
  go_wp2_with fail
  refine (C2.out v0 A0.out).mono ?_
  rintro e9 v9 ⟨rfl, hv9⟩
  have hv8 := hv9.symm
  subst hv8
  go_wp2_with fail
  refine (C3.out v0 A0.out).mono ?_
  rintro e9 v9 ⟨rfl, hv9⟩
  have hv8 := hv9.symm
  subst hv8
  go_wp2
  go_ret
  exact ⟨rfl, A0.out⟩
/-- WHAT Same ANSWERS -/
theorem same_at (pb : Option Addr) (lb cb : Nat) (B : Nat → Nat) (pw : Option Addr) (lw cw : Nat) (W : Nat → Int) (pt : Option Addr) (lt ct : Nat) (T : Nat → Int) (ps : Option Addr) (ls cs : Nat) (S : Nat → Nat) (sky st : Int) (pb' : Option Addr) (lb' cb' : Nat) (B' : Nat → Nat) (pw' : Option Addr) (lw' cw' : Nat) (W' : Nat → Int) (pt' : Option Addr) (lt' ct' : Nat) (T' : Nat → Int) (ps' : Option Addr) (ls' cs' : Nat) (S' : Nat → Nat) (sky' st' : Int) (w : World) (hl : (lb ≤ 281474976710656 ∧ lw ≤ 281474976710656 ∧ lt ≤ 281474976710656 ∧ ls ≤ 281474976710656)) (i1 : IsFl w pb lb B) (i2 : Sh.IsI w pw lw W) (i3 : Sh.IsI w pt lt T) (i4 : IsFl w ps ls S) (j1 : IsFl w pb' lb' B') (j2 : Sh.IsI w pw' lw' W') (j3 : Sh.IsI w pt' lt' T') (j4 : IsFl w ps' ls' S') :
    Calls Tryz.prog 15 #[.agg #[.slice pb lb cb, .slice pw lw cw, .slice pt lt ct, .slice ps ls cs, .int .i64 sky, .int .i64 st], .agg #[.slice pb' lb' cb', .slice pw' lw' cw', .slice pt' lt' ct', .slice ps' ls' cs', .int .i64 sky', .int .i64 st']] w fun e w' => e = .returned (.bool (eqS lb lw lt ls B W T S sky st lb' lw' lt' ls' B' W' T' S' sky' st')) ∧ Below w.heap.size w w' := by
  have C1 := fun r (h : eqL lb lb' B B' = r) v (a : Ab w v) => sameLF_at pb lb cb pb' lb' cb' B B' r v hl.1 (i1.below a) (j1.below a) h
  have C2 := fun r (h : eqL lw lw' W W' = r) v (a : Ab w v) => sameLI_at pw lw cw pw' lw' cw' W W' r v hl.2.1 (i2.below a) (j2.below a) h
  have C3 := fun r (h : eqL lt lt' T T' = r) v (a : Ab w v) => sameLI_at pt lt ct pt' lt' ct' T T' r v hl.2.2.1 (i3.below a) (j3.below a) h
  have C4 := fun r (h : eqL ls ls' S S' = r) v (a : Ab w v) => sameLF_at ps ls cs ps' ls' cs' S S' r v hl.2.2.2 (i4.below a) (j4.below a) h
  unfold eqS
  cases h0 : eqL lb lb' B B' with
  | false => exact same_0 pb lb cb pw lw cw pt lt ct ps ls cs sky st pb' lb' cb' pw' lw' cw' pt' lt' ct' ps' ls' cs' sky' st' w (C1 _ h0)
  | true =>
    cases h1 : eqL lw lw' W W' with
    | false => exact same_1 pb lb cb pw lw cw pt lt ct ps ls cs sky st pb' lb' cb' pw' lw' cw' pt' lt' ct' ps' ls' cs' sky' st' w (C1 _ h0) (C2 _ h1)
    | true =>
      cases h2 : eqL lt lt' T T' with
      | false => exact same_2 pb lb cb pw lw cw pt lt ct ps ls cs sky st pb' lb' cb' pw' lw' cw' pt' lt' ct' ps' ls' cs' sky' st' w (C1 _ h0) (C2 _ h1) (C3 _ h2)
      | true =>
        cases h3 : eqL ls ls' S S' with
        | false => exact same_3 pb lb cb pw lw cw pt lt ct ps ls cs sky st pb' lb' cb' pw' lw' cw' pt' lt' ct' ps' ls' cs' sky' st' w (C1 _ h0) (C2 _ h1) (C3 _ h2) (C4 _ h3)
        | true =>
          by_cases h4 : sky = sky'
          · by_cases h5 : st = st'
            · rw [decide_eq_true h4, decide_eq_true h5]
              exact same_6 pb lb cb pw lw cw pt lt ct ps ls cs sky st pb' lb' cb' pw' lw' cw' pt' lt' ct' ps' ls' cs' sky' st' w (by simp [h4]) (by simp [h5]) (C1 _ h0) (C2 _ h1) (C3 _ h2) (C4 _ h3)
            · rw [decide_eq_true h4, decide_eq_false h5]
              exact same_5 pb lb cb pw lw cw pt lt ct ps ls cs sky st pb' lb' cb' pw' lw' cw' pt' lt' ct' ps' ls' cs' sky' st' w (by simp [h4]) (by simp [h5]) (C1 _ h0) (C2 _ h1) (C3 _ h2) (C4 _ h3)
          · rw [decide_eq_false h4]
            exact same_4 pb lb cb pw lw cw pt lt ct ps ls cs sky st pb' lb' cb' pw' lw' cw' pt' lt' ct' ps' ls' cs' sky' st' w (by simp [h4]) (C1 _ h0) (C2 _ h1) (C3 _ h2) (C4 _ h3)
theorem sameC : SameC := fun pb lb cb B pw lw cw W pt lt ct T ps ls cs S sky st pb' lb' cb' B' pw' lw' cw' W' pt' lt' ct' T' ps' ls' cs' S' sky' st' w hl _ i1 i2 i3 i4 j1 j2 j3 j4 => same_at pb lb cb B pw lw cw W pt lt ct T ps ls cs S sky st pb' lb' cb' B' pw' lw' cw' W' pt' lt' ct' T' ps' ls' cs' S' sky' st' w (le20 hl) i1 i2 i3 i4 j1 j2 j3 j4
end Ss
end Go.Proofs.YtdigecacmibkpaaGreatDoor

namespace Go.Proofs.YtdigecacmibkpaaGreatDoor
open Tf Cu
namespace Ss
/-- the edge that an edge becomes -/
def atS (n r i : Nat) : Nat := eE n (tnT n r (edT n i))
section
variable {n r : Nat}
theorem eE_two (hn : 1 ≤ n) {t u : Nat} (ht : t < 24 * n * n) (hu : u < 24 * n * n) (h : eE n u = eE n t) : u = t ∨ u = mt n t := by
  unfold eE at h
  cases a : isL n u with
  | true =>
    cases b : isL n t with
    | true => simp [a, b] at h; exact .inl (eN_inj a b h)
    | false => simp [a, b] at h; exact .inr (eN_inj a (by rw [isL_mt hn ht, b]; rfl) h)
  | false =>
    cases b : isL n t with
    | true =>
      simp [a, b] at h
      have e := eN_inj (by rw [isL_mt hn hu, a]; rfl) b h
      right
      rw [← e, mt_mt hn hu]
    | false =>
      simp [a, b] at h
      have e := eN_inj (by rw [isL_mt hn hu, a]; rfl) (by rw [isL_mt hn ht, b]; rfl) h
      left
      rw [← mt_mt hn hu, e, mt_mt hn ht]
theorem atS_lt (hn : 1 ≤ n) (hr : r < 24) {i : Nat} (hi : i < 12 * n * n) : atS n r i < 12 * n * n := eE_lt hn (tnT_lt hn (edT_spec hn hi).1 hr)
theorem atS_inj (hn : 1 ≤ n) (hr : r < 24) {i j : Nat} (hi : i < 12 * n * n) (hj : j < 12 * n * n) (h : atS n r i = atS n r j) : i = j := by
  obtain ⟨h1, h2, h3⟩ := edT_spec hn hi
  obtain ⟨k1, k2, k3⟩ := edT_spec hn hj
  rcases eE_two hn (tnT_lt hn k1 hr) (tnT_lt hn h1 hr) h with q | q
  · have e := (tT_inv hn hr h1).1
    rw [q, (tT_inv hn hr k1).1] at e
    rw [← h3, ← k3, e]
  · rw [mt_tn hn k1 hr] at q
    have e := (tT_inv hn hr h1).1
    rw [q, (tT_inv hn hr (mt_lt hn k1)).1] at e
    rw [← e, isL_mt hn k1, k2] at h2
    cases h2
theorem atS_ex (hn : 1 ≤ n) (hr : r < 24) (S : Nat → Nat) {e : Nat} (he : e < 12 * n * n) : ∃ i, i < 12 * n * n ∧ atS n r i = e ∧ tuS n r S e = if eS n (tnT n r (edT n i)) < 0 then ngC (S i) else S i := by
  obtain ⟨h1, h2, h3⟩ := edT_spec hn he
  have iv := (inv_tab r hr).1
  obtain ⟨t, ht⟩ : ∃ t, tnT n (inv r) (edT n e) = t := ⟨_, rfl⟩
  have tl : t < 24 * n * n := by rw [← ht]; exact tnT_lt hn h1 iv
  have tb : tnT n r t = edT n e := by rw [← ht]; exact (tT_inv hn hr h1).2
  unfold tuS
  rw [ht]
  cases l : isL n t with
  | true =>
    refine ⟨eN n t, ed_lt hn tl l, ?_, ?_⟩
    · unfold atS eE
      rw [edT_eN hn tl l, tb, if_pos h2, h3]
    · have es : eS n (edT n e) = 1 := by unfold eS; rw [if_pos h2]
      rw [edT_eN hn tl l, tb, seen_l l, es, if_neg (by decide)]
  | false =>
    have ml := mt_lt hn tl
    have m := isL_mt hn tl
    rw [l] at m
    have q : tnT n r (mt n t) = mt n (edT n e) := by rw [← mt_tn hn tl hr, tb]
    have qn : isL n (mt n (edT n e)) = false := by rw [isL_mt hn h1, h2]; rfl
    refine ⟨eN n (mt n t), ed_lt hn ml m, ?_, ?_⟩
    · unfold atS eE
      rw [edT_eN hn ml m, q, if_neg (by rw [qn]; decide), mt_mt hn h1, h3]
    · have es : eS n (mt n (edT n e)) = -1 := by unfold eS; rw [if_neg (by rw [qn]; decide)]
      rw [edT_eN hn ml m, q, seen_r l, es, if_pos (by decide)]
theorem tn_inj (hn : 1 ≤ n) (hr : r < 24) {c d : Nat} (hc : c < 6 * n * n) (hd : d < 6 * n * n) (h : tnC n r c = tnC n r d) : c = d := by
  have e := (tn_inv hn hr hc).1
  rw [h, (tn_inv hn hr hd).1] at e
  exact e.symm
end
end Ss
end Go.Proofs.YtdigecacmibkpaaGreatDoor

namespace Go.Proofs.YtdigecacmibkpaaGreatDoor
open Go.RowKit Tf Cu Go.Deep
attribute [local go_sem] run_bits run_from raw_feq raw_fne raw_flt raw_fgt run_neg run_store_float
namespace Ss
set_option maxRecDepth 100000 in
set_option maxHeartbeats 64000000 in
theorem edgeT_go (n gb r i l s rcl bkl c q u a : Nat) (g : Int) (w : World) (sB : s < 4) (qB : q < 4) (hu : (s + q) % 4 = u)
    (CE : Hid (∀ v, Ab w v → Calls Tryz.prog 90 #[.pointer (some ⟨gb, 0, none⟩), .int .i64 (i : Nat)] v fun e w' => e = .returned (.tuple #[.agg #[.int .i64 (l : Nat), .int .i64 (s : Nat), .int .i64 (rcl : Nat), .int .i64 (bkl : Nat)], .bool true]) ∧ Below v.heap.size v w'))
    (CS : Hid (∀ v, Ab w v → Calls Tryz.prog 91 #[.pointer (some ⟨gb, 0, none⟩)] v fun e w' => e = .returned (.int .i64 (n : Nat)) ∧ Below v.heap.size v w'))
    (CT : Hid (∀ v, Ab w v → Calls Tryz.prog 50 #[.int .i64 (n : Nat), .int .i64 (r : Nat), .int .i64 (l : Nat)] v fun e w' => e = .returned (.tuple #[.int .i64 (c : Nat), .int .i64 (q : Nat)]) ∧ Below v.heap.size v w'))
    (CA : Hid (∀ v, Ab w v → Calls Tryz.prog 92 #[.pointer (some ⟨gb, 0, none⟩), .int .i64 (c : Nat), .int .i64 (u : Nat)] v fun e w' => e = .returned (.tuple #[.int .i64 (a : Nat), .int .i64 g]) ∧ Below v.heap.size v w')) :
    Calls Tryz.prog 51 #[.pointer (some ⟨gb, 0, none⟩), .int .i64 (r : Nat), .int .i64 (i : Nat)] w fun e w' => e = .returned (.tuple #[.int .i64 (a : Nat), .int .i64 g]) ∧ Below w.heap.size w w' := by
  have rm : ((s : Int) + (q : Int)).tmod 4 = (u : Nat) := by rw [Int.tmod_eq_emod_of_nonneg (by omega)]; omega
  have sI : (s : Int) < 4 := by omega
  have qI : (q : Int) < 4 := by omega
  clear sB qB hu
  go_enter Tryz.func51, Tryz.ntmps51
  go_wp2_with fail
  refine (CE.out w (Ab.refl w)).mono ?_
  rintro e9 v1 ⟨rfl, b1⟩
  have A1 : Hid (Ab w v1) := b1
  clear b1 CE
  have E2 : Hid ((v1.alloc (.cells #[.int .i64 (l : Nat), .int .i64 (s : Nat), .int .i64 (rcl : Nat), .int .i64 (bkl : Nat)] 84)).heap[v1.heap.size]? = some (.cells #[.int .i64 (l : Nat), .int .i64 (s : Nat), .int .i64 (rcl : Nat), .int .i64 (bkl : Nat)] 84)) := heap_alloc_new _ _
  have A2 : Hid (Ab w (v1.alloc (.cells #[.int .i64 (l : Nat), .int .i64 (s : Nat), .int .i64 (rcl : Nat), .int .i64 (bkl : Nat)] 84))) := A1.out.trans (bl1 _ _)
  go_upto_region 2 with fail
  generalize hW : World.alloc v1 _ = v2 at *
  obtain ⟨ge, hge⟩ : ∃ g, v1.heap.size = g := ⟨_, rfl⟩
  rw [hge] at E2 ⊢
  clear hge hW A1
  obtain ⟨UU, E, hF1, hF2⟩ := cls v2
  have HU := hid hF2
  have HU1 := hid hF1
  have y0 : ∀ u, (E u).cell? ⟨ge, 0, none⟩ = some (.int .i64 (l : Nat)) := fun u => cell_of_row _ _ 0 _ _ _ ((hF1 u).heap E2.out)
  have HX : Hid (∀ u, Ab w (E u)) := fun u => A2.out.trans (hF1 u)
  have DD0 := HU.out _ (Ab.refl v2).drew
  clear hF1 hF2
  refine region_cls E (by kernel_rfl) (by kernel_rfl) DD0 ?_
  repeat (go_big_quiet_step (first
    | (go_at_call 91; exact calls_cls HU HU1 (CS.out _ (HX.out _)))
    | (go_at_call 50; exact calls_cls HU HU1 (CT.out _ (HX.out _)))
    | (with_reducible rfl)))
  refine wpQuiet_nil ?_
  intro v3 hwz
  obtain ⟨u0, hu⟩ := hwz
  have A3 : Hid (Ab v2 v3) := by rw [hu]; exact HU1.out u0
  clear hu u0
  clear HU HU1 DD0 y0 HX
  clear E UU
  have y1 := cell_of_row _ _ 1 _ _ _ (A3.out.heap E2.out)
  go_wp2_with fail
  refine (CA.out v3 (A2.out.trans A3.out)).mono ?_
  rintro e9 v4 ⟨rfl, b4⟩
  have A4 : Hid (Ab w v4) := (A2.out.trans A3.out).trans b4
  clear b4 y1
  go_wp2
  go_ret2
  exact ⟨rfl, A4.out⟩
/-- WHAT edgeTurned ANSWERS -/
theorem edgeT_at {n gb r i : Nat} {w : World} (hn : 1 ≤ n ∧ n ≤ 32) (hr : r < 24) (hi : i < 12 * n * n) (g : GridOf n gb w) (hF : Fr w) :
    Calls Tryz.prog 51 #[.pointer (some ⟨gb, 0, none⟩), .int .i64 (r : Nat), .int .i64 (i : Nat)] w fun e w' => e = .returned (.tuple #[.int .i64 (atS n r i : Nat), .int .i64 (eS n (tnT n r (edT n i)))]) ∧ Below w.heap.size w w' := by
  obtain ⟨h1, h2, h3⟩ := edT_spec hn.1 hi
  refine edgeT_go n gb r i (edT n i / 4) (edT n i % 4) (bsC n (edT n i / 4) (edT n i % 4)) (bsS n (edT n i / 4) (edT n i % 4)) (tnC n r (edT n i / 4)) (tnS n r (edT n i / 4)) _ _ _ w (Nat.mod_lt _ (by omega)) (tn_lt9 hn.1 (t_cell h1) hr).2 rfl (fun v a => ?_) (fun v a => ?_) (fun v a => ?_) (fun v a => ?_)
  · have e := gEdge_ok hn h1 h2 (g.to a)
    rw [h3] at e
    exact e
  · exact (gSide_at (g.to a)).mono fun e w' h => ⟨h.1, by rw [h.2]; exact Below.refl _ _⟩
  · exact turn_at n r (edT n i / 4) v hn (t_cell h1) hr (hF.to a)
  · exact gAround_n hn (tn_in hn.1 hr (t_cell h1)) (Nat.mod_lt _ (by omega)) (g.to a)
end Ss
end Go.Proofs.YtdigecacmibkpaaGreatDoor

namespace Go.Proofs.YtdigecacmibkpaaGreatDoor
open Go.RowKit Tf Cu Go.Deep
attribute [local go_sem] run_bits run_from raw_feq raw_fne raw_flt raw_fgt run_neg run_store_float
namespace Ss
/-- a sea in a box: its lists are blocks from M on, ahead of its box -/
def SeaIn (M g : Nat) (p1 : Option Addr) (c1 : Nat) (p2 : Option Addr) (c2 : Nat) (p3 : Option Addr) (c3 : Nat) (p4 : Option Addr) (c4 : Nat) (n1 n2 n3 n4 : Nat) (A : Nat → Nat) (B C : Nat → Int) (D : Nat → Nat) (sk st : Int) (v : World) : Prop :=
  v.heap[g]? = some (.cells #[.slice p1 n1 c1, .slice p2 n2 c2, .slice p3 n3 c3, .slice p4 n4 c4, .int .i64 sk, .int .i64 st] 33) ∧ (IsFl v p1 n1 A ∧ Sh.IsI v p2 n2 B ∧ Sh.IsI v p3 n3 C ∧ IsFl v p4 n4 D) ∧ (OV 22 M (.slice p1 n1 c1) (((List.range n1).map A).map (Value.float .f64)) v ∧ OV 2 M (.slice p2 n2 c2) (((List.range n2).map B).map (Value.int .i64)) v ∧ OV 2 M (.slice p3 n3 c3) (((List.range n3).map C).map (Value.int .i64)) v ∧ OV 22 M (.slice p4 n4 c4) (((List.range n4).map D).map (Value.float .f64)) v) ∧ (∀ k, ((Value.slice p1 n1 c1).ownBlock = some k ∨ (Value.slice p2 n2 c2).ownBlock = some k ∨ (Value.slice p3 n3 c3).ownBlock = some k ∨ (Value.slice p4 n4 c4).ownBlock = some k) → k < g) ∧ (Dj (.slice p1 n1 c1) (.slice p2 n2 c2) ∧ Dj (.slice p1 n1 c1) (.slice p3 n3 c3) ∧ Dj (.slice p1 n1 c1) (.slice p4 n4 c4) ∧ Dj (.slice p2 n2 c2) (.slice p3 n3 c3) ∧ Dj (.slice p2 n2 c2) (.slice p4 n4 c4) ∧ Dj (.slice p3 n3 c3) (.slice p4 n4 c4))
theorem SeaIn.q {M g : Nat} {p1 : Option Addr} {c1 : Nat} {p2 : Option Addr} {c2 : Nat} {p3 : Option Addr} {c3 : Nat} {p4 : Option Addr} {c4 : Nat} {n1 n2 n3 n4 : Nat} {A : Nat → Nat} {B C : Nat → Int} {D : Nat → Nat} {sk st : Int} {v v' : World} {P : Nat → Prop} (h : SeaIn M g p1 c1 p2 c2 p3 c3 p4 c4 n1 n2 n3 n4 A B C D sk st v) (a : Rv.AbQ v P v') (hP : ∀ k, P k → k < M ∨ g < k) (hM : M ≤ g) : SeaIn M g p1 c1 p2 c2 p3 c3 p4 c4 n1 n2 n3 n4 A B C D sk st v' := by
  obtain ⟨h1, ⟨i1, i2, i3, i4⟩, ⟨o1, o2, o3, o4⟩, hk, dj⟩ := h
  have nt : ∀ k, M ≤ k → k < g → ¬ P k := fun k x y q => by have := hP k q; omega
  have ob : ∀ (p : Option Addr) (n c b o : Nat), p = some ⟨b, o, none⟩ → (Value.slice p n c).ownBlock = some b := fun p n c b o e => by subst e; rfl
  refine ⟨Rv.AbQ.heap a h1 (fun q => by have := hP _ q; omega), ⟨Rv.AbQ.isFl a i1 (fun b o e => nt b (o1.blk (ob _ _ _ _ _ e)).1 (hk b (.inl (ob _ _ _ _ _ e)))), Rv.AbQ.isI a i2 (fun b o e => nt b (o2.blk (ob _ _ _ _ _ e)).1 (hk b (.inr (.inl (ob _ _ _ _ _ e))))), Rv.AbQ.isI a i3 (fun b o e => nt b (o3.blk (ob _ _ _ _ _ e)).1 (hk b (.inr (.inr (.inl (ob _ _ _ _ _ e)))))), Rv.AbQ.isFl a i4 (fun b o e => nt b (o4.blk (ob _ _ _ _ _ e)).1 (hk b (.inr (.inr (.inr (ob _ _ _ _ _ e))))))⟩, ⟨o1.blkeq (fun k e => a.2.2.2.2 k (o1.blk e).2 (nt k (o1.blk e).1 (hk k (.inl e)))), o2.blkeq (fun k e => a.2.2.2.2 k (o2.blk e).2 (nt k (o2.blk e).1 (hk k (.inr (.inl e))))), o3.blkeq (fun k e => a.2.2.2.2 k (o3.blk e).2 (nt k (o3.blk e).1 (hk k (.inr (.inr (.inl e)))))), o4.blkeq (fun k e => a.2.2.2.2 k (o4.blk e).2 (nt k (o4.blk e).1 (hk k (.inr (.inr (.inr e))))))⟩, hk, dj⟩
theorem SeaIn.to {M g : Nat} {p1 : Option Addr} {c1 : Nat} {p2 : Option Addr} {c2 : Nat} {p3 : Option Addr} {c3 : Nat} {p4 : Option Addr} {c4 : Nat} {n1 n2 n3 n4 : Nat} {A : Nat → Nat} {B C : Nat → Int} {D : Nat → Nat} {sk st : Int} {v v' : World} (h : SeaIn M g p1 c1 p2 c2 p3 c3 p4 c4 n1 n2 n3 n4 A B C D sk st v) (a : Ab v v') (hM : M ≤ g) : SeaIn M g p1 c1 p2 c2 p3 c3 p4 c4 n1 n2 n3 n4 A B C D sk st v' := h.q (Rv.AbQ.to (Rv.AbQ.refl v (fun _ => False)) a) (fun _ q => q.elim) hM
theorem SeaIn.k {M g : Nat} {p1 : Option Addr} {c1 : Nat} {p2 : Option Addr} {c2 : Nat} {p3 : Option Addr} {c3 : Nat} {p4 : Option Addr} {c4 : Nat} {n1 n2 n3 n4 : Nat} {A : Nat → Nat} {B C : Nat → Int} {D : Nat → Nat} {sk st : Int} {v : World} (h : SeaIn M g p1 c1 p2 c2 p3 c3 p4 c4 n1 n2 n3 n4 A B C D sk st v) : K20 v M (fun k => M ≤ k ∧ k < g) (((List.range n1).map A).map (Value.float .f64)) (((List.range n2).map B).map (Value.int .i64)) (((List.range n3).map C).map (Value.int .i64)) (((List.range n4).map D).map (Value.float .f64)) (.slice p1 n1 c1) (.slice p2 n2 c2) (.slice p3 n3 c3) (.slice p4 n4 c4) v := by
  obtain ⟨h1, _, ⟨o1, o2, o3, o4⟩, hk, dj⟩ := h
  exact ⟨Rv.AbQ.refl _ _, o1, o2, o3, o4, dj, fun k e => .inl ⟨(o1.blk e).1, hk k (.inl e)⟩, fun k e => .inl ⟨(o2.blk e).1, hk k (.inr (.inl e))⟩, fun k e => .inl ⟨(o3.blk e).1, hk k (.inr (.inr (.inl e)))⟩, fun k e => .inl ⟨(o4.blk e).1, hk k (.inr (.inr (.inr e)))⟩⟩
theorem tuE_ok {side : Int} {lb lw lt ls : Nat} {B : Nat → Nat} {W T : Nat → Int} {S : Nat → Nat} {sky st turn : Int} (h : tuE side lb lw lt ls B W T S sky st turn = 0) : (1 ≤ side ∧ side ≤ 32) ∧ (lb = 6 * side.toNat * side.toNat ∧ lw = 6 * side.toNat * side.toNat ∧ lt = 6 * side.toNat * side.toNat ∧ ls = 2 * (6 * side.toNat * side.toNat)) ∧ okN (6 * side.toNat * side.toNat) B W T S sky st := by
  have c : (chk side lb lw lt ls B W T S sky st).2 = 0 := by
    unfold tuE at h
    by_cases q : (chk side lb lw lt ls B W T S sky st).2 = 0
    · exact q
    · rw [if_pos q] at h
      exact absurd h q
  unfold chk at c
  by_cases q : 1 ≤ side ∧ side ≤ 32
  · rw [if_pos q] at c
    obtain ⟨a, b⟩ := chN_ok.1 c
    exact ⟨q, a, b⟩
  · rw [if_neg q] at c
    exact absurd c (by decide)
end Ss
end Go.Proofs.YtdigecacmibkpaaGreatDoor
