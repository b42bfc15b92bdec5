/-
  Some of the texts of this proof, one behind the other.
-/
import Derived.Deep.QuietTactic
import Derived.Test.YtfddlnedpfkcaaaGreatDoorD17
namespace Go.Proofs.YtfddlnedpfkcaaaGreatDoor
open Go.RowKit Tf
attribute [local go_sem] run_bits run_from raw_feq raw_fne raw_flt raw_fgt run_neg
theorem lesser10_at (a b : Nat) (w : World) (ha : a ≤ 9218868437227405312) (hb : b ≤ 9218868437227405312) : Calls Tryz.prog 126 #[.float .f64 a, .float .f64 b] w fun e w' => e = .returned (.float .f64 (min a b)) ∧ w' = w := by
  have h := flt_nn hb ha
  by_cases c : b < a
  · rw [show min a b = b by omega]
    rw [decide_eq_true c] at h
    clear c ha hb
    go_enter Tryz.func126, Tryz.ntmps126
    go_wp2
    go_ret
    exact ⟨rfl, rfl⟩
  · rw [show min a b = a by omega]
    rw [decide_eq_false c] at h
    clear c ha hb
    go_enter Tryz.func126, Tryz.ntmps126
    go_wp2
    go_ret
    exact ⟨rfl, rfl⟩
theorem greater_at (a b : Nat) (w : World) (ha : a ≤ 9218868437227405312) (hb : b ≤ 9218868437227405312) : Calls Tryz.prog 127 #[.float .f64 a, .float .f64 b] w fun e w' => e = .returned (.float .f64 (max a b)) ∧ w' = w := by
  have h := fgt_nn hb ha
  by_cases c : a < b
  · rw [show max a b = b by omega]
    rw [decide_eq_true c] at h
    clear c ha hb
    go_enter Tryz.func127, Tryz.ntmps127
    go_wp2
    go_ret
    exact ⟨rfl, rfl⟩
  · rw [show max a b = a by omega]
    rw [decide_eq_false c] at h
    clear c ha hb
    go_enter Tryz.func127, Tryz.ntmps127
    go_wp2
    go_ret
    exact ⟨rfl, rfl⟩
set_option maxHeartbeats 1000000 in
theorem rabove1 (a b : Nat) (w : World) (ha : ps a = true) (hb : ps b = true) : Calls Tryz.prog 96 #[.int .i64 1, .float .f64 a, .float .f64 b] w fun e w' => ∃ r, e = .returned (.float .f64 r) ∧ (∃ n, w' = w.drewN n) ∧ IsC r (lm 1 a b) := by
  obtain ⟨a0, a1⟩ := ps_iff.1 ha
  obtain ⟨b0, b1⟩ := ps_iff.1 hb
  have C := hid (lesser10_at a b w a1 b1)
  have L := hid (IsC.refl (lm_le 1 a1 b1))
  have e : lm 1 a b = min a b := by unfold lm; simp
  rw [e] at L ⊢
  generalize min a b = m at *
  clear a0 a1 b0 b1 ha hb e
  go_enter Tryz.func96, Tryz.ntmps96
  go_wp2_with fail
  refine C.out.mono ?_
  rintro e w' ⟨rfl, rfl⟩
  go_wp2
  go_ret
  exact ⟨m, rfl, ⟨0, rfl⟩, L.out⟩
set_option maxHeartbeats 1000000 in
theorem rabove2 (a b : Nat) (w : World) (ha : ps a = true) (hb : ps b = true) : Calls Tryz.prog 96 #[.int .i64 2, .float .f64 a, .float .f64 b] w fun e w' => ∃ r, e = .returned (.float .f64 r) ∧ (∃ n, w' = w.drewN n) ∧ IsC r (lm 2 a b) := by
  obtain ⟨a0, a1⟩ := ps_iff.1 ha
  obtain ⟨b0, b1⟩ := ps_iff.1 hb
  have fa := (d2_facts a1).1
  have fb := (d2_facts b1).1
  have h1 : ∀ w t, (binOp .mul t (.float .f64 4611686018427387904) (.float .f64 a)).run Tryz.prog w = .ok (.float .f64 (mlB 4611686018427387904 a)) w := fun w t => run_float_arith w .mul t .f64 _ _ _ (mul_pp (by decide) a1 (by decide) a0)
  have h2 : ∀ w t, (binOp .mul t (.float .f64 4611686018427387904) (.float .f64 b)).run Tryz.prog w = .ok (.float .f64 (mlB 4611686018427387904 b)) w := fun w t => run_float_arith w .mul t .f64 _ _ _ (mul_pp (by decide) b1 (by decide) b0)
  have C1 := hid (fun w => lesser10_at (mlB 4611686018427387904 a) b w fa b1)
  have C2 := hid (fun w => lesser10_at a (mlB 4611686018427387904 b) w a1 fb)
  have C3 := hid (fun w => greater_at (min (mlB 4611686018427387904 a) b) (min a (mlB 4611686018427387904 b)) w (by omega) (by omega))
  have L := hid (IsC.refl (lm_le 2 a1 b1))
  have e : lm 2 a b = max (min (mlB 4611686018427387904 a) b) (min a (mlB 4611686018427387904 b)) := by unfold lm sbee; simp
  rw [e] at L ⊢
  clear e fa fb a0 a1 b0 b1 ha hb
  generalize mlB 4611686018427387904 a = p at *
  generalize mlB 4611686018427387904 b = q at *
  generalize min p b = u at *
  generalize min a q = v at *
  generalize max u v = s at *
  go_enter Tryz.func96, Tryz.ntmps96
  go_wp2_with fail
  refine (C1.out _).mono ?_
  rintro e w' ⟨rfl, hw⟩
  have hw2 := hw.symm
  subst hw2
  go_wp2_with fail
  refine (C2.out _).mono ?_
  rintro e w' ⟨rfl, hw⟩
  have hw2 := hw.symm
  subst hw2
  go_wp2_with fail
  refine (C3.out _).mono ?_
  rintro e w' ⟨rfl, hw⟩
  have hw2 := hw.symm
  subst hw2
  go_wp2
  go_ret
  exact ⟨s, rfl, ⟨0, rfl⟩, L.out⟩
theorem class_lr {r a b : Nat} (h : IsC r (leer a b)) (hn : leer a b = quiet ∨ leer a b ≤ 9218868437227405312) : 3 ≤ classB r ↔ ¬ leer a b < 9218868437227405312 := by
  obtain ⟨h1, h2⟩ := h
  have cl : 3 ≤ classB r ↔ 9218868437227405312 ≤ mg r := by
    unfold classB
    constructor
    · intro h
      by_cases c : mg r < 9218868437227405312
      · split at h
        · omega
        · split at h
          · omega
          · omega
      · omega
    · intro h
      rw [if_neg (by omega), if_neg (by omega), if_neg (by omega)]
      split <;> omega
  rw [cl]
  by_cases n : isN r = true
  · have e : leer a b = quiet := by rw [← h2]; unfold canonB; rw [if_pos n]
    have := isN_true.1 n
    rw [e]
    unfold quiet
    omega
  · have n := Bool.eq_false_iff.2 n
    have hm := isN_false.1 n
    have hw := word_eq r h1
    by_cases z : mg r = 0
    · have e : leer a b = 0 := by rw [← h2]; unfold canonB; rw [n, z]; rfl
      rw [e, z]
      omega
    · have e : leer a b = r := by rw [← h2]; unfold canonB; rw [n, if_neg (by decide), if_neg z]
      rcases hn with q | q
      · rw [← e, q] at n
        exact absurd n (by decide)
      · rw [e] at q ⊢
        rw [mg_of_lt (by omega)]
        omega
set_option maxHeartbeats 1000000 in
theorem rabove3 (a b : Nat) (w : World) (ha : ps a = true) (hb : ps b = true) : Calls Tryz.prog 96 #[.int .i64 3, .float .f64 a, .float .f64 b] w fun e w' => ∃ r, e = .returned (.float .f64 r) ∧ (∃ n, w' = w.drewN n) ∧ IsC r (lm 3 a b) := by
  obtain ⟨a0, a1⟩ := ps_iff.1 ha
  obtain ⟨b0, b1⟩ := ps_iff.1 hb
  have fa := d2_facts a1
  have L := leer_nn a1 b1 a0 b0
  have h1 : ∀ t, (binOp .mul t (.float .f64 4611686018427387904) (.float .f64 a)).run Tryz.prog w = .ok (.float .f64 (mlB 4611686018427387904 a)) w := fun t => run_float_arith w .mul t .f64 _ _ _ (mul_pp (by decide) a1 (by decide) a0)
  have h2 : ∀ t, (binOp .mul t (.float .f64 (mlB 4611686018427387904 a)) (.float .f64 b)).run Tryz.prog w = .ok (.float .f64 (mlB (mlB 4611686018427387904 a) b)) w := fun t => run_float_arith w .mul t .f64 _ _ _ (mul_pp fa.1 b1 (by omega) b0)
  have h3 : ∀ t, (binOp .add t (.float .f64 a) (.float .f64 b)).run Tryz.prog w = .ok (.float .f64 (plB a b)) w := fun t => run_float_arith w .add t .f64 _ _ _ (add_pp a1 b1)
  obtain ⟨r, n, h4, hc⟩ := div_any (P := Tryz.prog) w (mlB (mlB 4611686018427387904 a) b) (plB a b)
  have hc : IsC r (leer a b) := hc
  have k1 := class_lr hc L
  have CL := hid (refClass_any r (w.drewN n))
  have e : lm 3 a b = lr a b := by unfold lm; simp
  rw [e]
  by_cases c : leer a b < 9218868437227405312
  · have e : lr a b = leer a b := by unfold lr; rw [if_pos c]
    have k2 : ¬ 3 ≤ classB r := fun h => k1.1 h c
    have HC : Hid (IsC r (lr a b)) := by rw [e]; exact hc
    clear k1
    generalize classB r = cc at *
    generalize mlB (mlB 4611686018427387904 a) b = q at *
    generalize mlB 4611686018427387904 a = p at *
    generalize plB a b = s at *
    clear e c L fa a0 a1 b0 b1 ha hb
    clear hc
    go_enter Tryz.func96, Tryz.ntmps96
    go_wp2_with fail
    refine CL.out.mono ?_
    rintro e w' ⟨rfl, rfl⟩
    go_wp2
    go_ret
    exact ⟨r, rfl, ⟨n, rfl⟩, HC.out⟩
  · have e : lr a b = 0 := by unfold lr; rw [if_neg c]
    have k2 : 3 ≤ classB r := k1.2 c
    have HC : Hid (IsC 0 (lr a b)) := by rw [e]; exact ⟨by decide, by decide⟩
    clear k1
    generalize classB r = cc at *
    generalize mlB (mlB 4611686018427387904 a) b = q at *
    generalize mlB 4611686018427387904 a = p at *
    generalize plB a b = s at *
    clear e c L fa a0 a1 b0 b1 ha hb
    clear hc
    go_enter Tryz.func96, Tryz.ntmps96
    go_wp2_with fail
    refine CL.out.mono ?_
    rintro e w' ⟨rfl, rfl⟩
    go_wp2
    go_ret
    exact ⟨0, rfl, ⟨n, rfl⟩, HC.out⟩
set_option maxHeartbeats 1000000 in
theorem rabove0 (k : Int) (a b : Nat) (w : World) (h1 : ¬ k = 1) (h2 : ¬ k = 2) (h3 : ¬ k = 3) : Calls Tryz.prog 96 #[.int .i64 k, .float .f64 a, .float .f64 b] w fun e w' => ∃ r, e = .returned (.float .f64 r) ∧ (∃ n, w' = w.drewN n) ∧ IsC r (lm k a b) := by
  have L : Hid (IsC 0 (lm k a b)) := by
    unfold lm
    rw [if_neg h1, if_neg h2, if_neg h3]
    exact IsC.refl (by decide)
  have g1 : (k == 1) = false := by simp; exact h1
  have g2 : (k == 2) = false := by simp; exact h2
  have g3 : (k == 3) = false := by simp; exact h3
  go_enter Tryz.func96, Tryz.ntmps96
  go_wp2
  go_ret
  exact ⟨0, rfl, ⟨0, rfl⟩, L.out⟩
theorem rabove_at (k : Int) (a b : Nat) (w : World) (ha : ps a = true) (hb : ps b = true) : Calls Tryz.prog 96 #[.int .i64 k, .float .f64 a, .float .f64 b] w fun e w' => ∃ r, e = .returned (.float .f64 r) ∧ (∃ n, w' = w.drewN n) ∧ IsC r (lm k a b) := by
  by_cases h1 : k = 1
  · subst h1; exact rabove1 a b w ha hb
  by_cases h2 : k = 2
  · subst h2; exact rabove2 a b w ha hb
  by_cases h3 : k = 3
  · subst h3; exact rabove3 a b w ha hb
  exact rabove0 k a b w h1 h2 h3
set_option maxHeartbeats 1000000 in
theorem rslope_p (k : Int) (a b : Nat) (w : World) (ga : fgt a 0 = true) (gb : fgt b 0 = true) (PA : Hid (ps a = true)) (PB : Hid (ps b = true)) : Calls Tryz.prog 57 #[.int .i64 k, .float .f64 a, .float .f64 b] w fun e w' => e = .returned (.float .f64 (lm k a b)) ∧ Below w.heap.size w w' := by
  have G := hid (rabove_at k a b w PA.out PB.out)
  go_enter Tryz.func57, Tryz.ntmps57
  go_wp2_with fail
  refine G.out.mono ?_
  rintro e w3 ⟨r, rfl, ⟨n, rfl⟩, hr⟩
  have C := hid (refCanon_any r (w.drewN n))
  have HR := hid hr.2
  clear hr
  go_wp2_with fail
  refine C.out.mono ?_
  rintro e w4 ⟨rfl, rfl⟩
  go_wp2
  go_ret
  exact ⟨ret_flt HR.out, Ab.drewN (Ab.refl _) n⟩
set_option maxHeartbeats 1000000 in
theorem rslope_n (k : Int) (a b p q : Nat) (w : World) (ga : flt a 0 = true) (gb : flt b 0 = true) (ga2 : fgt a 0 = false) (na : Op.negFloat .f64 a = p) (nb : Op.negFloat .f64 b = q) (P : Hid (ps p = true)) (Q : Hid (ps q = true)) : Calls Tryz.prog 57 #[.int .i64 k, .float .f64 a, .float .f64 b] w fun e w' => e = .returned (.float .f64 (op (lm k p q))) ∧ Below w.heap.size w w' := by
  have G := hid (rabove_at k p q w P.out Q.out)
  go_enter Tryz.func57, Tryz.ntmps57
  go_wp2_with fail
  refine G.out.mono ?_
  rintro e w3 ⟨r, rfl, ⟨n, rfl⟩, hr⟩
  have E : canonB (Op.negFloat .f64 r) = op (lm k p q) := by rw [negFloat_eq r hr.1]; exact canon_op2 hr (lm_le k (ps_iff.1 P.out).2 (ps_iff.1 Q.out).2)
  have C := refCanon_any (Op.negFloat .f64 r) (w.drewN n)
  rw [E] at C
  have C := hid C
  clear hr E
  go_wp2_with fail
  refine C.out.mono ?_
  rintro e w4 ⟨rfl, rfl⟩
  go_wp2
  go_ret
  exact ⟨rfl, Ab.drewN (Ab.refl _) n⟩
set_option maxHeartbeats 1000000 in
theorem rslope_z (k : Int) (a b : Nat) (w : World) (pa : (fgt a 0 && fgt b 0) = false) (pb : (flt a 0 && flt b 0) = false) : Calls Tryz.prog 57 #[.int .i64 k, .float .f64 a, .float .f64 b] w fun e w' => e = .returned (.float .f64 0) ∧ Below w.heap.size w w' := by
  cases g1 : fgt a 0 <;> cases g2 : flt a 0 <;> rw [g1] at pa <;> rw [g2] at pb <;> (try rw [Bool.true_and] at pa) <;> (try rw [Bool.true_and] at pb) <;> (
    go_enter Tryz.func57, Tryz.ntmps57
    go_wp2
    go_ret
    exact ⟨rfl, Below.refl _ _⟩)
theorem rslope_at (k : Int) (a b : Nat) (w : World) (ha : a < 18446744073709551616) (hb : b < 18446744073709551616) : Calls Tryz.prog 57 #[.int .i64 k, .float .f64 a, .float .f64 b] w fun e w' => e = .returned (.float .f64 (slp k a b)) ∧ Below w.heap.size w w' := by
  cases pp : (ps a && ps b)
  · cases n : (ns a && ns b)
    · rw [slp_z pp n]
      exact rslope_z k a b w (by rw [fgt_ps ha, fgt_ps hb]; exact pp) (by rw [flt_ns ha, flt_ns hb]; exact n)
    · rw [Bool.and_eq_true] at n
      have a1 := ns_iff.1 n.1
      have b1 := ns_iff.1 n.2
      rw [slp_n n.1 n.2]
      exact rslope_n k a b _ _ w (by rw [flt_ns ha]; exact n.1) (by rw [flt_ns hb]; exact n.2) (by rw [fgt_ps ha]; exact ps_no.2 (by omega)) (by rw [negFloat_eq a ha, neg_ns a1.1]) (by rw [negFloat_eq b hb, neg_ns b1.1]) (ps_iff.2 ⟨by omega, by omega⟩) (ps_iff.2 ⟨by omega, by omega⟩)
  · rw [Bool.and_eq_true] at pp
    rw [slp_p pp.1 pp.2]
    exact rslope_p k a b w (by rw [fgt_ps ha]; exact pp.1) (by rw [fgt_ps hb]; exact pp.2) pp.1 pp.2
set_option maxHeartbeats 1000000 in
theorem rvalid_at (k : Int) (w : World) : Calls Tryz.prog 29 #[.int .i64 k] w fun e w' => e = .returned (.bool (decide (0 ≤ k ∧ k ≤ 3))) ∧ Below w.heap.size w w' := by
  by_cases c : 0 ≤ k
  · have e : decide (0 ≤ k ∧ k ≤ 3) = decide (k ≤ 3) := by simp [c]
    rw [e]
    clear e
    go_enter Tryz.func29, Tryz.ntmps29
    go_wp2
    go_ret
    exact ⟨rfl, Below.refl _ _⟩
  · have e : decide (0 ≤ k ∧ k ≤ 3) = false := decide_eq_false (by omega)
    rw [e]
    clear e
    go_enter Tryz.func29, Tryz.ntmps29
    go_wp2
    go_ret
    exact ⟨rfl, Below.refl _ _⟩
end Go.Proofs.YtfddlnedpfkcaaaGreatDoor

namespace Go.Proofs.YtfddlnedpfkcaaaGreatDoor
open Go.RowKit Tf Cu
attribute [local go_sem] run_bits run_from raw_feq raw_fne raw_flt raw_fgt run_neg run_store_float
set_option maxRecDepth 100000 in
set_option maxHeartbeats 16000000 in
theorem rd12_noedge (gp : Value) (k : Int) (pb pw pt ps : Option Addr) (lb cb lw cw lt ct ls cs : Nat) (sky st : Int) (e : Int) (u : Nat) (w : World)
    (CE : Hid (∀ v, Ab w v → Calls Tryz.prog 53 #[gp, .int .i64 e] v fun e w' => e = .returned (.tuple #[.agg #[.int .i64 0, .int .i64 0, .int .i64 0, .int .i64 0], .bool false]) ∧ Below v.heap.size v w')) :
    Calls Tryz.prog 30 #[gp, .int .i64 k, .agg #[.slice pb lb cb, .slice pw lw cw, .slice pt lt ct, .slice ps ls cs, .int .i64 sky, .int .i64 st], .int .i64 e, .float .f64 u] w fun e w' => e = .returned (.float .f64 0) ∧ Below w.heap.size w w' := by
  have AS : Hid (Ab w (w.alloc (.cells #[.slice pb lb cb, .slice pw lw cw, .slice pt lt ct, .slice ps ls cs, .int .i64 sky, .int .i64 st] 25))) := bl1 _ _
  go_enter Tryz.func30, Tryz.ntmps30
  go_wp2_with fail
  refine (CE.out _ AS.out).mono ?_
  rintro e0 w1 ⟨rfl, b1⟩
  have A1 : Hid (Ab w w1) := AS.out.call b1
  have SR1 : Hid (w1.heap[w.heap.size]? = some (.cells #[.slice pb lb cb, .slice pw lw cw, .slice pt lt ct, .slice ps ls cs, .int .i64 sky, .int .i64 st] 25)) := Ab.heap b1 (heap_alloc_new _ _)
  clear b1 AS
  go_upto_region 2 with fail
  generalize hW : World.alloc w1 _ = W
  obtain ⟨gs, hgs⟩ : ∃ g, w.heap.size = g := ⟨_, rfl⟩
  obtain ⟨ge, hge⟩ : ∃ g, w1.heap.size = g := ⟨_, rfl⟩
  have SR : Hid (W.heap[gs]? = some (.cells #[.slice pb lb cb, .slice pw lw cw, .slice pt lt ct, .slice ps ls cs, .int .i64 sky, .int .i64 st] 25)) := by rw [← hW, ← hgs]; exact Ab.heap (bl1 _ _) SR1.out
  have ER : Hid (W.heap[ge]? = some (.cells #[.int .i64 0, .int .i64 0, .int .i64 0, .int .i64 0] 70)) := by rw [← hW, ← hge]; exact heap_alloc_new _ _
  have AW : Hid (Ab w W) := by rw [← hW]; exact A1.out.alloc _
  rw [hge]
  rw [hgs]
  clear hW hgs hge A1 SR1
  obtain ⟨UU, E, hF1, hF2⟩ := cls W
  have HU := hid hF2
  have HU1 := hid hF1
  have HW : Hid (∀ u, Ab W (E u)) := fun u => hF1 u
  have HX : Hid (∀ u, Ab w (E u)) := fun u => AW.out.trans (HW.out u)
  have xs0 : ∀ u, (E u).cell? ⟨gs, 0, none⟩ = some (.slice pb lb cb) := fun u => cell_of_row _ _ 0 _ _ _ ((HW.out u).heap SR.out)
  have xs1 : ∀ u, (E u).cell? ⟨gs, 1, none⟩ = some (.slice pw lw cw) := fun u => cell_of_row _ _ 1 _ _ _ ((HW.out u).heap SR.out)
  have DD0 := HU.out _ (Ab.refl W).drew
  clear hF1 hF2
  refine region_cls E (by kernel_rfl) (by kernel_rfl) DD0 ?_
  repeat (go_big_quiet_step (first
    | (with_reducible rfl)
  ))
  refine wpQuiet_nil ?_
  intro v1 hwz
  obtain ⟨u0, hu⟩ := hwz
  have AV1 : Hid (Ab W v1) := by rw [hu]; exact HW.out u0
  clear hu u0
  clear HU HU1 HW HX DD0 xs0 xs1
  clear E UU
  go_wp2
  go_ret
  exact ⟨rfl, AW.out.trans AV1.out⟩
set_option maxRecDepth 100000 in
set_option maxHeartbeats 16000000 in
theorem rd12_nolen (gp : Value) (k : Int) (pb pw pt ps : Option Addr) (lb cb lw cw lt ct ls cs : Nat) (sky st : Int) (e : Int) (u : Nat) (w : World)
    (M L S R Q : Nat) (hne : lb ≠ M ∨ lw ≠ M)
    (CE : Hid (∀ v, Ab w v → Calls Tryz.prog 53 #[gp, .int .i64 e] v fun e w' => e = .returned (.tuple #[.agg #[.int .i64 (L : Nat), .int .i64 (S : Nat), .int .i64 (R : Nat), .int .i64 (Q : Nat)], .bool true]) ∧ Below v.heap.size v w'))
    (CC : Hid (∀ v, Ab w v → Calls Tryz.prog 27 #[gp] v fun e w' => e = .returned (.int .i64 (M : Nat)) ∧ Below v.heap.size v w')) :
    Calls Tryz.prog 30 #[gp, .int .i64 k, .agg #[.slice pb lb cb, .slice pw lw cw, .slice pt lt ct, .slice ps ls cs, .int .i64 sky, .int .i64 st], .int .i64 e, .float .f64 u] w fun e w' => e = .returned (.float .f64 0) ∧ Below w.heap.size w w' := by
  have AS : Hid (Ab w (w.alloc (.cells #[.slice pb lb cb, .slice pw lw cw, .slice pt lt ct, .slice ps ls cs, .int .i64 sky, .int .i64 st] 25))) := bl1 _ _
  go_enter Tryz.func30, Tryz.ntmps30
  go_wp2_with fail
  refine (CE.out _ AS.out).mono ?_
  rintro e0 w1 ⟨rfl, b1⟩
  have A1 : Hid (Ab w w1) := AS.out.call b1
  have SR1 : Hid (w1.heap[w.heap.size]? = some (.cells #[.slice pb lb cb, .slice pw lw cw, .slice pt lt ct, .slice ps ls cs, .int .i64 sky, .int .i64 st] 25)) := Ab.heap b1 (heap_alloc_new _ _)
  clear b1 AS
  go_upto_region 2 with fail
  generalize hW : World.alloc w1 _ = W
  obtain ⟨gs, hgs⟩ : ∃ g, w.heap.size = g := ⟨_, rfl⟩
  obtain ⟨ge, hge⟩ : ∃ g, w1.heap.size = g := ⟨_, rfl⟩
  have SR : Hid (W.heap[gs]? = some (.cells #[.slice pb lb cb, .slice pw lw cw, .slice pt lt ct, .slice ps ls cs, .int .i64 sky, .int .i64 st] 25)) := by rw [← hW, ← hgs]; exact Ab.heap (bl1 _ _) SR1.out
  have ER : Hid (W.heap[ge]? = some (.cells #[.int .i64 (L : Nat), .int .i64 (S : Nat), .int .i64 (R : Nat), .int .i64 (Q : Nat)] 70)) := by rw [← hW, ← hge]; exact heap_alloc_new _ _
  have AW : Hid (Ab w W) := by rw [← hW]; exact A1.out.alloc _
  rw [hge]
  rw [hgs]
  clear hW hgs hge A1 SR1
  by_cases c1 : lb = M
  · subst c1
    have c2 : lw ≠ lb := by simpa using hne
    have c3 : ((lw : Int) != (lb : Int)) = true := by rw [bne_iff_ne]; omega
    have c4 : ((lb : Int) != (lb : Int)) = false := by simp
    clear hne
    obtain ⟨UU, E, hF1, hF2⟩ := cls W
    have HU := hid hF2
    have HU1 := hid hF1
    have HW : Hid (∀ u, Ab W (E u)) := fun u => hF1 u
    have HX : Hid (∀ u, Ab w (E u)) := fun u => AW.out.trans (HW.out u)
    have xs0 : ∀ u, (E u).cell? ⟨gs, 0, none⟩ = some (.slice pb lb cb) := fun u => cell_of_row _ _ 0 _ _ _ ((HW.out u).heap SR.out)
    have xs1 : ∀ u, (E u).cell? ⟨gs, 1, none⟩ = some (.slice pw lw cw) := fun u => cell_of_row _ _ 1 _ _ _ ((HW.out u).heap SR.out)
    have DD0 := HU.out _ (Ab.refl W).drew
    clear hF1 hF2
    refine region_cls E (by kernel_rfl) (by kernel_rfl) DD0 ?_
    repeat (go_big_quiet_step (first
      | (with_reducible rfl)
      | (go_at_call 27; exact calls_cls HU HU1 (CC.out _ (HX.out _)))))
    refine wpQuiet_nil ?_
    intro v1 hwz
    obtain ⟨u0, hu⟩ := hwz
    have AV1 : Hid (Ab W v1) := by rw [hu]; exact HW.out u0
    clear hu u0
    clear HU HU1 HW HX DD0 xs0 xs1
    clear E UU
    go_wp2
    go_ret
    exact ⟨rfl, AW.out.trans AV1.out⟩
  · have c3 : ((lb : Int) != (M : Int)) = true := by rw [bne_iff_ne]; omega
    clear hne
    obtain ⟨UU, E, hF1, hF2⟩ := cls W
    have HU := hid hF2
    have HU1 := hid hF1
    have HW : Hid (∀ u, Ab W (E u)) := fun u => hF1 u
    have HX : Hid (∀ u, Ab w (E u)) := fun u => AW.out.trans (HW.out u)
    have xs0 : ∀ u, (E u).cell? ⟨gs, 0, none⟩ = some (.slice pb lb cb) := fun u => cell_of_row _ _ 0 _ _ _ ((HW.out u).heap SR.out)
    have xs1 : ∀ u, (E u).cell? ⟨gs, 1, none⟩ = some (.slice pw lw cw) := fun u => cell_of_row _ _ 1 _ _ _ ((HW.out u).heap SR.out)
    have DD0 := HU.out _ (Ab.refl W).drew
    clear hF1 hF2
    refine region_cls E (by kernel_rfl) (by kernel_rfl) DD0 ?_
    repeat (go_big_quiet_step (first
      | (with_reducible rfl)
      | (go_at_call 27; exact calls_cls HU HU1 (CC.out _ (HX.out _)))))
    refine wpQuiet_nil ?_
    intro v1 hwz
    obtain ⟨u0, hu⟩ := hwz
    have AV1 : Hid (Ab W v1) := by rw [hu]; exact HW.out u0
    clear hu u0
    clear HU HU1 HW HX DD0 xs0 xs1
    clear E UU
    go_wp2
    go_ret
    exact ⟨rfl, AW.out.trans AV1.out⟩
set_option maxRecDepth 100000 in
set_option maxHeartbeats 16000000 in
theorem rd12_still (gp : Value) (k : Int) (bb bo wb wo M cb cw : Nat) (pt ps : Option Addr) (lt ct ls cs : Nat) (sky st : Int) (e : Int) (u : Nat) (w : World)
    (L S R Q p q : Nat) (hu1 : fgt u 0 = false) (hu2 : flt u 0 = false)
    (CE : Hid (∀ v, Ab w v → Calls Tryz.prog 53 #[gp, .int .i64 e] v fun e w' => e = .returned (.tuple #[.agg #[.int .i64 (L : Nat), .int .i64 (S : Nat), .int .i64 (R : Nat), .int .i64 (Q : Nat)], .bool true]) ∧ Below v.heap.size v w'))
    (CC : Hid (∀ v, Ab w v → Calls Tryz.prog 27 #[gp] v fun e w' => e = .returned (.int .i64 (M : Nat)) ∧ Below v.heap.size v w'))
    (CB : Hid (∀ v, Ab w v → Calls Tryz.prog 54 #[gp, .int .i64 e] v fun e w' => e = .returned (.tuple #[.int .i64 (p : Nat), .int .i64 (q : Nat), .bool true]) ∧ Below v.heap.size v w')) :
    Calls Tryz.prog 30 #[gp, .int .i64 k, .agg #[.slice (some ⟨bb, bo, none⟩) M cb, .slice (some ⟨wb, wo, none⟩) M cw, .slice pt lt ct, .slice ps ls cs, .int .i64 sky, .int .i64 st], .int .i64 e, .float .f64 u] w fun e w' => e = .returned (.float .f64 0) ∧ Below w.heap.size w w' := by
  have AS : Hid (Ab w (w.alloc (.cells #[.slice (some ⟨bb, bo, none⟩) M cb, .slice (some ⟨wb, wo, none⟩) M cw, .slice pt lt ct, .slice ps ls cs, .int .i64 sky, .int .i64 st] 25))) := bl1 _ _
  go_enter Tryz.func30, Tryz.ntmps30
  go_wp2_with fail
  refine (CE.out _ AS.out).mono ?_
  rintro e0 w1 ⟨rfl, b1⟩
  have A1 : Hid (Ab w w1) := AS.out.call b1
  have SR1 : Hid (w1.heap[w.heap.size]? = some (.cells #[.slice (some ⟨bb, bo, none⟩) M cb, .slice (some ⟨wb, wo, none⟩) M cw, .slice pt lt ct, .slice ps ls cs, .int .i64 sky, .int .i64 st] 25)) := Ab.heap b1 (heap_alloc_new _ _)
  clear b1 AS
  go_upto_region 2 with fail
  generalize hW : World.alloc w1 _ = W
  obtain ⟨gs, hgs⟩ : ∃ g, w.heap.size = g := ⟨_, rfl⟩
  obtain ⟨ge, hge⟩ : ∃ g, w1.heap.size = g := ⟨_, rfl⟩
  have SR : Hid (W.heap[gs]? = some (.cells #[.slice (some ⟨bb, bo, none⟩) M cb, .slice (some ⟨wb, wo, none⟩) M cw, .slice pt lt ct, .slice ps ls cs, .int .i64 sky, .int .i64 st] 25)) := by rw [← hW, ← hgs]; exact Ab.heap (bl1 _ _) SR1.out
  have ER : Hid (W.heap[ge]? = some (.cells #[.int .i64 (L : Nat), .int .i64 (S : Nat), .int .i64 (R : Nat), .int .i64 (Q : Nat)] 70)) := by rw [← hW, ← hge]; exact heap_alloc_new _ _
  have AW : Hid (Ab w W) := by rw [← hW]; exact A1.out.alloc _
  rw [hge]
  rw [hgs]
  clear hW hgs hge A1 SR1
  obtain ⟨UU, E, hF1, hF2⟩ := cls W
  have HU := hid hF2
  have HU1 := hid hF1
  have HW : Hid (∀ u, Ab W (E u)) := fun u => hF1 u
  have HX : Hid (∀ u, Ab w (E u)) := fun u => AW.out.trans (HW.out u)
  have xs0 : ∀ u, (E u).cell? ⟨gs, 0, none⟩ = some (.slice (some ⟨bb, bo, none⟩) M cb) := fun u => cell_of_row _ _ 0 _ _ _ ((HW.out u).heap SR.out)
  have xs1 : ∀ u, (E u).cell? ⟨gs, 1, none⟩ = some (.slice (some ⟨wb, wo, none⟩) M cw) := fun u => cell_of_row _ _ 1 _ _ _ ((HW.out u).heap SR.out)
  have DD0 := HU.out _ (Ab.refl W).drew
  clear hF1 hF2
  refine region_cls E (by kernel_rfl) (by kernel_rfl) DD0 ?_
  repeat (go_big_quiet_step (first
    | (with_reducible rfl)
    | (go_at_call 27; exact calls_cls HU HU1 (CC.out _ (HX.out _)))))
  refine wpQuiet_nil ?_
  intro v1 hwz
  obtain ⟨u0, hu⟩ := hwz
  have AV1 : Hid (Ab W v1) := by rw [hu]; exact HW.out u0
  clear hu u0
  clear HU HU1 HW HX DD0 xs0 xs1
  clear E UU
  have e0 := cell_of_row _ _ 0 _ _ _ (AV1.out.heap ER.out)
  have e2 := cell_of_row _ _ 2 _ _ _ (AV1.out.heap ER.out)
  go_wp2_with fail
  refine (CB.out _ (AW.out.trans AV1.out)).mono ?_
  rintro e9 w2 ⟨rfl, b2⟩
  clear e0 e2
  have AV2 : Hid (Ab W w2) := AV1.out.call b2
  clear b2
  go_wp2
  go_ret
  exact ⟨rfl, AW.out.trans AV2.out⟩
end Go.Proofs.YtfddlnedpfkcaaaGreatDoor

namespace Go.Proofs.YtfddlnedpfkcaaaGreatDoor
open Go.RowKit Tf Cu
attribute [local go_sem] run_bits run_from raw_feq raw_fne raw_flt raw_fgt run_neg run_store_float
set_option maxRecDepth 100000 in
set_option maxHeartbeats 16000000 in
theorem rd12_pos_some (gp : Value) (k : Int) (bb bo wb wo M cb cw : Nat) (pt ps : Option Addr) (lt ct ls cs : Nat) (sky st : Int) (e : Int) (u : Nat) (w : World)
    (L S R Q p q : Nat) (wU wK wD aU aK aD : Int) (bU bD h hk hd x y s f vv l m r : Nat) (c : Bool)
    (hu1 : fgt u 0 = true) (hu2 : flt u 0 = false)
    (hU : L < M) (hD : R < M) (hK : p < M)
    (CE : Hid (∀ v, Ab w v → Calls Tryz.prog 53 #[gp, .int .i64 e] v fun e w' => e = .returned (.tuple #[.agg #[.int .i64 (L : Nat), .int .i64 (S : Nat), .int .i64 (R : Nat), .int .i64 (Q : Nat)], .bool true]) ∧ Below v.heap.size v w'))
    (CC : Hid (∀ v, Ab w v → Calls Tryz.prog 27 #[gp] v fun e w' => e = .returned (.int .i64 (M : Nat)) ∧ Below v.heap.size v w'))
    (CB : Hid (∀ v, Ab w v → Calls Tryz.prog 54 #[gp, .int .i64 e] v fun e w' => e = .returned (.tuple #[.int .i64 (p : Nat), .int .i64 (q : Nat), .bool true]) ∧ Below v.heap.size v w'))
    (AU : Hid (∀ v, Ab w v → Calls Tryz.prog 56 #[gp, .int .i64 (L : Nat)] v fun e w' => e = .returned (.int .i64 aU) ∧ Below v.heap.size v w'))
    (AK : Hid (∀ v, Ab w v → Calls Tryz.prog 56 #[gp, .int .i64 (p : Nat)] v fun e w' => e = .returned (.int .i64 aK) ∧ Below v.heap.size v w'))
    (AD : Hid (∀ v, Ab w v → Calls Tryz.prog 56 #[gp, .int .i64 (R : Nat)] v fun e w' => e = .returned (.int .i64 aD) ∧ Below v.heap.size v w'))
    (DU : Hid (∀ v : World, Calls Tryz.prog 55 #[.int .i64 wU, .int .i64 aU] v fun e w' => e = .returned (.float .f64 h) ∧ Below v.heap.size v w'))
    (DK : Hid (∀ v : World, Calls Tryz.prog 55 #[.int .i64 wK, .int .i64 aK] v fun e w' => e = .returned (.float .f64 hk) ∧ Below v.heap.size v w'))
    (DD : Hid (∀ v : World, Calls Tryz.prog 55 #[.int .i64 wD, .int .i64 aD] v fun e w' => e = .returned (.float .f64 hd) ∧ Below v.heap.size v w'))
    (CS : Hid (∀ v : World, Calls Tryz.prog 57 #[.int .i64 k, .float .f64 x, .float .f64 y] v fun e w' => e = .returned (.float .f64 s) ∧ Below v.heap.size v w'))
    (CL : Hid (∀ v : World, Calls Tryz.prog 58 #[.float .f64 bU, .int .i64 wU, .int .i64 aU] v fun e w' => e = .returned (.float .f64 l) ∧ Below v.heap.size v w'))
    (CM : Hid (∀ v : World, Calls Tryz.prog 59 #[.float .f64 bU, .float .f64 bD] v fun e w' => e = .returned (.float .f64 m) ∧ Below v.heap.size v w'))
    (FW : Hid (∀ v, Ab w v → v.cell? ⟨wb, wo + L, none⟩ = some (.int .i64 wU) ∧ v.cell? ⟨wb, wo + p, none⟩ = some (.int .i64 wK) ∧ v.cell? ⟨wb, wo + R, none⟩ = some (.int .i64 wD) ∧ v.cell? ⟨bb, bo + L, none⟩ = some (.float .f64 bU) ∧ v.cell? ⟨bb, bo + R, none⟩ = some (.float .f64 bD)))
    (hx : ∀ (t : TypeId) (w : World), (binOp .sub t (.float .f64 h) (.float .f64 hk)).run Tryz.prog w = .ok (.float .f64 x) w)
    (hy : ∀ (t : TypeId) (w : World), (binOp .sub t (.float .f64 hd) (.float .f64 h)).run Tryz.prog w = .ok (.float .f64 y) w)
    (hm : ∀ (t : TypeId) (w : World), (binOp .mul t (.float .f64 4602678819172646912) (.float .f64 s)).run Tryz.prog w = .ok (.float .f64 f) w)
    (hv : ∀ (t : TypeId) (w : World), (binOp .add t (.float .f64 h) (.float .f64 f)).run Tryz.prog w = .ok (.float .f64 vv) w)
    (g : Nat)
    (hg : ∀ (t : TypeId) (w : World), (binOp .sub t (.float .f64 l) (.float .f64 m)).run Tryz.prog w = .ok (.float .f64 g) w)
    (CN : Hid (∀ v : World, Calls Tryz.prog 60 #[.float .f64 vv, .float .f64 g] v fun e w' => e = .returned (.float .f64 r) ∧ Below v.heap.size v w'))
    (hr : fgt r 0 = c) :
    Calls Tryz.prog 30 #[gp, .int .i64 k, .agg #[.slice (some ⟨bb, bo, none⟩) M cb, .slice (some ⟨wb, wo, none⟩) M cw, .slice pt lt ct, .slice ps ls cs, .int .i64 sky, .int .i64 st], .int .i64 e, .float .f64 u] w fun e w' => e = .returned (.float .f64 (if c = true then r else 0)) ∧ Below w.heap.size w w' := by
  have AS : Hid (Ab w (w.alloc (.cells #[.slice (some ⟨bb, bo, none⟩) M cb, .slice (some ⟨wb, wo, none⟩) M cw, .slice pt lt ct, .slice ps ls cs, .int .i64 sky, .int .i64 st] 25))) := bl1 _ _
  go_enter Tryz.func30, Tryz.ntmps30
  go_wp2_with fail
  refine (CE.out _ AS.out).mono ?_
  rintro e0 w1 ⟨rfl, b1⟩
  have A1 : Hid (Ab w w1) := AS.out.call b1
  have SR1 : Hid (w1.heap[w.heap.size]? = some (.cells #[.slice (some ⟨bb, bo, none⟩) M cb, .slice (some ⟨wb, wo, none⟩) M cw, .slice pt lt ct, .slice ps ls cs, .int .i64 sky, .int .i64 st] 25)) := Ab.heap b1 (heap_alloc_new _ _)
  clear b1 AS
  go_upto_region 2 with fail
  generalize hW : World.alloc w1 _ = W
  obtain ⟨gs, hgs⟩ : ∃ g, w.heap.size = g := ⟨_, rfl⟩
  obtain ⟨ge, hge⟩ : ∃ g, w1.heap.size = g := ⟨_, rfl⟩
  have SR : Hid (W.heap[gs]? = some (.cells #[.slice (some ⟨bb, bo, none⟩) M cb, .slice (some ⟨wb, wo, none⟩) M cw, .slice pt lt ct, .slice ps ls cs, .int .i64 sky, .int .i64 st] 25)) := by rw [← hW, ← hgs]; exact Ab.heap (bl1 _ _) SR1.out
  have ER : Hid (W.heap[ge]? = some (.cells #[.int .i64 (L : Nat), .int .i64 (S : Nat), .int .i64 (R : Nat), .int .i64 (Q : Nat)] 70)) := by rw [← hW, ← hge]; exact heap_alloc_new _ _
  have AW : Hid (Ab w W) := by rw [← hW]; exact A1.out.alloc _
  rw [hge]
  rw [hgs]
  clear hW hgs hge A1 SR1
  have hU' : ((L : Nat) : Int) < M := by omega
  have hD' : ((R : Nat) : Int) < M := by omega
  have hK' : ((p : Nat) : Int) < M := by omega
  obtain ⟨UU, E, hF1, hF2⟩ := cls W
  have HU := hid hF2
  have HU1 := hid hF1
  have HW : Hid (∀ u, Ab W (E u)) := fun u => hF1 u
  have HX : Hid (∀ u, Ab w (E u)) := fun u => AW.out.trans (HW.out u)
  have xs0 : ∀ u, (E u).cell? ⟨gs, 0, none⟩ = some (.slice (some ⟨bb, bo, none⟩) M cb) := fun u => cell_of_row _ _ 0 _ _ _ ((HW.out u).heap SR.out)
  have xs1 : ∀ u, (E u).cell? ⟨gs, 1, none⟩ = some (.slice (some ⟨wb, wo, none⟩) M cw) := fun u => cell_of_row _ _ 1 _ _ _ ((HW.out u).heap SR.out)
  have DD0 := HU.out _ (Ab.refl W).drew
  clear hF1 hF2
  refine region_cls E (by kernel_rfl) (by kernel_rfl) DD0 ?_
  repeat (go_big_quiet_step (first
    | (with_reducible rfl)
    | (go_at_call 27; exact calls_cls HU HU1 (CC.out _ (HX.out _)))))
  refine wpQuiet_nil ?_
  intro v1 hwz
  obtain ⟨u0, hu⟩ := hwz
  have AV1 : Hid (Ab W v1) := by rw [hu]; exact HW.out u0
  clear hu u0
  clear HU HU1 HW HX DD0 xs0 xs1
  clear E UU
  have e0 := cell_of_row _ _ 0 _ _ _ (AV1.out.heap ER.out)
  have e2 := cell_of_row _ _ 2 _ _ _ (AV1.out.heap ER.out)
  go_wp2_with fail
  refine (CB.out _ (AW.out.trans AV1.out)).mono ?_
  rintro e9 w2 ⟨rfl, b2⟩
  clear e0 e2
  have AV2 : Hid (Ab W w2) := AV1.out.call b2
  clear b2
  have e0 := cell_of_row _ _ 0 _ _ _ (AV2.out.heap ER.out)
  have e2 := cell_of_row _ _ 2 _ _ _ (AV2.out.heap ER.out)
  go_upto_region 13 with fail
  obtain ⟨UU, E, hF1, hF2⟩ := cls w2
  have HU := hid hF2
  have HU1 := hid hF1
  have HW : Hid (∀ u, Ab W (E u)) := fun u => AV2.out.trans (hF1 u)
  have HX : Hid (∀ u, Ab w (E u)) := fun u => AW.out.trans (HW.out u)
  have xs1 : ∀ u, (E u).cell? ⟨gs, 1, none⟩ = some (.slice (some ⟨wb, wo, none⟩) M cw) := fun u => cell_of_row _ _ 1 _ _ _ ((HW.out u).heap SR.out)
  have xw : ∀ u, (E u).cell? ⟨wb, wo + L, none⟩ = some (.int .i64 wU) := fun u => (FW.out _ (HX.out u)).1
  have DD0 := HU.out _ (Ab.refl w2).drew
  clear hF1 hF2
  refine region_cls E (by kernel_rfl) (by kernel_rfl) DD0 ?_
  repeat (go_big_quiet_step (first
    | (with_reducible rfl)
    | (go_at_call 56; exact calls_cls HU HU1 (AU.out _ (HX.out _)))
    | (go_at_call 55; exact calls_cls HU HU1 (DU.out _))))
  refine wpQuiet_nil ?_
  intro v3 hwz
  obtain ⟨u0, hu⟩ := hwz
  have AV3 : Hid (Ab W v3) := by rw [hu]; exact HW.out u0
  clear hu u0
  clear HU HU1 HW HX DD0 xs1 xw
  clear E UU
  clear e0 e2
  go_upto_region 14 with fail
  obtain ⟨UU, E, hF1, hF2⟩ := cls v3
  have HU := hid hF2
  have HU1 := hid hF1
  have HW : Hid (∀ u, Ab W (E u)) := fun u => AV3.out.trans (hF1 u)
  have HX : Hid (∀ u, Ab w (E u)) := fun u => AW.out.trans (HW.out u)
  have xs1 : ∀ u, (E u).cell? ⟨gs, 1, none⟩ = some (.slice (some ⟨wb, wo, none⟩) M cw) := fun u => cell_of_row _ _ 1 _ _ _ ((HW.out u).heap SR.out)
  have xw : ∀ u, (E u).cell? ⟨wb, wo + p, none⟩ = some (.int .i64 wK) := fun u => (FW.out _ (HX.out u)).2.1
  have DD0 := HU.out _ (Ab.refl v3).drew
  clear hF1 hF2
  refine region_cls E (by kernel_rfl) (by kernel_rfl) DD0 ?_
  repeat (go_big_quiet_step (first
    | (with_reducible rfl)
    | (go_at_call 56; exact calls_cls HU HU1 (AK.out _ (HX.out _)))
    | (go_at_call 55; exact calls_cls HU HU1 (DK.out _))))
  refine wpQuiet_nil ?_
  intro v4 hwz
  obtain ⟨u0, hu⟩ := hwz
  have AV4 : Hid (Ab W v4) := by rw [hu]; exact HW.out u0
  clear hu u0
  clear HU HU1 HW HX DD0 xs1 xw
  clear E UU
  go_upto_region 15 with fail
  obtain ⟨UU, E, hF1, hF2⟩ := cls v4
  have HU := hid hF2
  have HU1 := hid hF1
  have HW : Hid (∀ u, Ab W (E u)) := fun u => AV4.out.trans (hF1 u)
  have HX : Hid (∀ u, Ab w (E u)) := fun u => AW.out.trans (HW.out u)
  have xs1 : ∀ u, (E u).cell? ⟨gs, 1, none⟩ = some (.slice (some ⟨wb, wo, none⟩) M cw) := fun u => cell_of_row _ _ 1 _ _ _ ((HW.out u).heap SR.out)
  have xw : ∀ u, (E u).cell? ⟨wb, wo + R, none⟩ = some (.int .i64 wD) := fun u => (FW.out _ (HX.out u)).2.2.1
  have DD0 := HU.out _ (Ab.refl v4).drew
  clear hF1 hF2
  refine region_cls E (by kernel_rfl) (by kernel_rfl) DD0 ?_
  repeat (go_big_quiet_step (first
    | (with_reducible rfl)
    | (go_at_call 56; exact calls_cls HU HU1 (AD.out _ (HX.out _)))
    | (go_at_call 55; exact calls_cls HU HU1 (DD.out _))))
  refine wpQuiet_nil ?_
  intro v5 hwz
  obtain ⟨u0, hu⟩ := hwz
  have AV5 : Hid (Ab W v5) := by rw [hu]; exact HW.out u0
  clear hu u0
  clear HU HU1 HW HX DD0 xs1 xw
  clear E UU
  go_wp2_with fail
  refine (CS.out _).mono ?_
  rintro e9 w3 ⟨rfl, b3⟩
  have AV6 : Hid (Ab W w3) := AV5.out.call b3
  clear b3
  go_upto_region 18 with fail
  obtain ⟨UU, E, hF1, hF2⟩ := cls w3
  have HU := hid hF2
  have HU1 := hid hF1
  have HW : Hid (∀ u, Ab W (E u)) := fun u => AV6.out.trans (hF1 u)
  have HX : Hid (∀ u, Ab w (E u)) := fun u => AW.out.trans (HW.out u)
  have xs0 : ∀ u, (E u).cell? ⟨gs, 0, none⟩ = some (.slice (some ⟨bb, bo, none⟩) M cb) := fun u => cell_of_row _ _ 0 _ _ _ ((HW.out u).heap SR.out)
  have xs1 : ∀ u, (E u).cell? ⟨gs, 1, none⟩ = some (.slice (some ⟨wb, wo, none⟩) M cw) := fun u => cell_of_row _ _ 1 _ _ _ ((HW.out u).heap SR.out)
  have xw : ∀ u, (E u).cell? ⟨wb, wo + L, none⟩ = some (.int .i64 wU) := fun u => (FW.out _ (HX.out u)).1
  have xb1 : ∀ u, (E u).cell? ⟨bb, bo + L, none⟩ = some (.float .f64 bU) := fun u => (FW.out _ (HX.out u)).2.2.2.1
  have xb2 : ∀ u, (E u).cell? ⟨bb, bo + R, none⟩ = some (.float .f64 bD) := fun u => (FW.out _ (HX.out u)).2.2.2.2
  have DD0 := HU.out _ (Ab.refl w3).drew
  clear hF1 hF2
  refine region_cls E (by kernel_rfl) (by kernel_rfl) DD0 ?_
  repeat (go_big_quiet_step (first
    | (with_reducible rfl)
    | (go_at_call 56; exact calls_cls HU HU1 (AU.out _ (HX.out _)))
    | (go_at_call 58; exact calls_cls HU HU1 (CL.out _))
    | (go_at_call 59; exact calls_cls HU HU1 (CM.out _))))
  refine wpQuiet_nil ?_
  intro v7 hwz
  obtain ⟨u0, hu⟩ := hwz
  have AV7 : Hid (Ab W v7) := by rw [hu]; exact HW.out u0
  clear hu u0
  clear HU HU1 HW HX DD0 xs0 xs1 xw xb1 xb2
  clear E UU
  go_wp2_with fail
  refine (CN.out _).mono ?_
  rintro e9 w4 ⟨rfl, b4⟩
  have AZ : Hid (Ab w w4) := ((AW.out.trans AV7.out)).call b4
  clear b4
  cases c
  · go_wp2
    go_ret
    exact ⟨rfl, AZ.out⟩
  · go_wp2
    go_ret
    exact ⟨rfl, AZ.out⟩
end Go.Proofs.YtfddlnedpfkcaaaGreatDoor

namespace Go.Proofs.YtfddlnedpfkcaaaGreatDoor
open Go.RowKit Tf Cu
attribute [local go_sem] run_bits run_from raw_feq raw_fne raw_flt raw_fgt run_neg run_store_float
set_option maxRecDepth 100000 in
set_option maxHeartbeats 16000000 in
theorem rd12_pos_none (gp : Value) (k : Int) (bb bo wb wo M cb cw : Nat) (pt ps : Option Addr) (lt ct ls cs : Nat) (sky st : Int) (e : Int) (u : Nat) (w : World)
    (L S R Q p q : Nat) (wU wK wD aU aK aD : Int) (bU bD h hk hd x y s f vv l m r : Nat) (c : Bool)
    (hu1 : fgt u 0 = true) (hu2 : flt u 0 = false)
    (hU : L < M) (hD : R < M) (hK : p < M)
    (CE : Hid (∀ v, Ab w v → Calls Tryz.prog 53 #[gp, .int .i64 e] v fun e w' => e = .returned (.tuple #[.agg #[.int .i64 (L : Nat), .int .i64 (S : Nat), .int .i64 (R : Nat), .int .i64 (Q : Nat)], .bool true]) ∧ Below v.heap.size v w'))
    (CC : Hid (∀ v, Ab w v → Calls Tryz.prog 27 #[gp] v fun e w' => e = .returned (.int .i64 (M : Nat)) ∧ Below v.heap.size v w'))
    (CB : Hid (∀ v, Ab w v → Calls Tryz.prog 54 #[gp, .int .i64 e] v fun e w' => e = .returned (.tuple #[.int .i64 (p : Nat), .int .i64 (q : Nat), .bool true]) ∧ Below v.heap.size v w'))
    (AU : Hid (∀ v, Ab w v → Calls Tryz.prog 56 #[gp, .int .i64 (L : Nat)] v fun e w' => e = .returned (.int .i64 aU) ∧ Below v.heap.size v w'))
    (AK : Hid (∀ v, Ab w v → Calls Tryz.prog 56 #[gp, .int .i64 (p : Nat)] v fun e w' => e = .returned (.int .i64 aK) ∧ Below v.heap.size v w'))
    (AD : Hid (∀ v, Ab w v → Calls Tryz.prog 56 #[gp, .int .i64 (R : Nat)] v fun e w' => e = .returned (.int .i64 aD) ∧ Below v.heap.size v w'))
    (DU : Hid (∀ v : World, Calls Tryz.prog 55 #[.int .i64 wU, .int .i64 aU] v fun e w' => e = .returned (.float .f64 h) ∧ Below v.heap.size v w'))
    (DK : Hid (∀ v : World, Calls Tryz.prog 55 #[.int .i64 wK, .int .i64 aK] v fun e w' => e = .returned (.float .f64 hk) ∧ Below v.heap.size v w'))
    (DD : Hid (∀ v : World, Calls Tryz.prog 55 #[.int .i64 wD, .int .i64 aD] v fun e w' => e = .returned (.float .f64 hd) ∧ Below v.heap.size v w'))
    (CS : Hid (∀ v : World, Calls Tryz.prog 57 #[.int .i64 k, .float .f64 x, .float .f64 y] v fun e w' => e = .returned (.float .f64 s) ∧ Below v.heap.size v w'))
    (CL : Hid (∀ v : World, Calls Tryz.prog 58 #[.float .f64 bU, .int .i64 wU, .int .i64 aU] v fun e w' => e = .returned (.float .f64 l) ∧ Below v.heap.size v w'))
    (CM : Hid (∀ v : World, Calls Tryz.prog 59 #[.float .f64 bU, .float .f64 bD] v fun e w' => e = .returned (.float .f64 m) ∧ Below v.heap.size v w'))
    (FW : Hid (∀ v, Ab w v → v.cell? ⟨wb, wo + L, none⟩ = some (.int .i64 wU) ∧ v.cell? ⟨wb, wo + p, none⟩ = some (.int .i64 wK) ∧ v.cell? ⟨wb, wo + R, none⟩ = some (.int .i64 wD) ∧ v.cell? ⟨bb, bo + L, none⟩ = some (.float .f64 bU) ∧ v.cell? ⟨bb, bo + R, none⟩ = some (.float .f64 bD)))
    (hx : ∀ (t : TypeId) (w : World), (binOp .sub t (.float .f64 h) (.float .f64 hk)).run Tryz.prog w = .ok (.float .f64 x) w)
    (hy : ∀ (t : TypeId) (w : World), (binOp .sub t (.float .f64 hd) (.float .f64 h)).run Tryz.prog w = .ok (.float .f64 y) w)
    (hm : ∀ (t : TypeId) (w : World), (binOp .mul t (.float .f64 4602678819172646912) (.float .f64 s)).run Tryz.prog w = .ok (.float .f64 f) w)
    (hv : ∀ (t : TypeId) (w : World), (binOp .add t (.float .f64 h) (.float .f64 f)).run Tryz.prog w = .ok (.float .f64 vv) w)
    (hg : ∀ (t : TypeId) (w : World), (binOp .sub t (.float .f64 l) (.float .f64 m)).run Tryz.prog w = .ok (.float .f64 (nanOf w l m)) (w.drewN 1))
    (CN : Hid (∀ (w0 v : World), Calls Tryz.prog 60 #[.float .f64 vv, .float .f64 (nanOf w0 l m)] v fun e w' => e = .returned (.float .f64 r) ∧ Below v.heap.size v w'))
    (hr : fgt r 0 = c) :
    Calls Tryz.prog 30 #[gp, .int .i64 k, .agg #[.slice (some ⟨bb, bo, none⟩) M cb, .slice (some ⟨wb, wo, none⟩) M cw, .slice pt lt ct, .slice ps ls cs, .int .i64 sky, .int .i64 st], .int .i64 e, .float .f64 u] w fun e w' => e = .returned (.float .f64 (if c = true then r else 0)) ∧ Below w.heap.size w w' := by
  have AS : Hid (Ab w (w.alloc (.cells #[.slice (some ⟨bb, bo, none⟩) M cb, .slice (some ⟨wb, wo, none⟩) M cw, .slice pt lt ct, .slice ps ls cs, .int .i64 sky, .int .i64 st] 25))) := bl1 _ _
  go_enter Tryz.func30, Tryz.ntmps30
  go_wp2_with fail
  refine (CE.out _ AS.out).mono ?_
  rintro e0 w1 ⟨rfl, b1⟩
  have A1 : Hid (Ab w w1) := AS.out.call b1
  have SR1 : Hid (w1.heap[w.heap.size]? = some (.cells #[.slice (some ⟨bb, bo, none⟩) M cb, .slice (some ⟨wb, wo, none⟩) M cw, .slice pt lt ct, .slice ps ls cs, .int .i64 sky, .int .i64 st] 25)) := Ab.heap b1 (heap_alloc_new _ _)
  clear b1 AS
  go_upto_region 2 with fail
  generalize hW : World.alloc w1 _ = W
  obtain ⟨gs, hgs⟩ : ∃ g, w.heap.size = g := ⟨_, rfl⟩
  obtain ⟨ge, hge⟩ : ∃ g, w1.heap.size = g := ⟨_, rfl⟩
  have SR : Hid (W.heap[gs]? = some (.cells #[.slice (some ⟨bb, bo, none⟩) M cb, .slice (some ⟨wb, wo, none⟩) M cw, .slice pt lt ct, .slice ps ls cs, .int .i64 sky, .int .i64 st] 25)) := by rw [← hW, ← hgs]; exact Ab.heap (bl1 _ _) SR1.out
  have ER : Hid (W.heap[ge]? = some (.cells #[.int .i64 (L : Nat), .int .i64 (S : Nat), .int .i64 (R : Nat), .int .i64 (Q : Nat)] 70)) := by rw [← hW, ← hge]; exact heap_alloc_new _ _
  have AW : Hid (Ab w W) := by rw [← hW]; exact A1.out.alloc _
  rw [hge]
  rw [hgs]
  clear hW hgs hge A1 SR1
  have hU' : ((L : Nat) : Int) < M := by omega
  have hD' : ((R : Nat) : Int) < M := by omega
  have hK' : ((p : Nat) : Int) < M := by omega
  obtain ⟨UU, E, hF1, hF2⟩ := cls W
  have HU := hid hF2
  have HU1 := hid hF1
  have HW : Hid (∀ u, Ab W (E u)) := fun u => hF1 u
  have HX : Hid (∀ u, Ab w (E u)) := fun u => AW.out.trans (HW.out u)
  have xs0 : ∀ u, (E u).cell? ⟨gs, 0, none⟩ = some (.slice (some ⟨bb, bo, none⟩) M cb) := fun u => cell_of_row _ _ 0 _ _ _ ((HW.out u).heap SR.out)
  have xs1 : ∀ u, (E u).cell? ⟨gs, 1, none⟩ = some (.slice (some ⟨wb, wo, none⟩) M cw) := fun u => cell_of_row _ _ 1 _ _ _ ((HW.out u).heap SR.out)
  have DD0 := HU.out _ (Ab.refl W).drew
  clear hF1 hF2
  refine region_cls E (by kernel_rfl) (by kernel_rfl) DD0 ?_
  repeat (go_big_quiet_step (first
    | (with_reducible rfl)
    | (go_at_call 27; exact calls_cls HU HU1 (CC.out _ (HX.out _)))))
  refine wpQuiet_nil ?_
  intro v1 hwz
  obtain ⟨u0, hu⟩ := hwz
  have AV1 : Hid (Ab W v1) := by rw [hu]; exact HW.out u0
  clear hu u0
  clear HU HU1 HW HX DD0 xs0 xs1
  clear E UU
  have e0 := cell_of_row _ _ 0 _ _ _ (AV1.out.heap ER.out)
  have e2 := cell_of_row _ _ 2 _ _ _ (AV1.out.heap ER.out)
  go_wp2_with fail
  refine (CB.out _ (AW.out.trans AV1.out)).mono ?_
  rintro e9 w2 ⟨rfl, b2⟩
  clear e0 e2
  have AV2 : Hid (Ab W w2) := AV1.out.call b2
  clear b2
  have e0 := cell_of_row _ _ 0 _ _ _ (AV2.out.heap ER.out)
  have e2 := cell_of_row _ _ 2 _ _ _ (AV2.out.heap ER.out)
  go_upto_region 13 with fail
  obtain ⟨UU, E, hF1, hF2⟩ := cls w2
  have HU := hid hF2
  have HU1 := hid hF1
  have HW : Hid (∀ u, Ab W (E u)) := fun u => AV2.out.trans (hF1 u)
  have HX : Hid (∀ u, Ab w (E u)) := fun u => AW.out.trans (HW.out u)
  have xs1 : ∀ u, (E u).cell? ⟨gs, 1, none⟩ = some (.slice (some ⟨wb, wo, none⟩) M cw) := fun u => cell_of_row _ _ 1 _ _ _ ((HW.out u).heap SR.out)
  have xw : ∀ u, (E u).cell? ⟨wb, wo + L, none⟩ = some (.int .i64 wU) := fun u => (FW.out _ (HX.out u)).1
  have DD0 := HU.out _ (Ab.refl w2).drew
  clear hF1 hF2
  refine region_cls E (by kernel_rfl) (by kernel_rfl) DD0 ?_
  repeat (go_big_quiet_step (first
    | (with_reducible rfl)
    | (go_at_call 56; exact calls_cls HU HU1 (AU.out _ (HX.out _)))
    | (go_at_call 55; exact calls_cls HU HU1 (DU.out _))))
  refine wpQuiet_nil ?_
  intro v3 hwz
  obtain ⟨u0, hu⟩ := hwz
  have AV3 : Hid (Ab W v3) := by rw [hu]; exact HW.out u0
  clear hu u0
  clear HU HU1 HW HX DD0 xs1 xw
  clear E UU
  clear e0 e2
  go_upto_region 14 with fail
  obtain ⟨UU, E, hF1, hF2⟩ := cls v3
  have HU := hid hF2
  have HU1 := hid hF1
  have HW : Hid (∀ u, Ab W (E u)) := fun u => AV3.out.trans (hF1 u)
  have HX : Hid (∀ u, Ab w (E u)) := fun u => AW.out.trans (HW.out u)
  have xs1 : ∀ u, (E u).cell? ⟨gs, 1, none⟩ = some (.slice (some ⟨wb, wo, none⟩) M cw) := fun u => cell_of_row _ _ 1 _ _ _ ((HW.out u).heap SR.out)
  have xw : ∀ u, (E u).cell? ⟨wb, wo + p, none⟩ = some (.int .i64 wK) := fun u => (FW.out _ (HX.out u)).2.1
  have DD0 := HU.out _ (Ab.refl v3).drew
  clear hF1 hF2
  refine region_cls E (by kernel_rfl) (by kernel_rfl) DD0 ?_
  repeat (go_big_quiet_step (first
    | (with_reducible rfl)
    | (go_at_call 56; exact calls_cls HU HU1 (AK.out _ (HX.out _)))
    | (go_at_call 55; exact calls_cls HU HU1 (DK.out _))))
  refine wpQuiet_nil ?_
  intro v4 hwz
  obtain ⟨u0, hu⟩ := hwz
  have AV4 : Hid (Ab W v4) := by rw [hu]; exact HW.out u0
  clear hu u0
  clear HU HU1 HW HX DD0 xs1 xw
  clear E UU
  go_upto_region 15 with fail
  obtain ⟨UU, E, hF1, hF2⟩ := cls v4
  have HU := hid hF2
  have HU1 := hid hF1
  have HW : Hid (∀ u, Ab W (E u)) := fun u => AV4.out.trans (hF1 u)
  have HX : Hid (∀ u, Ab w (E u)) := fun u => AW.out.trans (HW.out u)
  have xs1 : ∀ u, (E u).cell? ⟨gs, 1, none⟩ = some (.slice (some ⟨wb, wo, none⟩) M cw) := fun u => cell_of_row _ _ 1 _ _ _ ((HW.out u).heap SR.out)
  have xw : ∀ u, (E u).cell? ⟨wb, wo + R, none⟩ = some (.int .i64 wD) := fun u => (FW.out _ (HX.out u)).2.2.1
  have DD0 := HU.out _ (Ab.refl v4).drew
  clear hF1 hF2
  refine region_cls E (by kernel_rfl) (by kernel_rfl) DD0 ?_
  repeat (go_big_quiet_step (first
    | (with_reducible rfl)
    | (go_at_call 56; exact calls_cls HU HU1 (AD.out _ (HX.out _)))
    | (go_at_call 55; exact calls_cls HU HU1 (DD.out _))))
  refine wpQuiet_nil ?_
  intro v5 hwz
  obtain ⟨u0, hu⟩ := hwz
  have AV5 : Hid (Ab W v5) := by rw [hu]; exact HW.out u0
  clear hu u0
  clear HU HU1 HW HX DD0 xs1 xw
  clear E UU
  go_wp2_with fail
  refine (CS.out _).mono ?_
  rintro e9 w3 ⟨rfl, b3⟩
  have AV6 : Hid (Ab W w3) := AV5.out.call b3
  clear b3
  go_upto_region 18 with fail
  obtain ⟨UU, E, hF1, hF2⟩ := cls w3
  have HU := hid hF2
  have HU1 := hid hF1
  have HW : Hid (∀ u, Ab W (E u)) := fun u => AV6.out.trans (hF1 u)
  have HX : Hid (∀ u, Ab w (E u)) := fun u => AW.out.trans (HW.out u)
  have xs0 : ∀ u, (E u).cell? ⟨gs, 0, none⟩ = some (.slice (some ⟨bb, bo, none⟩) M cb) := fun u => cell_of_row _ _ 0 _ _ _ ((HW.out u).heap SR.out)
  have xs1 : ∀ u, (E u).cell? ⟨gs, 1, none⟩ = some (.slice (some ⟨wb, wo, none⟩) M cw) := fun u => cell_of_row _ _ 1 _ _ _ ((HW.out u).heap SR.out)
  have xw : ∀ u, (E u).cell? ⟨wb, wo + L, none⟩ = some (.int .i64 wU) := fun u => (FW.out _ (HX.out u)).1
  have xb1 : ∀ u, (E u).cell? ⟨bb, bo + L, none⟩ = some (.float .f64 bU) := fun u => (FW.out _ (HX.out u)).2.2.2.1
  have xb2 : ∀ u, (E u).cell? ⟨bb, bo + R, none⟩ = some (.float .f64 bD) := fun u => (FW.out _ (HX.out u)).2.2.2.2
  have DD0 := HU.out _ (Ab.refl w3).drew
  clear hF1 hF2
  refine region_tail 25 E (by kernel_rfl) (by kernel_rfl) (by kernel_rfl) DD0 ?_
  simp only [List.take_succ_cons, List.take_zero, List.drop_succ_cons, List.drop_zero]
  repeat (go_big_quiet_step (first
    | (with_reducible rfl)
    | (go_at_call 56; exact calls_cls HU HU1 (AU.out _ (HX.out _)))
    | (go_at_call 58; exact calls_cls HU HU1 (CL.out _))
    | (go_at_call 59; exact calls_cls HU HU1 (CM.out _))))
  refine wpQuiet_nil ?_
  intro v7 hwz
  obtain ⟨u0, hu⟩ := hwz
  have AV7 : Hid (Ab W v7) := by rw [hu]; exact HW.out u0
  clear hu u0
  clear HU HU1 HW HX DD0 xs0 xs1 xw xb1 xb2
  clear E UU
  go_wp2_with fail
  refine (CN.out _ _).mono ?_
  rintro e9 w4 ⟨rfl, b4⟩
  have AZ : Hid (Ab w w4) := (Ab.drewN (AW.out.trans AV7.out) 1).call b4
  clear b4
  cases c
  · go_wp2
    go_ret
    exact ⟨rfl, AZ.out⟩
  · go_wp2
    go_ret
    exact ⟨rfl, AZ.out⟩
end Go.Proofs.YtfddlnedpfkcaaaGreatDoor
