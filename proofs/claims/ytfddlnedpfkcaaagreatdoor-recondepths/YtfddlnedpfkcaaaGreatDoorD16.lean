/-
  Some of the texts of this proof, one behind the other.
-/
import Derived.Deep.OwnRows
import Derived.Test.YtfddlnedpfkcaaaGreatDoorD15
namespace Go.Proofs.YtfddlnedpfkcaaaGreatDoor
open Go.RowKit Tf
attribute [local go_sem] run_bits run_from raw_feq raw_fne raw_flt raw_fgt run_neg
theorem run_min_f {P : Program} (w : World) (ts : Array TypeId) (t : TypeId) {a b : Nat} (ha : a ≤ 9218868437227405312) (hb : b ≤ 9218868437227405312) :
    (Builtin.min_ ts t #[.float .f64 a, .float .f64 b]).run P w = .ok (.float .f64 (min a b)) w := by
  have h : FloatKind.f64.format.order a b = _ := order_pp ha hb
  by_cases c : a < b
  · rw [if_pos c] at h
    simp [Builtin.min_, Builtin.min2, h]
    omega
  · rw [if_neg c] at h
    by_cases d : b < a
    · rw [if_pos d] at h
      simp [Builtin.min_, Builtin.min2, h]
      omega
    · rw [if_neg d] at h
      have e : a = b := by omega
      subst e
      simp [Builtin.min_, Builtin.min2, h]
theorem run_max_f {P : Program} (w : World) (ts : Array TypeId) (t : TypeId) {a b : Nat} (ha : a ≤ 9218868437227405312) (hb : b ≤ 9218868437227405312) :
    (Builtin.max_ ts t #[.float .f64 a, .float .f64 b]).run P w = .ok (.float .f64 (max a b)) w := by
  have h : FloatKind.f64.format.order a b = _ := order_pp ha hb
  by_cases c : a < b
  · rw [if_pos c] at h
    simp [Builtin.max_, Builtin.max2, h]
    omega
  · rw [if_neg c] at h
    by_cases d : b < a
    · rw [if_pos d] at h
      simp [Builtin.max_, Builtin.max2, h]
      omega
    · rw [if_neg d] at h
      have e : a = b := by omega
      subst e
      simp [Builtin.max_, Builtin.max2, h]
theorem plain_at (a b : Nat) (w : World) : Calls Tryz.prog 71 #[.float .f64 a, .float .f64 b] w fun e w' => e = .returned (.float .f64 0) ∧ w' = w := by
  go_enter Tryz.func71, Tryz.ntmps71
  go_wp2
  go_ret
  exact ⟨rfl, rfl⟩
theorem minmod_at (a b : Nat) (w : World) (ha : a ≤ 9218868437227405312) (hb : b ≤ 9218868437227405312) : Calls Tryz.prog 72 #[.float .f64 a, .float .f64 b] w fun e w' => e = .returned (.float .f64 (min a b)) ∧ w' = w := by
  have h : ∀ ts t, (Builtin.min_ ts t #[.float .f64 a, .float .f64 b]).run Tryz.prog w = .ok (.float .f64 (min a b)) w := fun ts t => run_min_f w ts t ha hb
  generalize e : min a b = m at h ⊢
  clear e ha hb
  go_enter Tryz.func72, Tryz.ntmps72
  go_wp2
  go_ret
  exact ⟨rfl, rfl⟩
set_option maxHeartbeats 1000000 in
theorem superbee_at (a b : Nat) (w : World) (ha : ps a = true) (hb : ps b = true) : Calls Tryz.prog 73 #[.float .f64 a, .float .f64 b] w fun e w' => e = .returned (.float .f64 (sbee a b)) ∧ w' = w := by
  obtain ⟨a0, a1⟩ := ps_iff.1 ha
  obtain ⟨b0, b1⟩ := ps_iff.1 hb
  have fa := (d2_facts a1).1
  have fb := (d2_facts b1).1
  have h1 : ∀ t, (binOp .mul t (.float .f64 4611686018427387904) (.float .f64 a)).run Tryz.prog w = .ok (.float .f64 (mlB 4611686018427387904 a)) w := fun t => run_float_arith w .mul t .f64 _ _ _ (mul_pp (by decide) a1 (by decide) a0)
  have h2 : ∀ t, (binOp .mul t (.float .f64 4611686018427387904) (.float .f64 b)).run Tryz.prog w = .ok (.float .f64 (mlB 4611686018427387904 b)) w := fun t => run_float_arith w .mul t .f64 _ _ _ (mul_pp (by decide) b1 (by decide) b0)
  have h3 : ∀ ts t, (Builtin.min_ ts t #[.float .f64 (mlB 4611686018427387904 a), .float .f64 b]).run Tryz.prog w = .ok (.float .f64 (min (mlB 4611686018427387904 a) b)) w := fun ts t => run_min_f w ts t fa b1
  have h4 : ∀ ts t, (Builtin.min_ ts t #[.float .f64 a, .float .f64 (mlB 4611686018427387904 b)]).run Tryz.prog w = .ok (.float .f64 (min a (mlB 4611686018427387904 b))) w := fun ts t => run_min_f w ts t a1 fb
  have h5 : ∀ ts t, (Builtin.max_ ts t #[.float .f64 (min (mlB 4611686018427387904 a) b), .float .f64 (min a (mlB 4611686018427387904 b))]).run Tryz.prog w = .ok (.float .f64 (sbee a b)) w := fun ts t => run_max_f w ts t (by omega) (by omega)
  generalize mlB 4611686018427387904 a = p at *
  generalize mlB 4611686018427387904 b = q at *
  generalize min p b = u at *
  generalize min a q = v at *
  generalize sbee a b = s at *
  clear a0 a1 b0 b1 fa fb ha hb
  go_enter Tryz.func73, Tryz.ntmps73
  go_wp2
  go_ret
  exact ⟨rfl, rfl⟩
set_option maxHeartbeats 1000000 in
theorem leer_at (a b : Nat) (w : World) (ha : ps a = true) (hb : ps b = true) : Calls Tryz.prog 74 #[.float .f64 a, .float .f64 b] w fun e w' => ∃ r, e = .returned (.float .f64 r) ∧ (∃ n, w' = w.drewN n) ∧ IsC r (lr a b) := by
  obtain ⟨a0, a1⟩ := ps_iff.1 ha
  obtain ⟨b0, b1⟩ := ps_iff.1 hb
  have fa := d2_facts a1
  have L := leer_nn a1 b1 a0 b0
  have h1 : ∀ t, (binOp .mul t (.float .f64 4611686018427387904) (.float .f64 a)).run Tryz.prog w = .ok (.float .f64 (mlB 4611686018427387904 a)) w := fun t => run_float_arith w .mul t .f64 _ _ _ (mul_pp (by decide) a1 (by decide) a0)
  have h2 : ∀ t, (binOp .mul t (.float .f64 (mlB 4611686018427387904 a)) (.float .f64 b)).run Tryz.prog w = .ok (.float .f64 (mlB (mlB 4611686018427387904 a) b)) w := fun t => run_float_arith w .mul t .f64 _ _ _ (mul_pp fa.1 b1 (by omega) b0)
  have h3 : ∀ t, (binOp .add t (.float .f64 a) (.float .f64 b)).run Tryz.prog w = .ok (.float .f64 (plB a b)) w := fun t => run_float_arith w .add t .f64 _ _ _ (add_pp a1 b1)
  obtain ⟨r, n, h4, hc⟩ := div_any (P := Tryz.prog) w (mlB (mlB 4611686018427387904 a) b) (plB a b)
  have hc : IsC r (leer a b) := hc
  obtain ⟨k1, k2⟩ := lr_le_of hc L
  have HL := lr_le a b
  by_cases c : leer a b < 9218868437227405312
  · have e : lr a b = leer a b := by unfold lr; rw [if_pos c]
    rw [decide_eq_true c] at k1
    have HC : Hid (IsC r (lr a b)) := by rw [e]; exact hc
    generalize mlB (mlB 4611686018427387904 a) b = q at *
    generalize mlB 4611686018427387904 a = p at *
    generalize plB a b = s at *
    clear e k2 c L fa a0 a1 b0 b1 ha hb HL
    clear hc
    go_enter Tryz.func74, Tryz.ntmps74
    go_wp2
    go_ret
    exact ⟨r, rfl, ⟨n, rfl⟩, HC.out⟩
  · have e : lr a b = 0 := by unfold lr; rw [if_neg c]
    rw [decide_eq_false c] at k1
    have HC : Hid (IsC 0 (lr a b)) := by rw [e]; exact ⟨by decide, by decide⟩
    generalize mlB (mlB 4611686018427387904 a) b = q at *
    generalize mlB 4611686018427387904 a = p at *
    generalize plB a b = s at *
    clear e k2 c L fa a0 a1 b0 b1 ha hb HL
    clear hc
    go_enter Tryz.func74, Tryz.ntmps74
    go_wp2
    go_ret
    exact ⟨0, rfl, ⟨n, rfl⟩, HC.out⟩
theorem run_store_func {P : Program} {w : World} {a : Addr} {m : Mode} (f : Fn) (x y : Array Value) : (store a (.func f x y) m).run P w = stored P w a (.func f x y) m := run_store P w a _ m rfl
attribute [local go_sem] run_store_func
set_option maxHeartbeats 1000000 in
theorem limiters_at (w : World) : Calls Tryz.prog 39 #[] w fun e w' => e = .returned (.agg #[.func (.func 71) #[] #[], .func (.func 72) #[] #[], .func (.func 73) #[] #[], .func (.func 74) #[] #[]]) ∧ Below w.heap.size w w' := by
  go_enter Tryz.func39, Tryz.ntmps39
  go_wp2
  refine bodyPost_ret ?_ rfl ⟨rfl, ?_⟩
  · exact results_cell_row Tryz.results39 _ _ w.heap.size _ _ (0, 0) _ rfl (heap_alloc_new w _) Tryz.underlying81 rfl (by kernel_rfl)
  · exact bl1 w _
set_option maxHeartbeats 1000000 in
theorem valid_at (k : Int) (w : World) : Calls Tryz.prog 15 #[.int .i64 k] w fun e w' => e = .returned (.bool (decide (0 ≤ k ∧ k ≤ 3))) ∧ Below w.heap.size w w' := by
  have L := hid (limiters_at w)
  by_cases c : 0 ≤ k
  · have e : decide (0 ≤ k ∧ k ≤ 3) = decide (k < 4) := by by_cases d : k < 4 <;> simp [d] <;> omega
    rw [e]
    clear e
    go_enter Tryz.func15, Tryz.ntmps15
    go_wp2_with fail
    refine L.out.mono ?_
    rintro e w1 ⟨rfl, b1⟩
    go_wp2
    go_ret
    exact ⟨rfl, b1⟩
  · have e : decide (0 ≤ k ∧ k ≤ 3) = false := decide_eq_false (by omega)
    rw [e]
    clear e
    go_enter Tryz.func15, Tryz.ntmps15
    go_wp2
    go_ret
    exact ⟨rfl, Below.refl _ _⟩
end Go.Proofs.YtfddlnedpfkcaaaGreatDoor

namespace Go.Proofs.YtfddlnedpfkcaaaGreatDoor
open Go.RowKit Tf
attribute [local go_sem] run_bits run_from raw_feq raw_fne raw_flt raw_fgt run_neg
theorem canon_op2 {r x : Nat} (h : IsC r x) (hx : x ≤ 9218868437227405312) : canonB (negB r) = op x := by
  obtain ⟨h1, h2⟩ := h
  by_cases z : mg r = 0
  · have n : isN r = false := isN_false.2 (by omega)
    have e : x = 0 := by rw [← h2]; unfold canonB; rw [n, z]; rfl
    subst e
    have m : mg (negB r) = 0 := by rw [mg_negB]; exact z
    have n2 : isN (negB r) = false := isN_false.2 (by omega)
    unfold canonB
    rw [n2, m]
    rfl
  · have e : r = x := by
      unfold canonB at h2
      rw [if_neg z] at h2
      split at h2
      · rw [← h2] at hx; unfold quiet at hx; omega
      · exact h2
    subst e
    exact canon_op hx
theorem IsC.refl {x : Nat} (h : x ≤ 9218868437227405312) : IsC x x := ⟨by omega, canon_nn h⟩
/-- what a limiter says of two that are above nothing -/
def Lim (f : Nat) (k : Int) : Prop := ∀ a b w, ps a = true → ps b = true → Calls Tryz.prog f #[.float .f64 a, .float .f64 b] w fun e w' => ∃ r, e = .returned (.float .f64 r) ∧ (∃ n, w' = w.drewN n) ∧ IsC r (lm k a b)
theorem lim0 : Lim 71 0 := by
  intro a b w ha hb
  refine (plain_at a b w).mono ?_
  rintro e w' ⟨rfl, rfl⟩
  exact ⟨0, rfl, ⟨0, rfl⟩, IsC.refl (by decide)⟩
theorem lim1 : Lim 72 1 := by
  intro a b w ha hb
  have a1 := ps_iff.1 ha
  have b1 := ps_iff.1 hb
  refine (minmod_at a b w a1.2 b1.2).mono ?_
  rintro e w' ⟨rfl, rfl⟩
  exact ⟨_, rfl, ⟨0, rfl⟩, IsC.refl (lm_le 1 a1.2 b1.2)⟩
theorem lim2 : Lim 73 2 := by
  intro a b w ha hb
  have a1 := ps_iff.1 ha
  have b1 := ps_iff.1 hb
  refine (superbee_at a b w ha hb).mono ?_
  rintro e w' ⟨rfl, rfl⟩
  exact ⟨_, rfl, ⟨0, rfl⟩, IsC.refl (lm_le 2 a1.2 b1.2)⟩
theorem lim3 : Lim 74 3 := by
  intro a b w ha hb
  refine (leer_at a b w ha hb).mono ?_
  rintro e w' ⟨r, rfl, n, h⟩
  exact ⟨r, rfl, n, h⟩
set_option maxHeartbeats 2000000 in
theorem slope_p0 (a b : Nat) (w : World) (ha : a < 18446744073709551616) (hb : b < 18446744073709551616) (pa : ps a = true) (pb : ps b = true) : Calls Tryz.prog 68 #[.int .i64 0, .float .f64 a, .float .f64 b] w fun e w' => e = .returned (.float .f64 (lm 0 a b)) ∧ Below w.heap.size w w' := by
  have V := hid (valid_at 0 w)
  have L := hid limiters_at
  have IX : ∀ w : World, (Instr.index 81 (.agg #[.func (.func 71) #[] #[], .func (.func 72) #[] #[], .func (.func 73) #[] #[], .func (.func 74) #[] #[]]) (.int .i64 0)).run Tryz.prog w = .ok (.func (.func 71) #[] #[]) w := fun _ => by kernel_rfl
  have G := hid lim0
  have ga : fgt a 0 = true := by rw [fgt_ps ha]; exact pa
  have gb : fgt b 0 = true := by rw [fgt_ps hb]; exact pb
  have PA := hid pa
  have PB := hid pb
  clear pa pb ha hb
  go_enter Tryz.func68, Tryz.ntmps68
  go_wp2_with fail
  refine V.out.mono ?_
  rintro e w1 ⟨rfl, b1⟩
  have B1 := hid b1
  clear b1
  go_wp2_with fail
  refine (L.out _).mono ?_
  rintro e w2 ⟨rfl, b2⟩
  have B2 := hid b2
  clear b2
  go_wp2_with fail
  refine (G.out a b _ PA.out PB.out).mono ?_
  rintro e w3 ⟨r, rfl, ⟨n, rfl⟩, hr⟩
  have C := hid (canon_any r (w2.drewN n) hr.1)
  have HR := hid hr.2
  clear hr
  go_wp2_with fail
  refine C.out.mono ?_
  rintro e w4 ⟨rfl, rfl⟩
  go_wp2
  go_ret
  exact ⟨ret_flt HR.out, Ab.drewN (Ab.trans B1.out B2.out) n⟩
set_option maxHeartbeats 2000000 in
theorem slope_m0 (a b p q : Nat) (w : World) (ga : flt a 0 = true) (gb : flt b 0 = true) (ga2 : fgt a 0 = false) (na : Op.negFloat .f64 a = p) (nb : Op.negFloat .f64 b = q) (P : Hid (ps p = true)) (Q : Hid (ps q = true)) : Calls Tryz.prog 68 #[.int .i64 0, .float .f64 a, .float .f64 b] w fun e w' => e = .returned (.float .f64 (op (lm 0 p q))) ∧ Below w.heap.size w w' := by
  have V := hid (valid_at 0 w)
  have L := hid limiters_at
  have IX : ∀ w : World, (Instr.index 81 (.agg #[.func (.func 71) #[] #[], .func (.func 72) #[] #[], .func (.func 73) #[] #[], .func (.func 74) #[] #[]]) (.int .i64 0)).run Tryz.prog w = .ok (.func (.func 71) #[] #[]) w := fun _ => by kernel_rfl
  have G := hid lim0
  go_enter Tryz.func68, Tryz.ntmps68
  go_wp2_with fail
  refine V.out.mono ?_
  rintro e w1 ⟨rfl, b1⟩
  have B1 := hid b1
  clear b1
  go_wp2_with fail
  refine (L.out _).mono ?_
  rintro e w2 ⟨rfl, b2⟩
  have B2 := hid b2
  clear b2
  go_wp2_with fail
  refine (G.out p q _ P.out Q.out).mono ?_
  rintro e w3 ⟨r, rfl, ⟨n, rfl⟩, hr⟩
  have E : canonB (Op.negFloat .f64 r) = op (lm 0 p q) := by rw [negFloat_eq r hr.1]; exact canon_op2 hr (lm_le 0 (ps_iff.1 P.out).2 (ps_iff.1 Q.out).2)
  have C := canon_any (Op.negFloat .f64 r) (w2.drewN n) (by rw [negFloat_eq r hr.1]; exact negB_lt hr.1)
  rw [E] at C
  have C := hid C
  clear hr E
  go_wp2_with fail
  refine C.out.mono ?_
  rintro e w4 ⟨rfl, rfl⟩
  go_wp2
  go_ret
  exact ⟨rfl, Ab.drewN (Ab.trans B1.out B2.out) n⟩
theorem slope_n0 (a b : Nat) (w : World) (ha : a < 18446744073709551616) (hb : b < 18446744073709551616) (pa : ns a = true) (pb : ns b = true) : Calls Tryz.prog 68 #[.int .i64 0, .float .f64 a, .float .f64 b] w fun e w' => e = .returned (.float .f64 (op (lm 0 (a - 9223372036854775808) (b - 9223372036854775808)))) ∧ Below w.heap.size w w' := by
  have a1 := ns_iff.1 pa
  have b1 := ns_iff.1 pb
  exact slope_m0 a b _ _ w (by rw [flt_ns ha]; exact pa) (by rw [flt_ns hb]; exact pb) (by rw [fgt_ps ha]; exact ps_no.2 (by omega)) (by rw [negFloat_eq a ha, neg_ns a1.1]) (by rw [negFloat_eq b hb, neg_ns b1.1]) (ps_iff.2 ⟨by omega, by omega⟩) (ps_iff.2 ⟨by omega, by omega⟩)
set_option maxHeartbeats 2000000 in
theorem slope_z0 (a b : Nat) (w : World) (ha : a < 18446744073709551616) (hb : b < 18446744073709551616) (pa : (ps a && ps b) = false) (pb : (ns a && ns b) = false) : Calls Tryz.prog 68 #[.int .i64 0, .float .f64 a, .float .f64 b] w fun e w' => e = .returned (.float .f64 0) ∧ Below w.heap.size w w' := by
  have V := hid (valid_at 0 w)
  have L := hid limiters_at
  have IX : ∀ w : World, (Instr.index 81 (.agg #[.func (.func 71) #[] #[], .func (.func 72) #[] #[], .func (.func 73) #[] #[], .func (.func 74) #[] #[]]) (.int .i64 0)).run Tryz.prog w = .ok (.func (.func 71) #[] #[]) w := fun _ => by kernel_rfl
  rw [← fgt_ps ha, ← fgt_ps hb] at pa
  rw [← flt_ns ha, ← flt_ns hb] at pb
  clear ha hb
  cases g1 : fgt a 0 <;> cases g2 : flt a 0 <;> rw [g1] at pa <;> rw [g2] at pb <;> (try rw [Bool.true_and] at pa) <;> (try rw [Bool.true_and] at pb) <;> (
    go_enter Tryz.func68, Tryz.ntmps68
    go_wp2_with fail
    refine V.out.mono ?_
    rintro e w1 ⟨rfl, b1⟩
    have B1 := hid b1
    clear b1
    go_wp2_with fail
    refine (L.out _).mono ?_
    rintro e w2 ⟨rfl, b2⟩
    have B2 := hid b2
    clear b2
    go_wp2
    go_ret
    exact ⟨rfl, Ab.trans B1.out B2.out⟩)
set_option maxHeartbeats 2000000 in
theorem slope_p1 (a b : Nat) (w : World) (ha : a < 18446744073709551616) (hb : b < 18446744073709551616) (pa : ps a = true) (pb : ps b = true) : Calls Tryz.prog 68 #[.int .i64 1, .float .f64 a, .float .f64 b] w fun e w' => e = .returned (.float .f64 (lm 1 a b)) ∧ Below w.heap.size w w' := by
  have V := hid (valid_at 1 w)
  have L := hid limiters_at
  have IX : ∀ w : World, (Instr.index 81 (.agg #[.func (.func 71) #[] #[], .func (.func 72) #[] #[], .func (.func 73) #[] #[], .func (.func 74) #[] #[]]) (.int .i64 1)).run Tryz.prog w = .ok (.func (.func 72) #[] #[]) w := fun _ => by kernel_rfl
  have G := hid lim1
  have ga : fgt a 0 = true := by rw [fgt_ps ha]; exact pa
  have gb : fgt b 0 = true := by rw [fgt_ps hb]; exact pb
  have PA := hid pa
  have PB := hid pb
  clear pa pb ha hb
  go_enter Tryz.func68, Tryz.ntmps68
  go_wp2_with fail
  refine V.out.mono ?_
  rintro e w1 ⟨rfl, b1⟩
  have B1 := hid b1
  clear b1
  go_wp2_with fail
  refine (L.out _).mono ?_
  rintro e w2 ⟨rfl, b2⟩
  have B2 := hid b2
  clear b2
  go_wp2_with fail
  refine (G.out a b _ PA.out PB.out).mono ?_
  rintro e w3 ⟨r, rfl, ⟨n, rfl⟩, hr⟩
  have C := hid (canon_any r (w2.drewN n) hr.1)
  have HR := hid hr.2
  clear hr
  go_wp2_with fail
  refine C.out.mono ?_
  rintro e w4 ⟨rfl, rfl⟩
  go_wp2
  go_ret
  exact ⟨ret_flt HR.out, Ab.drewN (Ab.trans B1.out B2.out) n⟩
set_option maxHeartbeats 2000000 in
theorem slope_m1 (a b p q : Nat) (w : World) (ga : flt a 0 = true) (gb : flt b 0 = true) (ga2 : fgt a 0 = false) (na : Op.negFloat .f64 a = p) (nb : Op.negFloat .f64 b = q) (P : Hid (ps p = true)) (Q : Hid (ps q = true)) : Calls Tryz.prog 68 #[.int .i64 1, .float .f64 a, .float .f64 b] w fun e w' => e = .returned (.float .f64 (op (lm 1 p q))) ∧ Below w.heap.size w w' := by
  have V := hid (valid_at 1 w)
  have L := hid limiters_at
  have IX : ∀ w : World, (Instr.index 81 (.agg #[.func (.func 71) #[] #[], .func (.func 72) #[] #[], .func (.func 73) #[] #[], .func (.func 74) #[] #[]]) (.int .i64 1)).run Tryz.prog w = .ok (.func (.func 72) #[] #[]) w := fun _ => by kernel_rfl
  have G := hid lim1
  go_enter Tryz.func68, Tryz.ntmps68
  go_wp2_with fail
  refine V.out.mono ?_
  rintro e w1 ⟨rfl, b1⟩
  have B1 := hid b1
  clear b1
  go_wp2_with fail
  refine (L.out _).mono ?_
  rintro e w2 ⟨rfl, b2⟩
  have B2 := hid b2
  clear b2
  go_wp2_with fail
  refine (G.out p q _ P.out Q.out).mono ?_
  rintro e w3 ⟨r, rfl, ⟨n, rfl⟩, hr⟩
  have E : canonB (Op.negFloat .f64 r) = op (lm 1 p q) := by rw [negFloat_eq r hr.1]; exact canon_op2 hr (lm_le 1 (ps_iff.1 P.out).2 (ps_iff.1 Q.out).2)
  have C := canon_any (Op.negFloat .f64 r) (w2.drewN n) (by rw [negFloat_eq r hr.1]; exact negB_lt hr.1)
  rw [E] at C
  have C := hid C
  clear hr E
  go_wp2_with fail
  refine C.out.mono ?_
  rintro e w4 ⟨rfl, rfl⟩
  go_wp2
  go_ret
  exact ⟨rfl, Ab.drewN (Ab.trans B1.out B2.out) n⟩
theorem slope_n1 (a b : Nat) (w : World) (ha : a < 18446744073709551616) (hb : b < 18446744073709551616) (pa : ns a = true) (pb : ns b = true) : Calls Tryz.prog 68 #[.int .i64 1, .float .f64 a, .float .f64 b] w fun e w' => e = .returned (.float .f64 (op (lm 1 (a - 9223372036854775808) (b - 9223372036854775808)))) ∧ Below w.heap.size w w' := by
  have a1 := ns_iff.1 pa
  have b1 := ns_iff.1 pb
  exact slope_m1 a b _ _ w (by rw [flt_ns ha]; exact pa) (by rw [flt_ns hb]; exact pb) (by rw [fgt_ps ha]; exact ps_no.2 (by omega)) (by rw [negFloat_eq a ha, neg_ns a1.1]) (by rw [negFloat_eq b hb, neg_ns b1.1]) (ps_iff.2 ⟨by omega, by omega⟩) (ps_iff.2 ⟨by omega, by omega⟩)
set_option maxHeartbeats 2000000 in
theorem slope_z1 (a b : Nat) (w : World) (ha : a < 18446744073709551616) (hb : b < 18446744073709551616) (pa : (ps a && ps b) = false) (pb : (ns a && ns b) = false) : Calls Tryz.prog 68 #[.int .i64 1, .float .f64 a, .float .f64 b] w fun e w' => e = .returned (.float .f64 0) ∧ Below w.heap.size w w' := by
  have V := hid (valid_at 1 w)
  have L := hid limiters_at
  have IX : ∀ w : World, (Instr.index 81 (.agg #[.func (.func 71) #[] #[], .func (.func 72) #[] #[], .func (.func 73) #[] #[], .func (.func 74) #[] #[]]) (.int .i64 1)).run Tryz.prog w = .ok (.func (.func 72) #[] #[]) w := fun _ => by kernel_rfl
  rw [← fgt_ps ha, ← fgt_ps hb] at pa
  rw [← flt_ns ha, ← flt_ns hb] at pb
  clear ha hb
  cases g1 : fgt a 0 <;> cases g2 : flt a 0 <;> rw [g1] at pa <;> rw [g2] at pb <;> (try rw [Bool.true_and] at pa) <;> (try rw [Bool.true_and] at pb) <;> (
    go_enter Tryz.func68, Tryz.ntmps68
    go_wp2_with fail
    refine V.out.mono ?_
    rintro e w1 ⟨rfl, b1⟩
    have B1 := hid b1
    clear b1
    go_wp2_with fail
    refine (L.out _).mono ?_
    rintro e w2 ⟨rfl, b2⟩
    have B2 := hid b2
    clear b2
    go_wp2
    go_ret
    exact ⟨rfl, Ab.trans B1.out B2.out⟩)
set_option maxHeartbeats 2000000 in
theorem slope_p2 (a b : Nat) (w : World) (ha : a < 18446744073709551616) (hb : b < 18446744073709551616) (pa : ps a = true) (pb : ps b = true) : Calls Tryz.prog 68 #[.int .i64 2, .float .f64 a, .float .f64 b] w fun e w' => e = .returned (.float .f64 (lm 2 a b)) ∧ Below w.heap.size w w' := by
  have V := hid (valid_at 2 w)
  have L := hid limiters_at
  have IX : ∀ w : World, (Instr.index 81 (.agg #[.func (.func 71) #[] #[], .func (.func 72) #[] #[], .func (.func 73) #[] #[], .func (.func 74) #[] #[]]) (.int .i64 2)).run Tryz.prog w = .ok (.func (.func 73) #[] #[]) w := fun _ => by kernel_rfl
  have G := hid lim2
  have ga : fgt a 0 = true := by rw [fgt_ps ha]; exact pa
  have gb : fgt b 0 = true := by rw [fgt_ps hb]; exact pb
  have PA := hid pa
  have PB := hid pb
  clear pa pb ha hb
  go_enter Tryz.func68, Tryz.ntmps68
  go_wp2_with fail
  refine V.out.mono ?_
  rintro e w1 ⟨rfl, b1⟩
  have B1 := hid b1
  clear b1
  go_wp2_with fail
  refine (L.out _).mono ?_
  rintro e w2 ⟨rfl, b2⟩
  have B2 := hid b2
  clear b2
  go_wp2_with fail
  refine (G.out a b _ PA.out PB.out).mono ?_
  rintro e w3 ⟨r, rfl, ⟨n, rfl⟩, hr⟩
  have C := hid (canon_any r (w2.drewN n) hr.1)
  have HR := hid hr.2
  clear hr
  go_wp2_with fail
  refine C.out.mono ?_
  rintro e w4 ⟨rfl, rfl⟩
  go_wp2
  go_ret
  exact ⟨ret_flt HR.out, Ab.drewN (Ab.trans B1.out B2.out) n⟩
set_option maxHeartbeats 2000000 in
theorem slope_m2 (a b p q : Nat) (w : World) (ga : flt a 0 = true) (gb : flt b 0 = true) (ga2 : fgt a 0 = false) (na : Op.negFloat .f64 a = p) (nb : Op.negFloat .f64 b = q) (P : Hid (ps p = true)) (Q : Hid (ps q = true)) : Calls Tryz.prog 68 #[.int .i64 2, .float .f64 a, .float .f64 b] w fun e w' => e = .returned (.float .f64 (op (lm 2 p q))) ∧ Below w.heap.size w w' := by
  have V := hid (valid_at 2 w)
  have L := hid limiters_at
  have IX : ∀ w : World, (Instr.index 81 (.agg #[.func (.func 71) #[] #[], .func (.func 72) #[] #[], .func (.func 73) #[] #[], .func (.func 74) #[] #[]]) (.int .i64 2)).run Tryz.prog w = .ok (.func (.func 73) #[] #[]) w := fun _ => by kernel_rfl
  have G := hid lim2
  go_enter Tryz.func68, Tryz.ntmps68
  go_wp2_with fail
  refine V.out.mono ?_
  rintro e w1 ⟨rfl, b1⟩
  have B1 := hid b1
  clear b1
  go_wp2_with fail
  refine (L.out _).mono ?_
  rintro e w2 ⟨rfl, b2⟩
  have B2 := hid b2
  clear b2
  go_wp2_with fail
  refine (G.out p q _ P.out Q.out).mono ?_
  rintro e w3 ⟨r, rfl, ⟨n, rfl⟩, hr⟩
  have E : canonB (Op.negFloat .f64 r) = op (lm 2 p q) := by rw [negFloat_eq r hr.1]; exact canon_op2 hr (lm_le 2 (ps_iff.1 P.out).2 (ps_iff.1 Q.out).2)
  have C := canon_any (Op.negFloat .f64 r) (w2.drewN n) (by rw [negFloat_eq r hr.1]; exact negB_lt hr.1)
  rw [E] at C
  have C := hid C
  clear hr E
  go_wp2_with fail
  refine C.out.mono ?_
  rintro e w4 ⟨rfl, rfl⟩
  go_wp2
  go_ret
  exact ⟨rfl, Ab.drewN (Ab.trans B1.out B2.out) n⟩
theorem slope_n2 (a b : Nat) (w : World) (ha : a < 18446744073709551616) (hb : b < 18446744073709551616) (pa : ns a = true) (pb : ns b = true) : Calls Tryz.prog 68 #[.int .i64 2, .float .f64 a, .float .f64 b] w fun e w' => e = .returned (.float .f64 (op (lm 2 (a - 9223372036854775808) (b - 9223372036854775808)))) ∧ Below w.heap.size w w' := by
  have a1 := ns_iff.1 pa
  have b1 := ns_iff.1 pb
  exact slope_m2 a b _ _ w (by rw [flt_ns ha]; exact pa) (by rw [flt_ns hb]; exact pb) (by rw [fgt_ps ha]; exact ps_no.2 (by omega)) (by rw [negFloat_eq a ha, neg_ns a1.1]) (by rw [negFloat_eq b hb, neg_ns b1.1]) (ps_iff.2 ⟨by omega, by omega⟩) (ps_iff.2 ⟨by omega, by omega⟩)
set_option maxHeartbeats 2000000 in
theorem slope_z2 (a b : Nat) (w : World) (ha : a < 18446744073709551616) (hb : b < 18446744073709551616) (pa : (ps a && ps b) = false) (pb : (ns a && ns b) = false) : Calls Tryz.prog 68 #[.int .i64 2, .float .f64 a, .float .f64 b] w fun e w' => e = .returned (.float .f64 0) ∧ Below w.heap.size w w' := by
  have V := hid (valid_at 2 w)
  have L := hid limiters_at
  have IX : ∀ w : World, (Instr.index 81 (.agg #[.func (.func 71) #[] #[], .func (.func 72) #[] #[], .func (.func 73) #[] #[], .func (.func 74) #[] #[]]) (.int .i64 2)).run Tryz.prog w = .ok (.func (.func 73) #[] #[]) w := fun _ => by kernel_rfl
  rw [← fgt_ps ha, ← fgt_ps hb] at pa
  rw [← flt_ns ha, ← flt_ns hb] at pb
  clear ha hb
  cases g1 : fgt a 0 <;> cases g2 : flt a 0 <;> rw [g1] at pa <;> rw [g2] at pb <;> (try rw [Bool.true_and] at pa) <;> (try rw [Bool.true_and] at pb) <;> (
    go_enter Tryz.func68, Tryz.ntmps68
    go_wp2_with fail
    refine V.out.mono ?_
    rintro e w1 ⟨rfl, b1⟩
    have B1 := hid b1
    clear b1
    go_wp2_with fail
    refine (L.out _).mono ?_
    rintro e w2 ⟨rfl, b2⟩
    have B2 := hid b2
    clear b2
    go_wp2
    go_ret
    exact ⟨rfl, Ab.trans B1.out B2.out⟩)
set_option maxHeartbeats 2000000 in
theorem slope_p3 (a b : Nat) (w : World) (ha : a < 18446744073709551616) (hb : b < 18446744073709551616) (pa : ps a = true) (pb : ps b = true) : Calls Tryz.prog 68 #[.int .i64 3, .float .f64 a, .float .f64 b] w fun e w' => e = .returned (.float .f64 (lm 3 a b)) ∧ Below w.heap.size w w' := by
  have V := hid (valid_at 3 w)
  have L := hid limiters_at
  have IX : ∀ w : World, (Instr.index 81 (.agg #[.func (.func 71) #[] #[], .func (.func 72) #[] #[], .func (.func 73) #[] #[], .func (.func 74) #[] #[]]) (.int .i64 3)).run Tryz.prog w = .ok (.func (.func 74) #[] #[]) w := fun _ => by kernel_rfl
  have G := hid lim3
  have ga : fgt a 0 = true := by rw [fgt_ps ha]; exact pa
  have gb : fgt b 0 = true := by rw [fgt_ps hb]; exact pb
  have PA := hid pa
  have PB := hid pb
  clear pa pb ha hb
  go_enter Tryz.func68, Tryz.ntmps68
  go_wp2_with fail
  refine V.out.mono ?_
  rintro e w1 ⟨rfl, b1⟩
  have B1 := hid b1
  clear b1
  go_wp2_with fail
  refine (L.out _).mono ?_
  rintro e w2 ⟨rfl, b2⟩
  have B2 := hid b2
  clear b2
  go_wp2_with fail
  refine (G.out a b _ PA.out PB.out).mono ?_
  rintro e w3 ⟨r, rfl, ⟨n, rfl⟩, hr⟩
  have C := hid (canon_any r (w2.drewN n) hr.1)
  have HR := hid hr.2
  clear hr
  go_wp2_with fail
  refine C.out.mono ?_
  rintro e w4 ⟨rfl, rfl⟩
  go_wp2
  go_ret
  exact ⟨ret_flt HR.out, Ab.drewN (Ab.trans B1.out B2.out) n⟩
set_option maxHeartbeats 2000000 in
theorem slope_m3 (a b p q : Nat) (w : World) (ga : flt a 0 = true) (gb : flt b 0 = true) (ga2 : fgt a 0 = false) (na : Op.negFloat .f64 a = p) (nb : Op.negFloat .f64 b = q) (P : Hid (ps p = true)) (Q : Hid (ps q = true)) : Calls Tryz.prog 68 #[.int .i64 3, .float .f64 a, .float .f64 b] w fun e w' => e = .returned (.float .f64 (op (lm 3 p q))) ∧ Below w.heap.size w w' := by
  have V := hid (valid_at 3 w)
  have L := hid limiters_at
  have IX : ∀ w : World, (Instr.index 81 (.agg #[.func (.func 71) #[] #[], .func (.func 72) #[] #[], .func (.func 73) #[] #[], .func (.func 74) #[] #[]]) (.int .i64 3)).run Tryz.prog w = .ok (.func (.func 74) #[] #[]) w := fun _ => by kernel_rfl
  have G := hid lim3
  go_enter Tryz.func68, Tryz.ntmps68
  go_wp2_with fail
  refine V.out.mono ?_
  rintro e w1 ⟨rfl, b1⟩
  have B1 := hid b1
  clear b1
  go_wp2_with fail
  refine (L.out _).mono ?_
  rintro e w2 ⟨rfl, b2⟩
  have B2 := hid b2
  clear b2
  go_wp2_with fail
  refine (G.out p q _ P.out Q.out).mono ?_
  rintro e w3 ⟨r, rfl, ⟨n, rfl⟩, hr⟩
  have E : canonB (Op.negFloat .f64 r) = op (lm 3 p q) := by rw [negFloat_eq r hr.1]; exact canon_op2 hr (lm_le 3 (ps_iff.1 P.out).2 (ps_iff.1 Q.out).2)
  have C := canon_any (Op.negFloat .f64 r) (w2.drewN n) (by rw [negFloat_eq r hr.1]; exact negB_lt hr.1)
  rw [E] at C
  have C := hid C
  clear hr E
  go_wp2_with fail
  refine C.out.mono ?_
  rintro e w4 ⟨rfl, rfl⟩
  go_wp2
  go_ret
  exact ⟨rfl, Ab.drewN (Ab.trans B1.out B2.out) n⟩
theorem slope_n3 (a b : Nat) (w : World) (ha : a < 18446744073709551616) (hb : b < 18446744073709551616) (pa : ns a = true) (pb : ns b = true) : Calls Tryz.prog 68 #[.int .i64 3, .float .f64 a, .float .f64 b] w fun e w' => e = .returned (.float .f64 (op (lm 3 (a - 9223372036854775808) (b - 9223372036854775808)))) ∧ Below w.heap.size w w' := by
  have a1 := ns_iff.1 pa
  have b1 := ns_iff.1 pb
  exact slope_m3 a b _ _ w (by rw [flt_ns ha]; exact pa) (by rw [flt_ns hb]; exact pb) (by rw [fgt_ps ha]; exact ps_no.2 (by omega)) (by rw [negFloat_eq a ha, neg_ns a1.1]) (by rw [negFloat_eq b hb, neg_ns b1.1]) (ps_iff.2 ⟨by omega, by omega⟩) (ps_iff.2 ⟨by omega, by omega⟩)
set_option maxHeartbeats 2000000 in
theorem slope_z3 (a b : Nat) (w : World) (ha : a < 18446744073709551616) (hb : b < 18446744073709551616) (pa : (ps a && ps b) = false) (pb : (ns a && ns b) = false) : Calls Tryz.prog 68 #[.int .i64 3, .float .f64 a, .float .f64 b] w fun e w' => e = .returned (.float .f64 0) ∧ Below w.heap.size w w' := by
  have V := hid (valid_at 3 w)
  have L := hid limiters_at
  have IX : ∀ w : World, (Instr.index 81 (.agg #[.func (.func 71) #[] #[], .func (.func 72) #[] #[], .func (.func 73) #[] #[], .func (.func 74) #[] #[]]) (.int .i64 3)).run Tryz.prog w = .ok (.func (.func 74) #[] #[]) w := fun _ => by kernel_rfl
  rw [← fgt_ps ha, ← fgt_ps hb] at pa
  rw [← flt_ns ha, ← flt_ns hb] at pb
  clear ha hb
  cases g1 : fgt a 0 <;> cases g2 : flt a 0 <;> rw [g1] at pa <;> rw [g2] at pb <;> (try rw [Bool.true_and] at pa) <;> (try rw [Bool.true_and] at pb) <;> (
    go_enter Tryz.func68, Tryz.ntmps68
    go_wp2_with fail
    refine V.out.mono ?_
    rintro e w1 ⟨rfl, b1⟩
    have B1 := hid b1
    clear b1
    go_wp2_with fail
    refine (L.out _).mono ?_
    rintro e w2 ⟨rfl, b2⟩
    have B2 := hid b2
    clear b2
    go_wp2
    go_ret
    exact ⟨rfl, Ab.trans B1.out B2.out⟩)
set_option maxHeartbeats 2000000 in
theorem slope_i (k : Int) (a b : Nat) (w : World) (hk : decide (0 ≤ k ∧ k ≤ 3) = false) : Calls Tryz.prog 68 #[.int .i64 k, .float .f64 a, .float .f64 b] w fun e w' => e = .returned (.float .f64 0) ∧ Below w.heap.size w w' := by
  have V := valid_at k w
  rw [hk] at V
  have V := hid V
  clear hk
  go_enter Tryz.func68, Tryz.ntmps68
  go_wp2_with fail
  refine V.out.mono ?_
  rintro e w1 ⟨rfl, b1⟩
  have B1 := hid b1
  clear b1
  go_wp2
  go_ret
  exact ⟨rfl, B1.out⟩
theorem slope_at (k : Int) (a b : Nat) (w : World) (ha : a < 18446744073709551616) (hb : b < 18446744073709551616) : Calls Tryz.prog 68 #[.int .i64 k, .float .f64 a, .float .f64 b] w fun e w' => e = .returned (.float .f64 (slp k a b)) ∧ Below w.heap.size w w' := by
  by_cases hk : 0 ≤ k ∧ k ≤ 3
  · have hk : k = 0 ∨ k = 1 ∨ k = 2 ∨ k = 3 := by omega
    unfold slp
    cases p : (ps a && ps b)
    · cases n : (ns a && ns b)
      · rw [if_neg (by decide), if_neg (by decide)]
        rcases hk with rfl | rfl | rfl | rfl
        · exact slope_z0 a b w ha hb p n
        · exact slope_z1 a b w ha hb p n
        · exact slope_z2 a b w ha hb p n
        · exact slope_z3 a b w ha hb p n
      · rw [if_neg (by decide), if_pos rfl]
        rw [Bool.and_eq_true] at n
        rcases hk with rfl | rfl | rfl | rfl
        · exact slope_n0 a b w ha hb n.1 n.2
        · exact slope_n1 a b w ha hb n.1 n.2
        · exact slope_n2 a b w ha hb n.1 n.2
        · exact slope_n3 a b w ha hb n.1 n.2
    · rw [if_pos rfl]
      rw [Bool.and_eq_true] at p
      rcases hk with rfl | rfl | rfl | rfl
      · exact slope_p0 a b w ha hb p.1 p.2
      · exact slope_p1 a b w ha hb p.1 p.2
      · exact slope_p2 a b w ha hb p.1 p.2
      · exact slope_p3 a b w ha hb p.1 p.2
  · have e : slp k a b = 0 := by
      have h : ∀ x y, lm k x y = 0 := fun x y => by
        unfold lm
        rw [if_neg (by omega), if_neg (by omega), if_neg (by omega)]
      unfold slp op
      rw [h, h]
      simp
    rw [e]
    exact slope_i k a b w (decide_eq_false hk)
end Go.Proofs.YtfddlnedpfkcaaaGreatDoor

namespace Go.Proofs.YtfddlnedpfkcaaaGreatDoor
open Go.RowKit Tf
attribute [local go_sem] run_bits run_from raw_feq raw_fne raw_flt raw_fgt run_neg
theorem isC_eq {r c : Nat} (h : IsC r c) (c0 : 0 < c) (c1 : c ≤ 9218868437227405312) : r = c := by
  have e := h.2
  unfold canonB at e
  split at e
  · unfold quiet at e; omega
  · split at e
    · omega
    · exact e
theorem add_can {P : Program} (w : World) (s x : Nat) (hs : s < 18446744073709551616) (hx : x < 18446744073709551616) :
    ∃ r n, (∀ t, (binOp .add t (.float .f64 s) (.float .f64 x)).run P w = .ok (.float .f64 r) (w.drewN n)) ∧ IsC r (addB s x) := by
  cases e : Ieee.double.add s x with
  | none => exact ⟨nanOf w s x, 1, fun t => run_nan_add w t s x e, nanOf_lt _ _ _, by rw [addB_none e]; unfold canonB; rw [if_pos (isN_nanOf _ _ _)]⟩
  | some r => exact ⟨r, 0, fun t => run_float_arith w .add t .f64 s x r e, by
      have q := IsQ.add (IsQ.self hs) (IsQ.self hx) e
      exact q.1, by rw [addB_some e]⟩
theorem depth_no (n a : Int) (w : World) (h : n < 1 ∨ a < 1) :
    Calls Tryz.prog 103 #[.int .i64 n, .int .i64 a] w fun e w' => e = .returned (.float .f64 0) ∧ w' = w := by
  by_cases c : n < 1
  · go_enter Tryz.func103, Tryz.ntmps103
    go_wp2
    go_ret
    exact ⟨rfl, rfl⟩
  · have d : a < 1 := by omega
    clear h
    go_enter Tryz.func103, Tryz.ntmps103
    go_wp2
    go_ret
    exact ⟨rfl, rfl⟩
theorem depth_yes (n a : Int) (w : World) (h1 : 1 ≤ n) (h2 : 1 ≤ a) (n2 : n ≤ 9223372036854775807) (a2 : a ≤ 9223372036854775807) :
    Calls Tryz.prog 103 #[.int .i64 n, .int .i64 a] w fun e w' => e = .returned (.float .f64 (dpB n a)) ∧ ∃ k, w' = w.drewN k := by
  obtain ⟨r, k, hr, hc⟩ := div_any (P := Tryz.prog) w (fw n) (fw a)
  have e := isC_eq hc (by rw [← dp_of h1 h2]; have := dp_in h1 h2 n2 a2; omega) (by rw [← dp_of h1 h2]; have := dp_in h1 h2 n2 a2; omega)
  rw [dp_of h1 h2, ← e]
  clear e hc
  have F1 := hid (fromInt_any n w)
  have F2 := hid (fromInt_any a w)
  rw [show rn false (n * one) = fw n from rfl] at F1
  rw [show rn false (a * one) = fw a from rfl] at F2
  generalize fw n = x at *
  generalize fw a = y at *
  go_enter Tryz.func103, Tryz.ntmps103
  go_wp2_with fail
  refine F1.out.mono ?_
  rintro e w' ⟨rfl, rfl⟩
  go_wp2_with fail
  refine F2.out.mono ?_
  rintro e w' ⟨rfl, rfl⟩
  go_wp2
  go_ret
  exact ⟨rfl, k, rfl⟩
theorem depth_at (n a : Int) (w : World) (n2 : n ≤ 9223372036854775807) (a2 : a ≤ 9223372036854775807) :
    Calls Tryz.prog 103 #[.int .i64 n, .int .i64 a] w fun e w' => e = .returned (.float .f64 (dpB n a)) ∧ ∃ k, w' = w.drewN k := by
  by_cases c : n < 1 ∨ a < 1
  · rw [dp_zero c]
    exact (depth_no n a w c).mono fun _ _ h => ⟨h.1, 0, h.2⟩
  · exact depth_yes n a w (by omega) (by omega) n2 a2
theorem level_at (b : Nat) (n a : Int) (w : World) (hb : b < 18446744073709551616) (n2 : n ≤ 9223372036854775807) (a2 : a ≤ 9223372036854775807) :
    Calls Tryz.prog 69 #[.float .f64 b, .int .i64 n, .int .i64 a] w fun e w' => e = .returned (.float .f64 (lvl b n a)) ∧ ∃ k, w' = w.drewN k := by
  have D := hid (depth_at n a w n2 a2)
  have e0 : lvl b n a = addB b (dpB n a) := rfl
  rw [e0]
  have hd : dpB n a < 18446744073709551616 := by have := dp_le n2 a2; omega
  clear e0
  generalize dpB n a = d at *
  have AD : Hid (∀ k : Nat, ∃ r m, (∀ t, (binOp .add t (.float .f64 b) (.float .f64 d)).run Tryz.prog (w.drewN k) = .ok (.float .f64 r) ((w.drewN k).drewN m)) ∧ IsC r (addB b d)) := fun k => add_can _ b d hb hd
  generalize addB b d = y at *
  go_enter Tryz.func69, Tryz.ntmps69
  go_wp2_with fail
  refine D.out.mono ?_
  rintro e w' ⟨rfl, k, rfl⟩
  obtain ⟨r, m, hr, hc⟩ := AD.out k
  have C := hid (canon_any r (w.drewN (k + m)) hc.1)
  rw [hc.2] at C
  go_wp2_with fail
  refine C.out.mono ?_
  rintro e w' ⟨rfl, rfl⟩
  go_wp2
  go_ret
  exact ⟨rfl, k + m, rfl⟩
end Go.Proofs.YtfddlnedpfkcaaaGreatDoor

namespace Go.Proofs.YtfddlnedpfkcaaaGreatDoor
open Go.RowKit Tf Cu
set_option maxRecDepth 100000 in
theorem dp12_go {n gb : Nat} (k : Int) (bb bo wb wo cb cw : Nat) (pt ps : Option Addr) (lt ct ls cs : Nat) (sky st : Int) {B : Nat → Nat} {Wt : Nat → Int} {U D K : Nat} (e : Int) (u : Nat) (w : World) (hn : 1 ≤ n ∧ n ≤ 32) (cU : U < 6 * n * n) (cD : D < 6 * n * n) (cK : K < 6 * n * n) (g : GridOf n gb w)
    (hB : IsFl w (some ⟨bb, bo, none⟩) (6 * n * n) B) (hW : IsIn w (some ⟨wb, wo, none⟩) (6 * n * n) Wt)
    (CF : Hid (∀ v, Ab w v → Calls Tryz.prog 13 #[.pointer (some ⟨gb, 0, none⟩), .agg #[.slice (some ⟨bb, bo, none⟩) (6 * n * n) cb, .slice (some ⟨wb, wo, none⟩) (6 * n * n) cw, .slice pt lt ct, .slice ps ls cs, .int .i64 sky, .int .i64 st]] v fun e w' => e = .returned (.bool true) ∧ Below v.heap.size v w'))
    (CW : Hid (∀ v, Ab w v → Calls Tryz.prog 33 #[.pointer (some ⟨gb, 0, none⟩), .int .i64 e, .float .f64 u] v fun e w' => e = .returned (.tuple #[.agg #[.int .i64 (U : Nat), .int .i64 (D : Nat), .int .i64 (K : Nat)], .bool true]) ∧ Below v.heap.size v w')) :
    Calls Tryz.prog 11 #[.pointer (some ⟨gb, 0, none⟩), .int .i64 k, .agg #[.slice (some ⟨bb, bo, none⟩) (6 * n * n) cb, .slice (some ⟨wb, wo, none⟩) (6 * n * n) cw, .slice pt lt ct, .slice ps ls cs, .int .i64 sky, .int .i64 st], .int .i64 e, .float .f64 u] w fun e w' => e = .returned (.float .f64 (ovC k (arC n) B Wt U D K)) ∧ Below w.heap.size w w' := by
  have bU := hB.at0 cU
  have bD := hB.at0 cD
  have wU := hW.at0 cU
  have wD := hW.at0 cD
  have wK := hW.at0 cK
  unfold ovC rcR
  have FW : ∀ v, Ab w v → v.cell? ⟨wb, wo + U, none⟩ = some (.int .i64 (Wt U)) ∧ v.cell? ⟨bb, bo + U, none⟩ = some (.float .f64 (B U)) ∧ v.cell? ⟨bb, bo + D, none⟩ = some (.float .f64 (B D)) := fun v hv =>
    ⟨(Below.cell hv wU.2.1).trans wU.2.2, (Below.cell hv bU.2.1).trans bU.2.2, (Below.cell hv bD.2.1).trans bD.2.2⟩
  have DU : ∀ v, Ab w v → Calls Tryz.prog 67 #[.pointer (some ⟨gb, 0, none⟩), .agg #[.slice (some ⟨bb, bo, none⟩) (6 * n * n) cb, .slice (some ⟨wb, wo, none⟩) (6 * n * n) cw, .slice pt lt ct, .slice ps ls cs, .int .i64 sky, .int .i64 st], .int .i64 (U : Nat)] v fun e w' => e = .returned (.float .f64 (dpB (Wt U) (arC n U))) ∧ Below v.heap.size v w' := (fun v hv => dof12_at (.pointer (some ⟨gb, 0, none⟩)) bb bo wb wo (6 * n * n) cb cw pt ps lt ct ls cs sky st U (Wt U) (arC n U) _ v (by omega) (fun z hz => (Below.cell (hv.trans hz) wU.2.1).trans wU.2.2) (fun z hz => gArea_ok hn cU (g.to (hv.trans hz))) (fun z => (depth_at _ _ z wU.1 (arC_in n _).2).mono fun _ _ h => ⟨h.1, by obtain ⟨_, j, rfl⟩ := h; exact below_drewN (Below.refl _ _) j⟩))
  have DK : ∀ v, Ab w v → Calls Tryz.prog 67 #[.pointer (some ⟨gb, 0, none⟩), .agg #[.slice (some ⟨bb, bo, none⟩) (6 * n * n) cb, .slice (some ⟨wb, wo, none⟩) (6 * n * n) cw, .slice pt lt ct, .slice ps ls cs, .int .i64 sky, .int .i64 st], .int .i64 (K : Nat)] v fun e w' => e = .returned (.float .f64 (dpB (Wt K) (arC n K))) ∧ Below v.heap.size v w' := (fun v hv => dof12_at (.pointer (some ⟨gb, 0, none⟩)) bb bo wb wo (6 * n * n) cb cw pt ps lt ct ls cs sky st K (Wt K) (arC n K) _ v (by omega) (fun z hz => (Below.cell (hv.trans hz) wK.2.1).trans wK.2.2) (fun z hz => gArea_ok hn cK (g.to (hv.trans hz))) (fun z => (depth_at _ _ z wK.1 (arC_in n _).2).mono fun _ _ h => ⟨h.1, by obtain ⟨_, j, rfl⟩ := h; exact below_drewN (Below.refl _ _) j⟩))
  have DD : ∀ v, Ab w v → Calls Tryz.prog 67 #[.pointer (some ⟨gb, 0, none⟩), .agg #[.slice (some ⟨bb, bo, none⟩) (6 * n * n) cb, .slice (some ⟨wb, wo, none⟩) (6 * n * n) cw, .slice pt lt ct, .slice ps ls cs, .int .i64 sky, .int .i64 st], .int .i64 (D : Nat)] v fun e w' => e = .returned (.float .f64 (dpB (Wt D) (arC n D))) ∧ Below v.heap.size v w' := (fun v hv => dof12_at (.pointer (some ⟨gb, 0, none⟩)) bb bo wb wo (6 * n * n) cb cw pt ps lt ct ls cs sky st D (Wt D) (arC n D) _ v (by omega) (fun z hz => (Below.cell (hv.trans hz) wD.2.1).trans wD.2.2) (fun z hz => gArea_ok hn cD (g.to (hv.trans hz))) (fun z => (depth_at _ _ z wD.1 (arC_in n _).2).mono fun _ _ h => ⟨h.1, by obtain ⟨_, j, rfl⟩ := h; exact below_drewN (Below.refl _ _) j⟩))
  have fU : dpB (Wt U) (arC n U) < 9218868437227405312 := by have := dp_le wU.1 (arC_in n U).2; omega
  have fK : dpB (Wt K) (arC n K) < 9218868437227405312 := by have := dp_le wK.1 (arC_in n K).2; omega
  have fD : dpB (Wt D) (arC n D) < 9218868437227405312 := by have := dp_le wD.1 (arC_in n D).2; omega
  have hx := minus_some fU fK
  have hy := minus_some fD fU
  have lx := (sub_isC (by omega) hx (by omega)).1
  have ly := (sub_isC (by omega) hy (by omega)).1
  have sN := slp_N k (sbB (dpB (Wt U) (arC n U)) (dpB (Wt K) (arC n K))) (sbB (dpB (Wt D) (arC n D)) (dpB (Wt U) (arC n U)))
  have sl := slp_lt k (sbB (dpB (Wt U) (arC n U)) (dpB (Wt K) (arC n K))) (sbB (dpB (Wt D) (arC n D)) (dpB (Wt U) (arC n U)))
  have hm := half_some sl sN
  have hf := half_N sl sN
  have hv0 := plus_some fU hf.2 hf.1
  have vl := rcV_lt (k := k) (hb := dpB (Wt K) (arC n K)) (hd := dpB (Wt D) (arC n D)) fU
  have ll := lvl_lt (b := B U) (w := Wt U) (a := arC n U) bU.1 wU.1 (arC_in n _).2
  have ml := maxB_lt (a := B U) (b := B D) bU.1 bD.1
  cases hs : Ieee.double.sub (lvl (B U) (Wt U) (arC n U)) (maxB (B U) (B D)) with
  | some z =>
    have hc := sub_isC ml hs ll
    rw [show rcG (lvl (B U) (Wt U) (arC n U)) (B U) (B D) = sbB (lvl (B U) (Wt U) (arC n U)) (maxB (B U) (B D)) from rfl, ← pos0_c vl hc]
    exact dp12_some (.pointer (some ⟨gb, 0, none⟩)) bb bo wb wo (6 * n * n) cb cw pt ps lt ct ls cs sky st k e u w U D K _ _ _ CF CW
      (fun v hv => fwd12_at (.pointer (some ⟨gb, 0, none⟩)) bb bo wb wo (6 * n * n) cb cw pt ps lt ct ls cs sky st k U D K _ _ _ _ _ _ _ _ v (fun z hz => DU z (hv.trans hz)) (fun z hz => DK z (hv.trans hz)) (fun z hz => DD z (hv.trans hz)) (fun z => slope_at k _ _ z lx ly) (fun t w => run_float_arith w .sub t .f64 _ _ _ hx) (fun t w => run_float_arith w .sub t .f64 _ _ _ hy) (fun t w => run_float_arith w .mul t .f64 _ _ _ hm) (fun t w => run_float_arith w .add t .f64 _ _ _ hv0)) z
      (fun v hv => gate12_some_at (.pointer (some ⟨gb, 0, none⟩)) bb bo wb wo (6 * n * n) cb cw pt ps lt ct ls cs sky st U D K (Wt U) (arC n U) (B U) (B D) _ _ v (by omega) (by omega) (fun z hz => FW z (hv.trans hz)) (fun z hz => gArea_ok hn cU (g.to (hv.trans hz))) (fun z => (level_at _ _ _ z bU.1 wU.1 (arC_in n _).2).mono fun _ _ h => ⟨h.1, by obtain ⟨_, j, rfl⟩ := h; exact below_drewN (Below.refl _ _) j⟩) (fun z => (max_any _ _ z bU.1 bD.1).mono fun _ _ h => ⟨h.1, by obtain ⟨_, rfl⟩ := h; exact Below.refl _ _⟩) z (fun t w => run_float_arith w .sub t .f64 _ _ _ hs)) (fun v => (min_any _ _ v vl hc.1).mono fun _ _ h => ⟨h.1, by obtain ⟨_, rfl⟩ := h; exact Below.refl _ _⟩) rfl
  | none =>
    have hN : isN (rcG (lvl (B U) (Wt U) (arC n U)) (B U) (B D)) = true := by
      unfold rcG sbB
      rw [addB_none (by rw [← sub_add _ _ ml]; exact hs)]
      decide
    rw [minB_nan (.inr hN)]
    exact dp12_none (.pointer (some ⟨gb, 0, none⟩)) bb bo wb wo (6 * n * n) cb cw pt ps lt ct ls cs sky st k e u w U D K _ _ _ CF CW
      (fun v hv => fwd12_at (.pointer (some ⟨gb, 0, none⟩)) bb bo wb wo (6 * n * n) cb cw pt ps lt ct ls cs sky st k U D K _ _ _ _ _ _ _ _ v (fun z hz => DU z (hv.trans hz)) (fun z hz => DK z (hv.trans hz)) (fun z hz => DD z (hv.trans hz)) (fun z => slope_at k _ _ z lx ly) (fun t w => run_float_arith w .sub t .f64 _ _ _ hx) (fun t w => run_float_arith w .sub t .f64 _ _ _ hy) (fun t w => run_float_arith w .mul t .f64 _ _ _ hm) (fun t w => run_float_arith w .add t .f64 _ _ _ hv0))
      (fun v hv => gate12_none_at (.pointer (some ⟨gb, 0, none⟩)) bb bo wb wo (6 * n * n) cb cw pt ps lt ct ls cs sky st U D K (Wt U) (arC n U) (B U) (B D) _ _ v (by omega) (by omega) (fun z hz => FW z (hv.trans hz)) (fun z hz => gArea_ok hn cU (g.to (hv.trans hz))) (fun z => (level_at _ _ _ z bU.1 wU.1 (arC_in n _).2).mono fun _ _ h => ⟨h.1, by obtain ⟨_, j, rfl⟩ := h; exact below_drewN (Below.refl _ _) j⟩) (fun z => (max_any _ _ z bU.1 bD.1).mono fun _ _ h => ⟨h.1, by obtain ⟨_, rfl⟩ := h; exact Below.refl _ _⟩) (fun t w => run_nan_sub w t _ _ hs)) (fun z hz1 hz2 v => by
        have h := min_any (rcV k (dpB (Wt U) (arC n U)) (dpB (Wt K) (arC n K)) (dpB (Wt D) (arC n D))) z v vl hz1
        rw [minB_nan (.inr hz2)] at h
        exact (h).mono fun _ _ h => ⟨h.1, by obtain ⟨_, rfl⟩ := h; exact Below.refl _ _⟩) rfl
theorem depthC : DepthC := by
  intro n gb k pb lb cb B pw lw cw Wt pt lt ct ps ls cs sky st e u w hn g hB hW hu
  have CC : Hid (∀ v, Ab w v → Calls Tryz.prog 38 #[.pointer (some ⟨gb, 0, none⟩)] v fun e w' => e = .returned (.int .i64 (6 * n * n : Nat)) ∧ Below v.heap.size v w') := fun v hv => (gCells_at (g.to hv)).mono fun _ _ h => ⟨h.1, by obtain ⟨_, rfl⟩ := h; exact Below.refl _ _⟩
  by_cases c : lb = 6 * n * n ∧ lw = 6 * n * n
  · obtain ⟨rfl, rfl⟩ := c
    have CF : Hid (∀ v, Ab w v → Calls Tryz.prog 13 #[.pointer (some ⟨gb, 0, none⟩), .agg #[.slice pb (6 * n * n) cb, .slice pw (6 * n * n) cw, .slice pt lt ct, .slice ps ls cs, .int .i64 sky, .int .i64 st]] v fun e w' => e = .returned (.bool true) ∧ Below v.heap.size v w') := fun v hv => fit12_at (.pointer (some ⟨gb, 0, none⟩)) pb pw pt ps _ cb _ cw lt ct ls cs sky st (6 * n * n) true v (.inr ⟨by simp, by simp⟩) (fun z hz => CC.out z (hv.trans hz))
    cases h : inR e (12 * n * n : Nat) with
    | false =>
      rw [rdAll_no (fun q => by rw [h] at q; exact absurd q.1 (by decide))]
      exact dp12_noway (.pointer (some ⟨gb, 0, none⟩)) pb pw pt ps _ cb _ cw lt ct ls cs sky st k e u w CF (fun v hv => wo12_no (.pointer (some ⟨gb, 0, none⟩)) e u v (fun z hz => gEdge_no h (g.to (hv.trans hz))))
    | true =>
      obtain ⟨E, rfl, hE⟩ := inR_nat h
      obtain ⟨t1, t2, t3⟩ := edT_spec hn.1 hE
      rw [← t3]
      have mtd := mt_dec hn.1 t1
      have cL := t_cell t1
      have cR : bsC n (edT n E / 4) (edT n E % 4) < 6 * n * n := by rw [← mtd.1]; exact t_cell (mt_lt hn.1 t1)
      have cp : bsC n (edT n E / 4) ((edT n E % 4 + 2) % 4) < 6 * n * n := bk_lt hn.1 t1
      have cq : bsC n (bsC n (edT n E / 4) (edT n E % 4)) ((bsS n (edT n E / 4) (edT n E % 4) + 2) % 4) < 6 * n * n := by
        have := bk_lt hn.1 (mt_lt hn.1 t1)
        unfold bkC at this
        rwa [mtd.1, mtd.2] at this
      obtain ⟨bb, bo, rfl⟩ := hB.some0 (six_pos hn.1)
      obtain ⟨wb, wo, rfl⟩ := hW.some0 (six_pos hn.1)
      rw [rdAll_eN hn.1 t1 t2]
      cases p : fgt u 0 with
      | true =>
        have e : sdD n k (arC n) B Wt (edT n E) = ovC k (arC n) B Wt (edT n E / 4) (bsC n (edT n E / 4) (edT n E % 4)) (bsC n (edT n E / 4) ((edT n E % 4 + 2) % 4)) := by
          unfold sdD
          rw [mtd.1]; rfl
        rw [rdT_p p, e]
        exact dp12_go k bb bo wb wo cb cw pt ps lt ct ls cs sky st _ u w hn cL cR cp g hB hW CF (fun v hv => wo12_pos (.pointer (some ⟨gb, 0, none⟩)) _ u _ _ _ _ _ _ v p (fun z hz => gEdge_ok hn t1 t2 (g.to (hv.trans hz))) (fun z hz => gBehind_ok hn t1 t2 (g.to (hv.trans hz))))
      | false =>
        cases q : flt u 0 with
        | true =>
          have e : sdD n k (arC n) B Wt (mt n (edT n E)) = ovC k (arC n) B Wt (bsC n (edT n E / 4) (edT n E % 4)) (edT n E / 4) (bsC n (bsC n (edT n E / 4) (edT n E % 4)) ((bsS n (edT n E / 4) (edT n E % 4) + 2) % 4)) := by
            unfold sdD
            rw [mt_mt hn.1 t1, mtd.1]; unfold bkC; rw [mtd.1, mtd.2]
          rw [rdT_n p q, e]
          exact dp12_go k bb bo wb wo cb cw pt ps lt ct ls cs sky st _ u w hn cR cL cq g hB hW CF (fun v hv => wo12_neg (.pointer (some ⟨gb, 0, none⟩)) _ u _ _ _ _ _ _ v p q (fun z hz => gEdge_ok hn t1 t2 (g.to (hv.trans hz))) (fun z hz => gBehind_ok hn t1 t2 (g.to (hv.trans hz))))
        | false =>
          rw [rdT_0 p q]
          exact dp12_noway (.pointer (some ⟨gb, 0, none⟩)) (some ⟨bb, bo, none⟩) (some ⟨wb, wo, none⟩) pt ps _ cb _ cw lt ct ls cs sky st k _ u w CF (fun v hv => wo12_still (.pointer (some ⟨gb, 0, none⟩)) _ u _ _ _ _ _ _ v p q (fun z hz => gEdge_ok hn t1 t2 (g.to (hv.trans hz))) (fun z hz => gBehind_ok hn t1 t2 (g.to (hv.trans hz))))
  · rw [rdAll_no (fun q => c q.2)]
    refine dp12_nofit (.pointer (some ⟨gb, 0, none⟩)) pb pw pt ps lb cb lw cw lt ct ls cs sky st k e u w (fun v hv => fit12_at (.pointer (some ⟨gb, 0, none⟩)) pb pw pt ps lb cb lw cw lt ct ls cs sky st (6 * n * n) false v ?_ (fun z hz => CC.out z (hv.trans hz)))
    by_cases c1 : lb = 6 * n * n
    · exact .inr ⟨by rw [c1]; simp, by rw [beq_eq_false_iff_ne]; omega⟩
    · exact .inl ⟨by rw [beq_eq_false_iff_ne]; omega, rfl⟩
end Go.Proofs.YtfddlnedpfkcaaaGreatDoor

namespace Go.Proofs.YtfddlnedpfkcaaaGreatDoor
open Go.RowKit Go.Deep
theorem size1 (W : World) (A : Obj) : (W.alloc A).heap.size = W.heap.size + 1 := by
  show (W.heap.push A).size = _
  simp
theorem made_row {v : World} {g n : Nat} {z : Value} {T : TypeId} (h : v.heap[g]? = some (Obj.cells (madeCells #[z] n) T)) : v.rowIs g T n (fun _ => z) := by
  have e := World.rowIs_made v z n T
  have l := heap_alloc_new v (Obj.cells (madeCells #[z] n) T)
  obtain ⟨c, h1, h2⟩ := e
  rw [l] at h1
  exact ⟨c, h.trans h1, h2⟩
theorem row6 {w : World} {g : Nat} {a b c d e f x y z p q r : Value} {T : TypeId} (h : w.heap[g]? = some (.cells #[a, b, c, d, e, f] T)) :
    ((((((w.setCell ⟨g, 0, none⟩ x).setCell ⟨g, 1, none⟩ y).setCell ⟨g, 2, none⟩ z).setCell ⟨g, 3, none⟩ p).setCell ⟨g, 4, none⟩ q).setCell ⟨g, 5, none⟩ r).heap[g]? = some (.cells #[x, y, z, p, q, r] T) := by
  have h1 := one_set (v := x) (k := 0) h
  have h2 := one_set (v := y) (k := 1) h1
  have h3 := one_set (v := z) (k := 2) h2
  have h4 := one_set (v := p) (k := 3) h3
  have h5 := one_set (v := q) (k := 4) h4
  have h6 := one_set (v := r) (k := 5) h5
  simpa using h6
theorem heap_set_ne {v : World} {b k g : Nat} {x : Value} (h : g ≠ b) : (v.setCell ⟨b, k, none⟩ x).heap[g]? = v.heap[g]? := blk_setCell_other _ _ _ _ h
end Go.Proofs.YtfddlnedpfkcaaaGreatDoor

namespace Go.Proofs.YtfddlnedpfkcaaaGreatDoor
open Go.RowKit Tf Cu Go.Deep
/-- a sea of the call's own in block g, its lists in blocks bB and bW: fb and fw lie there -/
def OwnSea (W : World) (g bB bW M : Nat) (r : Array Value) (fb : Nat → Nat) (fw : Nat → Int) (v : World) : Prop :=
  Ab W v ∧ v.heap[g]? = some (.cells r 25) ∧ v.rowIs bB 43 M (fun i => .float .f64 (fb i)) ∧ v.rowIs bW 2 M (fun i => .int .i64 (fw i))
theorem OwnSea.to {W : World} {g bB bW M : Nat} {r : Array Value} {fb : Nat → Nat} {fw : Nat → Int} {v v' : World} (h : OwnSea W g bB bW M r fb fw v) (a : Ab v v') : OwnSea W g bB bW M r fb fw v' :=
  ⟨h.1.trans a, a.heap h.2.1, rowIs.ab h.2.2.1 a, rowIs.ab h.2.2.2 a⟩
end Go.Proofs.YtfddlnedpfkcaaaGreatDoor
