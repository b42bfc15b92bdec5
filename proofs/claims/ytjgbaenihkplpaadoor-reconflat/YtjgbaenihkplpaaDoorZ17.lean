/-
  Some of the texts of this proof, one behind the other.
-/
import Derived.Test.YtjgbaenihkplpaaDoorZ15
import Derived.Test.YtjgbaenihkplpaaDoorZ08
import Derived.Test.YtjgbaenihkplpaaDoorZ03
import Derived.Test.YtjgbaenihkplpaaDoorZ16
/-
  Package limit: walks over the program.
-/
namespace Go.Proofs.YtjgbaenihkplpaaDoor
open Go.RowKit Tf
attribute [local go_sem] run_bits run_from raw_feq raw_fne raw_flt raw_fgt run_neg
theorem run_min_f {P : Program} (w : World) (ts : Array TypeId) (t : TypeId) {a b : Nat} (ha : a ≤ 9218868437227405312) (hb : b ≤ 9218868437227405312) :
    (Builtin.min_ ts t #[.float .f64 a, .float .f64 b]).run P w = .ok (.float .f64 (min a b)) w := by
  have h : FloatKind.f64.format.order a b = _ := order_pp ha hb
  by_cases c : a < b
  · rw [if_pos c] at h
    simp [Builtin.min_, Builtin.min2, h]
    omega
  · rw [if_neg c] at h
    by_cases d : b < a
    · rw [if_pos d] at h
      simp [Builtin.min_, Builtin.min2, h]
      omega
    · rw [if_neg d] at h
      have e : a = b := by omega
      subst e
      simp [Builtin.min_, Builtin.min2, h]
theorem run_max_f {P : Program} (w : World) (ts : Array TypeId) (t : TypeId) {a b : Nat} (ha : a ≤ 9218868437227405312) (hb : b ≤ 9218868437227405312) :
    (Builtin.max_ ts t #[.float .f64 a, .float .f64 b]).run P w = .ok (.float .f64 (max a b)) w := by
  have h : FloatKind.f64.format.order a b = _ := order_pp ha hb
  by_cases c : a < b
  · rw [if_pos c] at h
    simp [Builtin.max_, Builtin.max2, h]
    omega
  · rw [if_neg c] at h
    by_cases d : b < a
    · rw [if_pos d] at h
      simp [Builtin.max_, Builtin.max2, h]
      omega
    · rw [if_neg d] at h
      have e : a = b := by omega
      subst e
      simp [Builtin.max_, Builtin.max2, h]
theorem plain_at (a b : Nat) (w : World) : Calls Tryd.prog 60 #[.float .f64 a, .float .f64 b] w fun e w' => e = .returned (.float .f64 0) ∧ w' = w := by
  go_enter Tryd.func60, Tryd.ntmps60
  go_wp2
  go_ret
  exact ⟨rfl, rfl⟩
theorem minmod_at (a b : Nat) (w : World) (ha : a ≤ 9218868437227405312) (hb : b ≤ 9218868437227405312) : Calls Tryd.prog 61 #[.float .f64 a, .float .f64 b] w fun e w' => e = .returned (.float .f64 (min a b)) ∧ w' = w := by
  have h : ∀ ts t, (Builtin.min_ ts t #[.float .f64 a, .float .f64 b]).run Tryd.prog w = .ok (.float .f64 (min a b)) w := fun ts t => run_min_f w ts t ha hb
  generalize e : min a b = m at h ⊢
  clear e ha hb
  go_enter Tryd.func61, Tryd.ntmps61
  go_wp2
  go_ret
  exact ⟨rfl, rfl⟩
set_option maxHeartbeats 1000000 in
theorem superbee_at (a b : Nat) (w : World) (ha : ps a = true) (hb : ps b = true) : Calls Tryd.prog 62 #[.float .f64 a, .float .f64 b] w fun e w' => e = .returned (.float .f64 (sbee a b)) ∧ w' = w := by
  obtain ⟨a0, a1⟩ := ps_iff.1 ha
  obtain ⟨b0, b1⟩ := ps_iff.1 hb
  have fa := (d2_facts a1).1
  have fb := (d2_facts b1).1
  have h1 : ∀ t, (binOp .mul t (.float .f64 4611686018427387904) (.float .f64 a)).run Tryd.prog w = .ok (.float .f64 (mlB 4611686018427387904 a)) w := fun t => run_float_arith w .mul t .f64 _ _ _ (mul_pp (by decide) a1 (by decide) a0)
  have h2 : ∀ t, (binOp .mul t (.float .f64 4611686018427387904) (.float .f64 b)).run Tryd.prog w = .ok (.float .f64 (mlB 4611686018427387904 b)) w := fun t => run_float_arith w .mul t .f64 _ _ _ (mul_pp (by decide) b1 (by decide) b0)
  have h3 : ∀ ts t, (Builtin.min_ ts t #[.float .f64 (mlB 4611686018427387904 a), .float .f64 b]).run Tryd.prog w = .ok (.float .f64 (min (mlB 4611686018427387904 a) b)) w := fun ts t => run_min_f w ts t fa b1
  have h4 : ∀ ts t, (Builtin.min_ ts t #[.float .f64 a, .float .f64 (mlB 4611686018427387904 b)]).run Tryd.prog w = .ok (.float .f64 (min a (mlB 4611686018427387904 b))) w := fun ts t => run_min_f w ts t a1 fb
  have h5 : ∀ ts t, (Builtin.max_ ts t #[.float .f64 (min (mlB 4611686018427387904 a) b), .float .f64 (min a (mlB 4611686018427387904 b))]).run Tryd.prog w = .ok (.float .f64 (sbee a b)) w := fun ts t => run_max_f w ts t (by omega) (by omega)
  generalize mlB 4611686018427387904 a = p at *
  generalize mlB 4611686018427387904 b = q at *
  generalize min p b = u at *
  generalize min a q = v at *
  generalize sbee a b = s at *
  clear a0 a1 b0 b1 fa fb ha hb
  go_enter Tryd.func62, Tryd.ntmps62
  go_wp2
  go_ret
  exact ⟨rfl, rfl⟩
set_option maxHeartbeats 1000000 in
theorem leer_at (a b : Nat) (w : World) (ha : ps a = true) (hb : ps b = true) : Calls Tryd.prog 63 #[.float .f64 a, .float .f64 b] w fun e w' => ∃ r, e = .returned (.float .f64 r) ∧ (∃ n, w' = w.drewN n) ∧ IsC r (lr a b) := by
  obtain ⟨a0, a1⟩ := ps_iff.1 ha
  obtain ⟨b0, b1⟩ := ps_iff.1 hb
  have fa := d2_facts a1
  have L := leer_nn a1 b1 a0 b0
  have h1 : ∀ t, (binOp .mul t (.float .f64 4611686018427387904) (.float .f64 a)).run Tryd.prog w = .ok (.float .f64 (mlB 4611686018427387904 a)) w := fun t => run_float_arith w .mul t .f64 _ _ _ (mul_pp (by decide) a1 (by decide) a0)
  have h2 : ∀ t, (binOp .mul t (.float .f64 (mlB 4611686018427387904 a)) (.float .f64 b)).run Tryd.prog w = .ok (.float .f64 (mlB (mlB 4611686018427387904 a) b)) w := fun t => run_float_arith w .mul t .f64 _ _ _ (mul_pp fa.1 b1 (by omega) b0)
  have h3 : ∀ t, (binOp .add t (.float .f64 a) (.float .f64 b)).run Tryd.prog w = .ok (.float .f64 (plB a b)) w := fun t => run_float_arith w .add t .f64 _ _ _ (add_pp a1 b1)
  obtain ⟨r, n, h4, hc⟩ := div_any (P := Tryd.prog) w (mlB (mlB 4611686018427387904 a) b) (plB a b)
  have hc : IsC r (leer a b) := hc
  obtain ⟨k1, k2⟩ := lr_le_of hc L
  have HL := lr_le a b
  by_cases c : leer a b < 9218868437227405312
  · have e : lr a b = leer a b := by unfold lr; rw [if_pos c]
    rw [decide_eq_true c] at k1
    have HC : Hid (IsC r (lr a b)) := by rw [e]; exact hc
    generalize mlB (mlB 4611686018427387904 a) b = q at *
    generalize mlB 4611686018427387904 a = p at *
    generalize plB a b = s at *
    clear e k2 c L fa a0 a1 b0 b1 ha hb HL
    clear hc
    go_enter Tryd.func63, Tryd.ntmps63
    go_wp2
    go_ret
    exact ⟨r, rfl, ⟨n, rfl⟩, HC.out⟩
  · have e : lr a b = 0 := by unfold lr; rw [if_neg c]
    rw [decide_eq_false c] at k1
    have HC : Hid (IsC 0 (lr a b)) := by rw [e]; exact ⟨by decide, by decide⟩
    generalize mlB (mlB 4611686018427387904 a) b = q at *
    generalize mlB 4611686018427387904 a = p at *
    generalize plB a b = s at *
    clear e k2 c L fa a0 a1 b0 b1 ha hb HL
    clear hc
    go_enter Tryd.func63, Tryd.ntmps63
    go_wp2
    go_ret
    exact ⟨0, rfl, ⟨n, rfl⟩, HC.out⟩
theorem run_store_func {P : Program} {w : World} {a : Addr} {m : Mode} (f : Fn) (x y : Array Value) : (store a (.func f x y) m).run P w = stored P w a (.func f x y) m := run_store P w a _ m rfl
attribute [local go_sem] run_store_func
set_option maxHeartbeats 1000000 in
theorem limiters_at (w : World) : Calls Tryd.prog 36 #[] w fun e w' => e = .returned (.agg #[.func (.func 60) #[] #[], .func (.func 61) #[] #[], .func (.func 62) #[] #[], .func (.func 63) #[] #[]]) ∧ Below w.heap.size w w' := by
  go_enter Tryd.func36, Tryd.ntmps36
  go_wp2
  refine bodyPost_ret ?_ rfl ⟨rfl, ?_⟩
  · exact results_cell_row Tryd.results36 _ _ w.heap.size _ _ (0, 0) _ rfl (heap_alloc_new w _) Tryd.underlying79 rfl (by kernel_rfl)
  · exact bl1 w _
set_option maxHeartbeats 1000000 in
theorem valid_at (k : Int) (w : World) : Calls Tryd.prog 35 #[.int .i64 k] w fun e w' => e = .returned (.bool (decide (0 ≤ k ∧ k ≤ 3))) ∧ Below w.heap.size w w' := by
  have L := hid (limiters_at w)
  by_cases c : 0 ≤ k
  · have e : decide (0 ≤ k ∧ k ≤ 3) = decide (k < 4) := by by_cases d : k < 4 <;> simp [d] <;> omega
    rw [e]
    clear e
    go_enter Tryd.func35, Tryd.ntmps35
    go_wp2_with fail
    refine L.out.mono ?_
    rintro e w1 ⟨rfl, b1⟩
    go_wp2
    go_ret
    exact ⟨rfl, b1⟩
  · have e : decide (0 ≤ k ∧ k ≤ 3) = false := decide_eq_false (by omega)
    rw [e]
    clear e
    go_enter Tryd.func35, Tryd.ntmps35
    go_wp2
    go_ret
    exact ⟨rfl, Below.refl _ _⟩
end Go.Proofs.YtjgbaenihkplpaaDoor

/-
  Slopes: walks over the program.
-/
namespace Go.Proofs.YtjgbaenihkplpaaDoor
open Go.RowKit Tf
attribute [local go_sem] run_bits run_from raw_feq raw_fne raw_flt raw_fgt run_neg
theorem canon_op2 {r x : Nat} (h : IsC r x) (hx : x ≤ 9218868437227405312) : canonB (negB r) = op x := by
  obtain ⟨h1, h2⟩ := h
  by_cases z : mg r = 0
  · have n : isN r = false := isN_false.2 (by omega)
    have e : x = 0 := by rw [← h2]; unfold canonB; rw [n, z]; rfl
    subst e
    have m : mg (negB r) = 0 := by rw [mg_negB]; exact z
    have n2 : isN (negB r) = false := isN_false.2 (by omega)
    unfold canonB
    rw [n2, m]
    rfl
  · have e : r = x := by
      unfold canonB at h2
      rw [if_neg z] at h2
      split at h2
      · rw [← h2] at hx; unfold quiet at hx; omega
      · exact h2
    subst e
    exact canon_op hx
theorem IsC.refl {x : Nat} (h : x ≤ 9218868437227405312) : IsC x x := ⟨by omega, canon_nn h⟩
/-- what a limiter says of two that are above nothing -/
def Lim (f : Nat) (k : Int) : Prop := ∀ a b w, ps a = true → ps b = true → Calls Tryd.prog f #[.float .f64 a, .float .f64 b] w fun e w' => ∃ r, e = .returned (.float .f64 r) ∧ (∃ n, w' = w.drewN n) ∧ IsC r (lm k a b)
theorem lim0 : Lim 60 0 := by
  intro a b w ha hb
  refine (plain_at a b w).mono ?_
  rintro e w' ⟨rfl, rfl⟩
  exact ⟨0, rfl, ⟨0, rfl⟩, IsC.refl (by decide)⟩
theorem lim1 : Lim 61 1 := by
  intro a b w ha hb
  have a1 := ps_iff.1 ha
  have b1 := ps_iff.1 hb
  refine (minmod_at a b w a1.2 b1.2).mono ?_
  rintro e w' ⟨rfl, rfl⟩
  exact ⟨_, rfl, ⟨0, rfl⟩, IsC.refl (lm_le 1 a1.2 b1.2)⟩
theorem lim2 : Lim 62 2 := by
  intro a b w ha hb
  have a1 := ps_iff.1 ha
  have b1 := ps_iff.1 hb
  refine (superbee_at a b w ha hb).mono ?_
  rintro e w' ⟨rfl, rfl⟩
  exact ⟨_, rfl, ⟨0, rfl⟩, IsC.refl (lm_le 2 a1.2 b1.2)⟩
theorem lim3 : Lim 63 3 := by
  intro a b w ha hb
  refine (leer_at a b w ha hb).mono ?_
  rintro e w' ⟨r, rfl, n, h⟩
  exact ⟨r, rfl, n, h⟩
set_option maxHeartbeats 2000000 in
theorem slope_p0 (a b : Nat) (w : World) (ha : a < 18446744073709551616) (hb : b < 18446744073709551616) (pa : ps a = true) (pb : ps b = true) : Calls Tryd.prog 18 #[.int .i64 0, .float .f64 a, .float .f64 b] w fun e w' => e = .returned (.float .f64 (lm 0 a b)) ∧ Below w.heap.size w w' := by
  have V := hid (valid_at 0 w)
  have L := hid limiters_at
  have IX : ∀ w : World, (Instr.index 79 (.agg #[.func (.func 60) #[] #[], .func (.func 61) #[] #[], .func (.func 62) #[] #[], .func (.func 63) #[] #[]]) (.int .i64 0)).run Tryd.prog w = .ok (.func (.func 60) #[] #[]) w := fun _ => by kernel_rfl
  have G := hid lim0
  have ga : fgt a 0 = true := by rw [fgt_ps ha]; exact pa
  have gb : fgt b 0 = true := by rw [fgt_ps hb]; exact pb
  have PA := hid pa
  have PB := hid pb
  clear pa pb ha hb
  go_enter Tryd.func18, Tryd.ntmps18
  go_wp2_with fail
  refine V.out.mono ?_
  rintro e w1 ⟨rfl, b1⟩
  have B1 := hid b1
  clear b1
  go_wp2_with fail
  refine (L.out _).mono ?_
  rintro e w2 ⟨rfl, b2⟩
  have B2 := hid b2
  clear b2
  go_wp2_with fail
  refine (G.out a b _ PA.out PB.out).mono ?_
  rintro e w3 ⟨r, rfl, ⟨n, rfl⟩, hr⟩
  have C := hid (canon_any r (w2.drewN n) hr.1)
  have HR := hid hr.2
  clear hr
  go_wp2_with fail
  refine C.out.mono ?_
  rintro e w4 ⟨rfl, rfl⟩
  go_wp2
  go_ret
  exact ⟨ret_flt HR.out, Ab.drewN (Ab.trans B1.out B2.out) n⟩
set_option maxHeartbeats 2000000 in
theorem slope_m0 (a b p q : Nat) (w : World) (ga : flt a 0 = true) (gb : flt b 0 = true) (ga2 : fgt a 0 = false) (na : Op.negFloat .f64 a = p) (nb : Op.negFloat .f64 b = q) (P : Hid (ps p = true)) (Q : Hid (ps q = true)) : Calls Tryd.prog 18 #[.int .i64 0, .float .f64 a, .float .f64 b] w fun e w' => e = .returned (.float .f64 (op (lm 0 p q))) ∧ Below w.heap.size w w' := by
  have V := hid (valid_at 0 w)
  have L := hid limiters_at
  have IX : ∀ w : World, (Instr.index 79 (.agg #[.func (.func 60) #[] #[], .func (.func 61) #[] #[], .func (.func 62) #[] #[], .func (.func 63) #[] #[]]) (.int .i64 0)).run Tryd.prog w = .ok (.func (.func 60) #[] #[]) w := fun _ => by kernel_rfl
  have G := hid lim0
  go_enter Tryd.func18, Tryd.ntmps18
  go_wp2_with fail
  refine V.out.mono ?_
  rintro e w1 ⟨rfl, b1⟩
  have B1 := hid b1
  clear b1
  go_wp2_with fail
  refine (L.out _).mono ?_
  rintro e w2 ⟨rfl, b2⟩
  have B2 := hid b2
  clear b2
  go_wp2_with fail
  refine (G.out p q _ P.out Q.out).mono ?_
  rintro e w3 ⟨r, rfl, ⟨n, rfl⟩, hr⟩
  have E : canonB (Op.negFloat .f64 r) = op (lm 0 p q) := by rw [negFloat_eq r hr.1]; exact canon_op2 hr (lm_le 0 (ps_iff.1 P.out).2 (ps_iff.1 Q.out).2)
  have C := canon_any (Op.negFloat .f64 r) (w2.drewN n) (by rw [negFloat_eq r hr.1]; exact negB_lt hr.1)
  rw [E] at C
  have C := hid C
  clear hr E
  go_wp2_with fail
  refine C.out.mono ?_
  rintro e w4 ⟨rfl, rfl⟩
  go_wp2
  go_ret
  exact ⟨rfl, Ab.drewN (Ab.trans B1.out B2.out) n⟩
theorem slope_n0 (a b : Nat) (w : World) (ha : a < 18446744073709551616) (hb : b < 18446744073709551616) (pa : ns a = true) (pb : ns b = true) : Calls Tryd.prog 18 #[.int .i64 0, .float .f64 a, .float .f64 b] w fun e w' => e = .returned (.float .f64 (op (lm 0 (a - 9223372036854775808) (b - 9223372036854775808)))) ∧ Below w.heap.size w w' := by
  have a1 := ns_iff.1 pa
  have b1 := ns_iff.1 pb
  exact slope_m0 a b _ _ w (by rw [flt_ns ha]; exact pa) (by rw [flt_ns hb]; exact pb) (by rw [fgt_ps ha]; exact ps_no.2 (by omega)) (by rw [negFloat_eq a ha, neg_ns a1.1]) (by rw [negFloat_eq b hb, neg_ns b1.1]) (ps_iff.2 ⟨by omega, by omega⟩) (ps_iff.2 ⟨by omega, by omega⟩)
set_option maxHeartbeats 2000000 in
theorem slope_z0 (a b : Nat) (w : World) (ha : a < 18446744073709551616) (hb : b < 18446744073709551616) (pa : (ps a && ps b) = false) (pb : (ns a && ns b) = false) : Calls Tryd.prog 18 #[.int .i64 0, .float .f64 a, .float .f64 b] w fun e w' => e = .returned (.float .f64 0) ∧ Below w.heap.size w w' := by
  have V := hid (valid_at 0 w)
  have L := hid limiters_at
  have IX : ∀ w : World, (Instr.index 79 (.agg #[.func (.func 60) #[] #[], .func (.func 61) #[] #[], .func (.func 62) #[] #[], .func (.func 63) #[] #[]]) (.int .i64 0)).run Tryd.prog w = .ok (.func (.func 60) #[] #[]) w := fun _ => by kernel_rfl
  rw [← fgt_ps ha, ← fgt_ps hb] at pa
  rw [← flt_ns ha, ← flt_ns hb] at pb
  clear ha hb
  cases g1 : fgt a 0 <;> cases g2 : flt a 0 <;> rw [g1] at pa <;> rw [g2] at pb <;> (try rw [Bool.true_and] at pa) <;> (try rw [Bool.true_and] at pb) <;> (
    go_enter Tryd.func18, Tryd.ntmps18
    go_wp2_with fail
    refine V.out.mono ?_
    rintro e w1 ⟨rfl, b1⟩
    have B1 := hid b1
    clear b1
    go_wp2_with fail
    refine (L.out _).mono ?_
    rintro e w2 ⟨rfl, b2⟩
    have B2 := hid b2
    clear b2
    go_wp2
    go_ret
    exact ⟨rfl, Ab.trans B1.out B2.out⟩)
set_option maxHeartbeats 2000000 in
theorem slope_p1 (a b : Nat) (w : World) (ha : a < 18446744073709551616) (hb : b < 18446744073709551616) (pa : ps a = true) (pb : ps b = true) : Calls Tryd.prog 18 #[.int .i64 1, .float .f64 a, .float .f64 b] w fun e w' => e = .returned (.float .f64 (lm 1 a b)) ∧ Below w.heap.size w w' := by
  have V := hid (valid_at 1 w)
  have L := hid limiters_at
  have IX : ∀ w : World, (Instr.index 79 (.agg #[.func (.func 60) #[] #[], .func (.func 61) #[] #[], .func (.func 62) #[] #[], .func (.func 63) #[] #[]]) (.int .i64 1)).run Tryd.prog w = .ok (.func (.func 61) #[] #[]) w := fun _ => by kernel_rfl
  have G := hid lim1
  have ga : fgt a 0 = true := by rw [fgt_ps ha]; exact pa
  have gb : fgt b 0 = true := by rw [fgt_ps hb]; exact pb
  have PA := hid pa
  have PB := hid pb
  clear pa pb ha hb
  go_enter Tryd.func18, Tryd.ntmps18
  go_wp2_with fail
  refine V.out.mono ?_
  rintro e w1 ⟨rfl, b1⟩
  have B1 := hid b1
  clear b1
  go_wp2_with fail
  refine (L.out _).mono ?_
  rintro e w2 ⟨rfl, b2⟩
  have B2 := hid b2
  clear b2
  go_wp2_with fail
  refine (G.out a b _ PA.out PB.out).mono ?_
  rintro e w3 ⟨r, rfl, ⟨n, rfl⟩, hr⟩
  have C := hid (canon_any r (w2.drewN n) hr.1)
  have HR := hid hr.2
  clear hr
  go_wp2_with fail
  refine C.out.mono ?_
  rintro e w4 ⟨rfl, rfl⟩
  go_wp2
  go_ret
  exact ⟨ret_flt HR.out, Ab.drewN (Ab.trans B1.out B2.out) n⟩
set_option maxHeartbeats 2000000 in
theorem slope_m1 (a b p q : Nat) (w : World) (ga : flt a 0 = true) (gb : flt b 0 = true) (ga2 : fgt a 0 = false) (na : Op.negFloat .f64 a = p) (nb : Op.negFloat .f64 b = q) (P : Hid (ps p = true)) (Q : Hid (ps q = true)) : Calls Tryd.prog 18 #[.int .i64 1, .float .f64 a, .float .f64 b] w fun e w' => e = .returned (.float .f64 (op (lm 1 p q))) ∧ Below w.heap.size w w' := by
  have V := hid (valid_at 1 w)
  have L := hid limiters_at
  have IX : ∀ w : World, (Instr.index 79 (.agg #[.func (.func 60) #[] #[], .func (.func 61) #[] #[], .func (.func 62) #[] #[], .func (.func 63) #[] #[]]) (.int .i64 1)).run Tryd.prog w = .ok (.func (.func 61) #[] #[]) w := fun _ => by kernel_rfl
  have G := hid lim1
  go_enter Tryd.func18, Tryd.ntmps18
  go_wp2_with fail
  refine V.out.mono ?_
  rintro e w1 ⟨rfl, b1⟩
  have B1 := hid b1
  clear b1
  go_wp2_with fail
  refine (L.out _).mono ?_
  rintro e w2 ⟨rfl, b2⟩
  have B2 := hid b2
  clear b2
  go_wp2_with fail
  refine (G.out p q _ P.out Q.out).mono ?_
  rintro e w3 ⟨r, rfl, ⟨n, rfl⟩, hr⟩
  have E : canonB (Op.negFloat .f64 r) = op (lm 1 p q) := by rw [negFloat_eq r hr.1]; exact canon_op2 hr (lm_le 1 (ps_iff.1 P.out).2 (ps_iff.1 Q.out).2)
  have C := canon_any (Op.negFloat .f64 r) (w2.drewN n) (by rw [negFloat_eq r hr.1]; exact negB_lt hr.1)
  rw [E] at C
  have C := hid C
  clear hr E
  go_wp2_with fail
  refine C.out.mono ?_
  rintro e w4 ⟨rfl, rfl⟩
  go_wp2
  go_ret
  exact ⟨rfl, Ab.drewN (Ab.trans B1.out B2.out) n⟩
theorem slope_n1 (a b : Nat) (w : World) (ha : a < 18446744073709551616) (hb : b < 18446744073709551616) (pa : ns a = true) (pb : ns b = true) : Calls Tryd.prog 18 #[.int .i64 1, .float .f64 a, .float .f64 b] w fun e w' => e = .returned (.float .f64 (op (lm 1 (a - 9223372036854775808) (b - 9223372036854775808)))) ∧ Below w.heap.size w w' := by
  have a1 := ns_iff.1 pa
  have b1 := ns_iff.1 pb
  exact slope_m1 a b _ _ w (by rw [flt_ns ha]; exact pa) (by rw [flt_ns hb]; exact pb) (by rw [fgt_ps ha]; exact ps_no.2 (by omega)) (by rw [negFloat_eq a ha, neg_ns a1.1]) (by rw [negFloat_eq b hb, neg_ns b1.1]) (ps_iff.2 ⟨by omega, by omega⟩) (ps_iff.2 ⟨by omega, by omega⟩)
set_option maxHeartbeats 2000000 in
theorem slope_z1 (a b : Nat) (w : World) (ha : a < 18446744073709551616) (hb : b < 18446744073709551616) (pa : (ps a && ps b) = false) (pb : (ns a && ns b) = false) : Calls Tryd.prog 18 #[.int .i64 1, .float .f64 a, .float .f64 b] w fun e w' => e = .returned (.float .f64 0) ∧ Below w.heap.size w w' := by
  have V := hid (valid_at 1 w)
  have L := hid limiters_at
  have IX : ∀ w : World, (Instr.index 79 (.agg #[.func (.func 60) #[] #[], .func (.func 61) #[] #[], .func (.func 62) #[] #[], .func (.func 63) #[] #[]]) (.int .i64 1)).run Tryd.prog w = .ok (.func (.func 61) #[] #[]) w := fun _ => by kernel_rfl
  rw [← fgt_ps ha, ← fgt_ps hb] at pa
  rw [← flt_ns ha, ← flt_ns hb] at pb
  clear ha hb
  cases g1 : fgt a 0 <;> cases g2 : flt a 0 <;> rw [g1] at pa <;> rw [g2] at pb <;> (try rw [Bool.true_and] at pa) <;> (try rw [Bool.true_and] at pb) <;> (
    go_enter Tryd.func18, Tryd.ntmps18
    go_wp2_with fail
    refine V.out.mono ?_
    rintro e w1 ⟨rfl, b1⟩
    have B1 := hid b1
    clear b1
    go_wp2_with fail
    refine (L.out _).mono ?_
    rintro e w2 ⟨rfl, b2⟩
    have B2 := hid b2
    clear b2
    go_wp2
    go_ret
    exact ⟨rfl, Ab.trans B1.out B2.out⟩)
set_option maxHeartbeats 2000000 in
theorem slope_p2 (a b : Nat) (w : World) (ha : a < 18446744073709551616) (hb : b < 18446744073709551616) (pa : ps a = true) (pb : ps b = true) : Calls Tryd.prog 18 #[.int .i64 2, .float .f64 a, .float .f64 b] w fun e w' => e = .returned (.float .f64 (lm 2 a b)) ∧ Below w.heap.size w w' := by
  have V := hid (valid_at 2 w)
  have L := hid limiters_at
  have IX : ∀ w : World, (Instr.index 79 (.agg #[.func (.func 60) #[] #[], .func (.func 61) #[] #[], .func (.func 62) #[] #[], .func (.func 63) #[] #[]]) (.int .i64 2)).run Tryd.prog w = .ok (.func (.func 62) #[] #[]) w := fun _ => by kernel_rfl
  have G := hid lim2
  have ga : fgt a 0 = true := by rw [fgt_ps ha]; exact pa
  have gb : fgt b 0 = true := by rw [fgt_ps hb]; exact pb
  have PA := hid pa
  have PB := hid pb
  clear pa pb ha hb
  go_enter Tryd.func18, Tryd.ntmps18
  go_wp2_with fail
  refine V.out.mono ?_
  rintro e w1 ⟨rfl, b1⟩
  have B1 := hid b1
  clear b1
  go_wp2_with fail
  refine (L.out _).mono ?_
  rintro e w2 ⟨rfl, b2⟩
  have B2 := hid b2
  clear b2
  go_wp2_with fail
  refine (G.out a b _ PA.out PB.out).mono ?_
  rintro e w3 ⟨r, rfl, ⟨n, rfl⟩, hr⟩
  have C := hid (canon_any r (w2.drewN n) hr.1)
  have HR := hid hr.2
  clear hr
  go_wp2_with fail
  refine C.out.mono ?_
  rintro e w4 ⟨rfl, rfl⟩
  go_wp2
  go_ret
  exact ⟨ret_flt HR.out, Ab.drewN (Ab.trans B1.out B2.out) n⟩
set_option maxHeartbeats 2000000 in
theorem slope_m2 (a b p q : Nat) (w : World) (ga : flt a 0 = true) (gb : flt b 0 = true) (ga2 : fgt a 0 = false) (na : Op.negFloat .f64 a = p) (nb : Op.negFloat .f64 b = q) (P : Hid (ps p = true)) (Q : Hid (ps q = true)) : Calls Tryd.prog 18 #[.int .i64 2, .float .f64 a, .float .f64 b] w fun e w' => e = .returned (.float .f64 (op (lm 2 p q))) ∧ Below w.heap.size w w' := by
  have V := hid (valid_at 2 w)
  have L := hid limiters_at
  have IX : ∀ w : World, (Instr.index 79 (.agg #[.func (.func 60) #[] #[], .func (.func 61) #[] #[], .func (.func 62) #[] #[], .func (.func 63) #[] #[]]) (.int .i64 2)).run Tryd.prog w = .ok (.func (.func 62) #[] #[]) w := fun _ => by kernel_rfl
  have G := hid lim2
  go_enter Tryd.func18, Tryd.ntmps18
  go_wp2_with fail
  refine V.out.mono ?_
  rintro e w1 ⟨rfl, b1⟩
  have B1 := hid b1
  clear b1
  go_wp2_with fail
  refine (L.out _).mono ?_
  rintro e w2 ⟨rfl, b2⟩
  have B2 := hid b2
  clear b2
  go_wp2_with fail
  refine (G.out p q _ P.out Q.out).mono ?_
  rintro e w3 ⟨r, rfl, ⟨n, rfl⟩, hr⟩
  have E : canonB (Op.negFloat .f64 r) = op (lm 2 p q) := by rw [negFloat_eq r hr.1]; exact canon_op2 hr (lm_le 2 (ps_iff.1 P.out).2 (ps_iff.1 Q.out).2)
  have C := canon_any (Op.negFloat .f64 r) (w2.drewN n) (by rw [negFloat_eq r hr.1]; exact negB_lt hr.1)
  rw [E] at C
  have C := hid C
  clear hr E
  go_wp2_with fail
  refine C.out.mono ?_
  rintro e w4 ⟨rfl, rfl⟩
  go_wp2
  go_ret
  exact ⟨rfl, Ab.drewN (Ab.trans B1.out B2.out) n⟩
theorem slope_n2 (a b : Nat) (w : World) (ha : a < 18446744073709551616) (hb : b < 18446744073709551616) (pa : ns a = true) (pb : ns b = true) : Calls Tryd.prog 18 #[.int .i64 2, .float .f64 a, .float .f64 b] w fun e w' => e = .returned (.float .f64 (op (lm 2 (a - 9223372036854775808) (b - 9223372036854775808)))) ∧ Below w.heap.size w w' := by
  have a1 := ns_iff.1 pa
  have b1 := ns_iff.1 pb
  exact slope_m2 a b _ _ w (by rw [flt_ns ha]; exact pa) (by rw [flt_ns hb]; exact pb) (by rw [fgt_ps ha]; exact ps_no.2 (by omega)) (by rw [negFloat_eq a ha, neg_ns a1.1]) (by rw [negFloat_eq b hb, neg_ns b1.1]) (ps_iff.2 ⟨by omega, by omega⟩) (ps_iff.2 ⟨by omega, by omega⟩)
set_option maxHeartbeats 2000000 in
theorem slope_z2 (a b : Nat) (w : World) (ha : a < 18446744073709551616) (hb : b < 18446744073709551616) (pa : (ps a && ps b) = false) (pb : (ns a && ns b) = false) : Calls Tryd.prog 18 #[.int .i64 2, .float .f64 a, .float .f64 b] w fun e w' => e = .returned (.float .f64 0) ∧ Below w.heap.size w w' := by
  have V := hid (valid_at 2 w)
  have L := hid limiters_at
  have IX : ∀ w : World, (Instr.index 79 (.agg #[.func (.func 60) #[] #[], .func (.func 61) #[] #[], .func (.func 62) #[] #[], .func (.func 63) #[] #[]]) (.int .i64 2)).run Tryd.prog w = .ok (.func (.func 62) #[] #[]) w := fun _ => by kernel_rfl
  rw [← fgt_ps ha, ← fgt_ps hb] at pa
  rw [← flt_ns ha, ← flt_ns hb] at pb
  clear ha hb
  cases g1 : fgt a 0 <;> cases g2 : flt a 0 <;> rw [g1] at pa <;> rw [g2] at pb <;> (try rw [Bool.true_and] at pa) <;> (try rw [Bool.true_and] at pb) <;> (
    go_enter Tryd.func18, Tryd.ntmps18
    go_wp2_with fail
    refine V.out.mono ?_
    rintro e w1 ⟨rfl, b1⟩
    have B1 := hid b1
    clear b1
    go_wp2_with fail
    refine (L.out _).mono ?_
    rintro e w2 ⟨rfl, b2⟩
    have B2 := hid b2
    clear b2
    go_wp2
    go_ret
    exact ⟨rfl, Ab.trans B1.out B2.out⟩)
set_option maxHeartbeats 2000000 in
theorem slope_p3 (a b : Nat) (w : World) (ha : a < 18446744073709551616) (hb : b < 18446744073709551616) (pa : ps a = true) (pb : ps b = true) : Calls Tryd.prog 18 #[.int .i64 3, .float .f64 a, .float .f64 b] w fun e w' => e = .returned (.float .f64 (lm 3 a b)) ∧ Below w.heap.size w w' := by
  have V := hid (valid_at 3 w)
  have L := hid limiters_at
  have IX : ∀ w : World, (Instr.index 79 (.agg #[.func (.func 60) #[] #[], .func (.func 61) #[] #[], .func (.func 62) #[] #[], .func (.func 63) #[] #[]]) (.int .i64 3)).run Tryd.prog w = .ok (.func (.func 63) #[] #[]) w := fun _ => by kernel_rfl
  have G := hid lim3
  have ga : fgt a 0 = true := by rw [fgt_ps ha]; exact pa
  have gb : fgt b 0 = true := by rw [fgt_ps hb]; exact pb
  have PA := hid pa
  have PB := hid pb
  clear pa pb ha hb
  go_enter Tryd.func18, Tryd.ntmps18
  go_wp2_with fail
  refine V.out.mono ?_
  rintro e w1 ⟨rfl, b1⟩
  have B1 := hid b1
  clear b1
  go_wp2_with fail
  refine (L.out _).mono ?_
  rintro e w2 ⟨rfl, b2⟩
  have B2 := hid b2
  clear b2
  go_wp2_with fail
  refine (G.out a b _ PA.out PB.out).mono ?_
  rintro e w3 ⟨r, rfl, ⟨n, rfl⟩, hr⟩
  have C := hid (canon_any r (w2.drewN n) hr.1)
  have HR := hid hr.2
  clear hr
  go_wp2_with fail
  refine C.out.mono ?_
  rintro e w4 ⟨rfl, rfl⟩
  go_wp2
  go_ret
  exact ⟨ret_flt HR.out, Ab.drewN (Ab.trans B1.out B2.out) n⟩
set_option maxHeartbeats 2000000 in
theorem slope_m3 (a b p q : Nat) (w : World) (ga : flt a 0 = true) (gb : flt b 0 = true) (ga2 : fgt a 0 = false) (na : Op.negFloat .f64 a = p) (nb : Op.negFloat .f64 b = q) (P : Hid (ps p = true)) (Q : Hid (ps q = true)) : Calls Tryd.prog 18 #[.int .i64 3, .float .f64 a, .float .f64 b] w fun e w' => e = .returned (.float .f64 (op (lm 3 p q))) ∧ Below w.heap.size w w' := by
  have V := hid (valid_at 3 w)
  have L := hid limiters_at
  have IX : ∀ w : World, (Instr.index 79 (.agg #[.func (.func 60) #[] #[], .func (.func 61) #[] #[], .func (.func 62) #[] #[], .func (.func 63) #[] #[]]) (.int .i64 3)).run Tryd.prog w = .ok (.func (.func 63) #[] #[]) w := fun _ => by kernel_rfl
  have G := hid lim3
  go_enter Tryd.func18, Tryd.ntmps18
  go_wp2_with fail
  refine V.out.mono ?_
  rintro e w1 ⟨rfl, b1⟩
  have B1 := hid b1
  clear b1
  go_wp2_with fail
  refine (L.out _).mono ?_
  rintro e w2 ⟨rfl, b2⟩
  have B2 := hid b2
  clear b2
  go_wp2_with fail
  refine (G.out p q _ P.out Q.out).mono ?_
  rintro e w3 ⟨r, rfl, ⟨n, rfl⟩, hr⟩
  have E : canonB (Op.negFloat .f64 r) = op (lm 3 p q) := by rw [negFloat_eq r hr.1]; exact canon_op2 hr (lm_le 3 (ps_iff.1 P.out).2 (ps_iff.1 Q.out).2)
  have C := canon_any (Op.negFloat .f64 r) (w2.drewN n) (by rw [negFloat_eq r hr.1]; exact negB_lt hr.1)
  rw [E] at C
  have C := hid C
  clear hr E
  go_wp2_with fail
  refine C.out.mono ?_
  rintro e w4 ⟨rfl, rfl⟩
  go_wp2
  go_ret
  exact ⟨rfl, Ab.drewN (Ab.trans B1.out B2.out) n⟩
theorem slope_n3 (a b : Nat) (w : World) (ha : a < 18446744073709551616) (hb : b < 18446744073709551616) (pa : ns a = true) (pb : ns b = true) : Calls Tryd.prog 18 #[.int .i64 3, .float .f64 a, .float .f64 b] w fun e w' => e = .returned (.float .f64 (op (lm 3 (a - 9223372036854775808) (b - 9223372036854775808)))) ∧ Below w.heap.size w w' := by
  have a1 := ns_iff.1 pa
  have b1 := ns_iff.1 pb
  exact slope_m3 a b _ _ w (by rw [flt_ns ha]; exact pa) (by rw [flt_ns hb]; exact pb) (by rw [fgt_ps ha]; exact ps_no.2 (by omega)) (by rw [negFloat_eq a ha, neg_ns a1.1]) (by rw [negFloat_eq b hb, neg_ns b1.1]) (ps_iff.2 ⟨by omega, by omega⟩) (ps_iff.2 ⟨by omega, by omega⟩)
set_option maxHeartbeats 2000000 in
theorem slope_z3 (a b : Nat) (w : World) (ha : a < 18446744073709551616) (hb : b < 18446744073709551616) (pa : (ps a && ps b) = false) (pb : (ns a && ns b) = false) : Calls Tryd.prog 18 #[.int .i64 3, .float .f64 a, .float .f64 b] w fun e w' => e = .returned (.float .f64 0) ∧ Below w.heap.size w w' := by
  have V := hid (valid_at 3 w)
  have L := hid limiters_at
  have IX : ∀ w : World, (Instr.index 79 (.agg #[.func (.func 60) #[] #[], .func (.func 61) #[] #[], .func (.func 62) #[] #[], .func (.func 63) #[] #[]]) (.int .i64 3)).run Tryd.prog w = .ok (.func (.func 63) #[] #[]) w := fun _ => by kernel_rfl
  rw [← fgt_ps ha, ← fgt_ps hb] at pa
  rw [← flt_ns ha, ← flt_ns hb] at pb
  clear ha hb
  cases g1 : fgt a 0 <;> cases g2 : flt a 0 <;> rw [g1] at pa <;> rw [g2] at pb <;> (try rw [Bool.true_and] at pa) <;> (try rw [Bool.true_and] at pb) <;> (
    go_enter Tryd.func18, Tryd.ntmps18
    go_wp2_with fail
    refine V.out.mono ?_
    rintro e w1 ⟨rfl, b1⟩
    have B1 := hid b1
    clear b1
    go_wp2_with fail
    refine (L.out _).mono ?_
    rintro e w2 ⟨rfl, b2⟩
    have B2 := hid b2
    clear b2
    go_wp2
    go_ret
    exact ⟨rfl, Ab.trans B1.out B2.out⟩)
set_option maxHeartbeats 2000000 in
theorem slope_i (k : Int) (a b : Nat) (w : World) (hk : decide (0 ≤ k ∧ k ≤ 3) = false) : Calls Tryd.prog 18 #[.int .i64 k, .float .f64 a, .float .f64 b] w fun e w' => e = .returned (.float .f64 0) ∧ Below w.heap.size w w' := by
  have V := valid_at k w
  rw [hk] at V
  have V := hid V
  clear hk
  go_enter Tryd.func18, Tryd.ntmps18
  go_wp2_with fail
  refine V.out.mono ?_
  rintro e w1 ⟨rfl, b1⟩
  have B1 := hid b1
  clear b1
  go_wp2
  go_ret
  exact ⟨rfl, B1.out⟩
theorem slope_at (k : Int) (a b : Nat) (w : World) (ha : a < 18446744073709551616) (hb : b < 18446744073709551616) : Calls Tryd.prog 18 #[.int .i64 k, .float .f64 a, .float .f64 b] w fun e w' => e = .returned (.float .f64 (slp k a b)) ∧ Below w.heap.size w w' := by
  by_cases hk : 0 ≤ k ∧ k ≤ 3
  · have hk : k = 0 ∨ k = 1 ∨ k = 2 ∨ k = 3 := by omega
    unfold slp
    cases p : (ps a && ps b)
    · cases n : (ns a && ns b)
      · rw [if_neg (by decide), if_neg (by decide)]
        rcases hk with rfl | rfl | rfl | rfl
        · exact slope_z0 a b w ha hb p n
        · exact slope_z1 a b w ha hb p n
        · exact slope_z2 a b w ha hb p n
        · exact slope_z3 a b w ha hb p n
      · rw [if_neg (by decide), if_pos rfl]
        rw [Bool.and_eq_true] at n
        rcases hk with rfl | rfl | rfl | rfl
        · exact slope_n0 a b w ha hb n.1 n.2
        · exact slope_n1 a b w ha hb n.1 n.2
        · exact slope_n2 a b w ha hb n.1 n.2
        · exact slope_n3 a b w ha hb n.1 n.2
    · rw [if_pos rfl]
      rw [Bool.and_eq_true] at p
      rcases hk with rfl | rfl | rfl | rfl
      · exact slope_p0 a b w ha hb p.1 p.2
      · exact slope_p1 a b w ha hb p.1 p.2
      · exact slope_p2 a b w ha hb p.1 p.2
      · exact slope_p3 a b w ha hb p.1 p.2
  · have e : slp k a b = 0 := by
      have h : ∀ x y, lm k x y = 0 := fun x y => by
        unfold lm
        rw [if_neg (by omega), if_neg (by omega), if_neg (by omega)]
      unfold slp op
      rw [h, h]
      simp
    rw [e]
    exact slope_i k a b w (decide_eq_false hk)
end Go.Proofs.YtjgbaenihkplpaaDoor

/-
  Over a flat bed: the walk, of whatever program keeps to the depth over an edge.
-/
namespace Go.Proofs.YtjgbaenihkplpaaDoor
open Go.RowKit Tf Cu Go.Deep
attribute [local go_sem] run_bits run_from raw_feq raw_fne raw_flt raw_fgt run_neg run_store_float
theorem two_of (W : World) (A B : Obj) : ((W.alloc A).alloc B).heap[W.heap.size]? = some A ∧ ((W.alloc A).alloc B).heap[W.heap.size + 1]? = some B := ⟨heap_alloc2_old _ _ _, heap_alloc2_new _ _ _⟩
theorem two_ab {w W : World} (h : Ab w W) (A B : Obj) : Ab w ((W.alloc A).alloc B).drew := ((h.alloc A).alloc B).drew
set_option maxRecDepth 100000 in
set_option maxHeartbeats 4000000 in
theorem flat12_no (side lim : Int) (pb pw pt ps : Option Addr) (lb cb lw cw lt ct ls cs : Nat) (sky st : Int) (e : Int) (w : World)
    (AWK : Hid (∀ v, Ab w v → Calls Tryd.prog 7 #[] v fun e w' => e = .returned (.bool true) ∧ Below v.heap.size v w'))
    (NT : Hid (∀ v, Ab w v → Calls Tryd.prog 8 #[.agg #[.int .i64 side, .int .i64 lim, .slice pb lb cb, .slice pw lw cw, .slice pt lt ct, .slice ps ls cs, .int .i64 sky, .int .i64 st]] v fun e' w' => ∃ gp, e' = .returned (.tuple #[gp, .bool false]) ∧ Below v.heap.size v w')) :
    Calls Tryd.prog 5 #[.agg #[.int .i64 side, .int .i64 lim, .slice pb lb cb, .slice pw lw cw, .slice pt lt ct, .slice ps ls cs, .int .i64 sky, .int .i64 st], .int .i64 e] w fun e w' => e = .returned (.bool true) ∧ Below w.heap.size w w' := by
  have A0 : Hid (Ab w (w.alloc (.cells #[.int .i64 side, .int .i64 lim, .slice pb lb cb, .slice pw lw cw, .slice pt lt ct, .slice ps ls cs, .int .i64 sky, .int .i64 st] 27))) := bl1 _ _
  have RO0 : Hid ((w.alloc (.cells #[.int .i64 side, .int .i64 lim, .slice pb lb cb, .slice pw lw cw, .slice pt lt ct, .slice ps ls cs, .int .i64 sky, .int .i64 st] 27)).heap[w.heap.size]? = some (.cells #[.int .i64 side, .int .i64 lim, .slice pb lb cb, .slice pw lw cw, .slice pt lt ct, .slice ps ls cs, .int .i64 sky, .int .i64 st] 27)) := heap_alloc_new _ _
  go_enter Tryd.func5, Tryd.ntmps5
  go_wp2_with fail
  refine (AWK.out _ A0.out).mono ?_
  rintro e9 v1 ⟨rfl, k1⟩
  have A1 : Hid (Ab w v1) := A0.out.call k1
  have RO1 : Hid (v1.heap[w.heap.size]? = some (.cells #[.int .i64 side, .int .i64 lim, .slice pb lb cb, .slice pw lw cw, .slice pt lt ct, .slice ps ls cs, .int .i64 sky, .int .i64 st] 27)) := Ab.heap k1 RO0.out
  clear k1 RO0 A0
  have c0 := cell_of_row _ _ 0 _ _ _ (RO1.out)
  have c1 := cell_of_row _ _ 1 _ _ _ (RO1.out)
  have c2 := cell_of_row _ _ 2 _ _ _ (RO1.out)
  have c3 := cell_of_row _ _ 3 _ _ _ (RO1.out)
  have c4 := cell_of_row _ _ 4 _ _ _ (RO1.out)
  have c5 := cell_of_row _ _ 5 _ _ _ (RO1.out)
  have c6 := cell_of_row _ _ 6 _ _ _ (RO1.out)
  have c7 := cell_of_row _ _ 7 _ _ _ (RO1.out)
  go_wp2_with fail
  refine (NT.out _ A1.out).mono ?_
  rintro e9 v2 ⟨gp, rfl, k2⟩
  have A2 : Hid (Ab w v2) := A1.out.call k2
  clear k2
  clear c0 c1 c2 c3 c4 c5 c6 c7
  go_wp2
  go_ret
  exact ⟨rfl, A2.out⟩
set_option maxRecDepth 100000 in
set_option maxHeartbeats 16000000 in
theorem flat12_go (side lim : Int) (bb bo wb wo M : Nat) (pt ps : Option Addr) (cb cw lt ct ls cs : Nat) (sky st : Int) (e : Int) (n N E L S R Q p q : Nat) (Wt : Nat → Int) (aU aK aD : Int) (h hk hd hf d : Nat) (p1 p2 p3 p4 : Bool) (w : World) (hM : M ≤ 6144)
    (AWK : Hid (∀ v, Ab w v → Calls Tryd.prog 7 #[] v fun e w' => e = .returned (.bool true) ∧ Below v.heap.size v w'))
    (NT : Hid (∀ v, Ab w v → Calls Tryd.prog 8 #[.agg #[.int .i64 side, .int .i64 lim, .slice (some ⟨bb, bo, none⟩) M cb, .slice (some ⟨wb, wo, none⟩) M cw, .slice pt lt ct, .slice ps ls cs, .int .i64 sky, .int .i64 st]] v fun e' w' => ∃ gb, e' = .returned (.tuple #[.pointer (some ⟨gb, 0, none⟩), .bool true]) ∧ Below v.heap.size v w' ∧ GridOf n gb w'))
    (CC : Hid (∀ gb v, GridOf n gb v → Calls Tryd.prog 21 #[.pointer (some ⟨gb, 0, none⟩)] v fun e w' => e = .returned (.int .i64 (M : Nat)) ∧ w' = v))
    (CE : Hid (∀ gb v, GridOf n gb v → Calls Tryd.prog 10 #[.pointer (some ⟨gb, 0, none⟩)] v fun e w' => e = .returned (.int .i64 (N : Nat)) ∧ Below v.heap.size v w'))
    (CW : Hid (∀ v : World, Calls Tryd.prog 9 #[.int .i64 e, .int .i64 (N : Nat)] v fun e w' => e = .returned (.int .i64 (E : Nat)) ∧ Below v.heap.size v w'))
    (CX : Hid (∀ gb v, GridOf n gb v → Calls Tryd.prog 14 #[.pointer (some ⟨gb, 0, none⟩), .int .i64 (E : Nat)] v fun e w' => e = .returned (.tuple #[.agg #[.int .i64 (L : Nat), .int .i64 (S : Nat), .int .i64 (R : Nat), .int .i64 (Q : Nat)], .bool true]) ∧ Below v.heap.size v w'))
    (CB : Hid (∀ gb v, GridOf n gb v → Calls Tryd.prog 15 #[.pointer (some ⟨gb, 0, none⟩), .int .i64 (E : Nat)] v fun e w' => e = .returned (.tuple #[.int .i64 (p : Nat), .int .i64 (q : Nat), .bool true]) ∧ Below v.heap.size v w'))
    (JU : Hid (L < M)) (JD : Hid (R < M)) (JK : Hid (p < M))
    (FA : Hid (∀ c, c < M → ∀ v, Ab w v → v.cell? ⟨wb, wo + c, none⟩ = some (.int .i64 (Wt c))))
    (AU : Hid (∀ gb v, GridOf n gb v → Calls Tryd.prog 17 #[.pointer (some ⟨gb, 0, none⟩), .int .i64 (L : Nat)] v fun e w' => e = .returned (.int .i64 aU) ∧ Below v.heap.size v w'))
    (AK : Hid (∀ gb v, GridOf n gb v → Calls Tryd.prog 17 #[.pointer (some ⟨gb, 0, none⟩), .int .i64 (p : Nat)] v fun e w' => e = .returned (.int .i64 aK) ∧ Below v.heap.size v w'))
    (AD : Hid (∀ gb v, GridOf n gb v → Calls Tryd.prog 17 #[.pointer (some ⟨gb, 0, none⟩), .int .i64 (R : Nat)] v fun e w' => e = .returned (.int .i64 aD) ∧ Below v.heap.size v w'))
    (DU : Hid (∀ v : World, Calls Tryd.prog 16 #[.int .i64 (Wt L), .int .i64 aU] v fun e w' => e = .returned (.float .f64 h) ∧ Below v.heap.size v w'))
    (DK : Hid (∀ v : World, Calls Tryd.prog 16 #[.int .i64 (Wt p), .int .i64 aK] v fun e w' => e = .returned (.float .f64 hk) ∧ Below v.heap.size v w'))
    (DD : Hid (∀ v : World, Calls Tryd.prog 16 #[.int .i64 (Wt R), .int .i64 aD] v fun e w' => e = .returned (.float .f64 hd) ∧ Below v.heap.size v w'))
    (CD : Hid (∀ b1 gb v, GridOf n gb v → Ab w v → v.rowIs b1 28 M (fun _ => .float .f64 0) → Calls Tryd.prog 11 #[.pointer (some ⟨gb, 0, none⟩), .int .i64 lim, .agg #[.slice (some ⟨b1, 0, none⟩) M M, .slice (some ⟨wb, wo, none⟩) M cw, .slice none 0 0, .slice none 0 0, .int .i64 0, .int .i64 0], .int .i64 (E : Nat), .float .f64 4607182418800017408] v fun e w' => e = .returned (.float .f64 d) ∧ Below v.heap.size v w'))
    (CP : Hid (∀ b1 gb v, GridOf n gb v → Ab w v → v.rowIs b1 28 M (fun _ => .float .f64 0) → Calls Tryd.prog 11 #[.pointer (some ⟨gb, 0, none⟩), .int .i64 0, .agg #[.slice (some ⟨b1, 0, none⟩) M M, .slice (some ⟨wb, wo, none⟩) M cw, .slice none 0 0, .slice none 0 0, .int .i64 0, .int .i64 0], .int .i64 (E : Nat), .float .f64 4607182418800017408] v fun e w' => e = .returned (.float .f64 h) ∧ Below v.heap.size v w'))
    (q1 : (fgt h hk || feq h hk) = p1) (q2 : (fgt h hd || feq h hd) = p2) (q3 : (flt h hk || feq h hk) = p3) (q4 : (flt h hd || feq h hd) = p4)
    (hle : (flt d h || feq d h) = true) (hm : (∀ (t : TypeId) (w : World), (binOp .mul t (.float .f64 4602678819172646912) (.float .f64 h)).run Tryd.prog w = .ok (.float .f64 hf) w))
    (HH : Hid (lim = 1 → (fgt d hf || feq d hf) = true)) (HT : Hid ((p1 && p2 || p3 && p4) = true → d = h)) :
    Calls Tryd.prog 5 #[.agg #[.int .i64 side, .int .i64 lim, .slice (some ⟨bb, bo, none⟩) M cb, .slice (some ⟨wb, wo, none⟩) M cw, .slice pt lt ct, .slice ps ls cs, .int .i64 sky, .int .i64 st], .int .i64 e] w fun e w' => e = .returned (.bool true) ∧ Below w.heap.size w w' := by
  have SS : Hid (∀ (x : Nat) (v : World), Calls Tryd.prog 13 #[.float .f64 x, .float .f64 x] v fun e w' => e = .returned (.bool true) ∧ w' = v) := fun x v => by
    have h := rawSame_any x x v
    rwa [show sameB x x = true by unfold sameB; exact decide_eq_true rfl] at h
  have HM := hid hM
  clear hM
  have A0 : Hid (Ab w (w.alloc (.cells #[.int .i64 side, .int .i64 lim, .slice (some ⟨bb, bo, none⟩) M cb, .slice (some ⟨wb, wo, none⟩) M cw, .slice pt lt ct, .slice ps ls cs, .int .i64 sky, .int .i64 st] 27))) := bl1 _ _
  have RO0 : Hid ((w.alloc (.cells #[.int .i64 side, .int .i64 lim, .slice (some ⟨bb, bo, none⟩) M cb, .slice (some ⟨wb, wo, none⟩) M cw, .slice pt lt ct, .slice ps ls cs, .int .i64 sky, .int .i64 st] 27)).heap[w.heap.size]? = some (.cells #[.int .i64 side, .int .i64 lim, .slice (some ⟨bb, bo, none⟩) M cb, .slice (some ⟨wb, wo, none⟩) M cw, .slice pt lt ct, .slice ps ls cs, .int .i64 sky, .int .i64 st] 27)) := heap_alloc_new _ _
  go_enter Tryd.func5, Tryd.ntmps5
  go_wp2_with fail
  refine (AWK.out _ A0.out).mono ?_
  rintro e9 v1 ⟨rfl, k1⟩
  have A1 : Hid (Ab w v1) := A0.out.call k1
  have RO1 : Hid (v1.heap[w.heap.size]? = some (.cells #[.int .i64 side, .int .i64 lim, .slice (some ⟨bb, bo, none⟩) M cb, .slice (some ⟨wb, wo, none⟩) M cw, .slice pt lt ct, .slice ps ls cs, .int .i64 sky, .int .i64 st] 27)) := Ab.heap k1 RO0.out
  clear k1 RO0 A0
  have c0 := cell_of_row _ _ 0 _ _ _ (RO1.out)
  have c1 := cell_of_row _ _ 1 _ _ _ (RO1.out)
  have c2 := cell_of_row _ _ 2 _ _ _ (RO1.out)
  have c3 := cell_of_row _ _ 3 _ _ _ (RO1.out)
  have c4 := cell_of_row _ _ 4 _ _ _ (RO1.out)
  have c5 := cell_of_row _ _ 5 _ _ _ (RO1.out)
  have c6 := cell_of_row _ _ 6 _ _ _ (RO1.out)
  have c7 := cell_of_row _ _ 7 _ _ _ (RO1.out)
  go_wp2_with fail
  refine (NT.out _ A1.out).mono ?_
  rintro e9 W ⟨gb, rfl, k2, g2⟩
  have AW : Hid (Ab w W) := A1.out.call k2
  have RO : Hid (W.heap[w.heap.size]? = some (.cells #[.int .i64 side, .int .i64 lim, .slice (some ⟨bb, bo, none⟩) M cb, .slice (some ⟨wb, wo, none⟩) M cw, .slice pt lt ct, .slice ps ls cs, .int .i64 sky, .int .i64 st] 27)) := Ab.heap k2 RO1.out
  have GG := hid g2
  clear k2 g2 RO1 A1
  clear c0 c1 c2 c3 c4 c5 c6 c7
  have M1 : ∀ v : World, (Instr.makeSlice 22 (.int .i64 (M : Nat)) (.int .i64 (M : Nat))).run Tryd.prog v = .ok (.slice (some ⟨v.heap.size, 0, none⟩) M M) (v.alloc (Obj.cells (madeCells #[.float .f64 0] M) 28)) := fun v =>
    run_make_row' (P := Tryd.prog) 22 28 (.float .f64 0) 8 Tryd.underlying22 infoF64 rfl .i64 .i64 M (by have := HM.out; omega) (by have := HM.out; omega) v
  have CC0 : Hid (∀ v, Ab W v → Calls Tryd.prog 21 #[.pointer (some ⟨gb, 0, none⟩)] v fun e w' => e = .returned (.int .i64 (M : Nat)) ∧ w' = v) := fun v hv => CC.out gb v (GG.out.to hv)
  have c3 := cell_of_row _ _ 3 _ _ _ (RO.out)
  have lw0 : w.heap.size < W.heap.size := lt_of_block RO.out
  have lw1 : w.heap.size < W.heap.size + 1 := by omega
  go_upto_region 6 with fail
  go_cut [7] from 29 to 35 (fun s7 wx => ∃ g7 b1, s7 = .pointer (some ⟨g7, 0, none⟩) ∧ Ab W wx ∧ wx.heap[g7]? = some (.cells #[.slice (some ⟨b1, 0, none⟩) M M, .slice (some ⟨wb, wo, none⟩) M cw, .slice none 0 0, .slice none 0 0, .int .i64 0, .int .i64 0] 25) ∧ wx.heap[b1]? = some (Obj.cells (madeCells #[.float .f64 0] M) 28))
  case first =>
    go_region_with ((go_at_call 21; refine (CC0.out _ (by first | exact Ab.refl W | exact (Ab.refl W).drew | exact ((Ab.refl W).alloc _) | exact ((Ab.refl W).drew.alloc _) | exact ((Ab.refl W).alloc _).drew)).mono ?_; rintro e9 vq ⟨rfl, hvq⟩; have hvq2 := hvq.symm; subst hvq2))
    all_goals go_wp2_with fail
    all_goals go_meet
    all_goals refine' ⟨_, _, rfl, two_ab (Ab.refl W) _ _, (by first | exact (two_of W _ _).1 | exact (two_of W _ _).2), ?_⟩
    all_goals first
      | exact (two_of W _ _).1
      | exact (two_of W _ _).2
  case rest =>
    obtain ⟨g7, b1, rfl, a7, r7, rb⟩ := hcut
    obtain ⟨V, hV⟩ : ∃ V, wc = V := ⟨_, rfl⟩
    subst hV
    have AX : Hid (Ab w wc) := AW.out.trans a7
    have GV : Hid (GridOf n gb wc) := GG.out.to a7
    have RV : Hid (wc.heap[w.heap.size]? = some (.cells #[.int .i64 side, .int .i64 lim, .slice (some ⟨bb, bo, none⟩) M cb, .slice (some ⟨wb, wo, none⟩) M cw, .slice pt lt ct, .slice ps ls cs, .int .i64 sky, .int .i64 st] 27)) := Ab.heap a7 RO.out
    have SR := hid r7
    have BR := hid (made_row rb)
    clear a7 r7 rb c3 lw0 lw1 M1 CC0 RO GG AW
    have VV : ∃ V, wc = V := ⟨_, rfl⟩
    obtain ⟨V, hV⟩ := VV
    rw [hV] at AX GV RV SR BR ⊢
    clear hV
    go_wp2
    go_loopw [8] (fun iv wr => ∃ c : Nat, c ≤ M ∧ iv = .int .i64 (c : Nat) ∧ Ab V wr) (fun iv _ => M - (intOf iv).toNat)
    case atStart => exact ⟨0, by omega, rfl, Ab.refl V⟩
    case round =>
      obtain ⟨c, hc, rfl, ar⟩ := hrel
      have AR := hid ar
      clear ar
      by_cases hcM : c < M
      · obtain ⟨x, hx⟩ : ∃ x, Wt c = x := ⟨_, rfl⟩
        have xc : wr.cell? ⟨wb, wo + c, none⟩ = some (.int .i64 x) := by rw [← hx]; exact FA.out c hcM _ (AX.out.trans AR.out)
        have xs := cell_of_row _ _ 1 _ _ _ (AR.out.heap SR.out)
        have hcI : (c : Int) < M := by omega
        have hcB : (c : Int) ≤ 6144 := by have := HM.out; omega
        clear hx
        go_wp2_with fail
        refine (CC.out _ _ (GV.out.to AR.out)).mono ?_
        rintro e9 vq ⟨rfl, hvq⟩
        have hvq2 := hvq.symm
        subst hvq2
        by_cases x0 : x < 0
        · have x0' : decide (x < 0) = true := decide_eq_true x0
          go_wp2
          go_ret
          exact ⟨rfl, AX.out.trans AR.out⟩
        · have x0' : decide (x < 0) = false := decide_eq_false x0
          by_cases x1 : 4503599627370496 < x
          · have x1' : decide ((4503599627370496 : Int) < x) = true := decide_eq_true x1
            go_wp2
            go_ret
            exact ⟨rfl, AX.out.trans AR.out⟩
          · have x1' : decide ((4503599627370496 : Int) < x) = false := decide_eq_false x1
            go_wp2
            go_roundw
            case rel => exact ⟨c + 1, by omega, by simp, AR.out⟩
            case measure => simp [intOf]; omega
      · have e6 : M = c := by omega
        subst e6
        clear hcM hc
        go_wp2_with fail
        refine (CC.out _ _ (GV.out.to AR.out)).mono ?_
        rintro e9 vq ⟨rfl, hvq⟩
        have hvq2 := hvq.symm
        subst hvq2
        go_wp2_with fail
        refine (CE.out _ _ (GV.out.to AR.out)).mono ?_
        rintro e9 v3 ⟨rfl, k3⟩
        have A3 : Hid (Ab V v3) := AR.out.call k3
        clear k3 AR
        go_wp2_with fail
        refine (CW.out _).mono ?_
        rintro e9 v4 ⟨rfl, k4⟩
        have A4 : Hid (Ab V v4) := A3.out.call k4
        clear k4 A3
        go_wp2_with fail
        refine (CX.out _ _ (GV.out.to A4.out)).mono ?_
        rintro e9 v5 ⟨rfl, k5⟩
        have A5 : Hid (Ab V (v5.alloc (.cells #[.int .i64 (L : Nat), .int .i64 (S : Nat), .int .i64 (R : Nat), .int .i64 (Q : Nat)] 41))) := (A4.out.call k5).alloc _
        have ER5 : Hid ((v5.alloc (.cells #[.int .i64 (L : Nat), .int .i64 (S : Nat), .int .i64 (R : Nat), .int .i64 (Q : Nat)] 41)).heap[v5.heap.size]? = some (.cells #[.int .i64 (L : Nat), .int .i64 (S : Nat), .int .i64 (R : Nat), .int .i64 (Q : Nat)] 41)) := heap_alloc_new _ _
        clear k5 A4
        go_wp2_with fail
        refine (CB.out _ _ (GV.out.to A5.out)).mono ?_
        rintro e9 V2 ⟨rfl, k6⟩
        obtain ⟨ge, hge⟩ : ∃ g, v5.heap.size = g := ⟨_, rfl⟩
        have AX2 : Hid (Ab w V2) := AX.out.trans (A5.out.call k6)
        have GV2 : Hid (GridOf n gb V2) := GV.out.to (A5.out.call k6)
        have RV2 : Hid (V2.heap[w.heap.size]? = some (.cells #[.int .i64 side, .int .i64 lim, .slice (some ⟨bb, bo, none⟩) M cb, .slice (some ⟨wb, wo, none⟩) M cw, .slice pt lt ct, .slice ps ls cs, .int .i64 sky, .int .i64 st] 27)) := (A5.out.call k6).heap RV.out
        have SR2 : Hid (V2.heap[g7]? = some (.cells #[.slice (some ⟨b1, 0, none⟩) M M, .slice (some ⟨wb, wo, none⟩) M cw, .slice none 0 0, .slice none 0 0, .int .i64 0, .int .i64 0] 25)) := (A5.out.call k6).heap SR.out
        have BR2 : Hid (V2.rowIs b1 28 M (fun _ => .float .f64 0)) := rowIs.ab BR.out (A5.out.call k6)
        have ER : Hid (V2.heap[ge]? = some (.cells #[.int .i64 (L : Nat), .int .i64 (S : Nat), .int .i64 (R : Nat), .int .i64 (Q : Nat)] 41)) := by rw [← hge]; exact Ab.heap k6 ER5.out
        clear k6 A5 ER5 AX RV GV SR BR
        rw [hge]
        clear hge
        
        have AX := AX2
        have GV := GV2
        have RV := RV2
        have SR := SR2
        have BR := BR2
        clear AX2 GV2 RV2 SR2 BR2
        have AV : Hid (Ab V2 V2) := Ab.refl V2
        have hUi : (L : Int) < M := by have := JU.out; omega
        have hDi : (R : Int) < M := by have := JD.out; omega
        have hKi : (p : Int) < M := by have := JK.out; omega
        go_upto_region 15 with fail
        obtain ⟨UU, E1, hF1, hF2⟩ := cls V2
        have HU := hid hF2
        have HU1 := hid hF1
        have HV : Hid (∀ u, Ab V2 (E1 u)) := fun u => AV.out.trans (hF1 u)
        have HG : Hid (∀ u, GridOf n gb (E1 u)) := fun u => GV.out.to (HV.out u)
        have HX : Hid (∀ u, Ab w (E1 u)) := fun u => AX.out.trans (HV.out u)
        have xs1 : ∀ u, (E1 u).cell? ⟨g7, 1, none⟩ = some (.slice (some ⟨wb, wo, none⟩) M cw) := fun u => cell_of_row _ _ 1 _ _ _ ((HV.out u).heap SR.out)
        have xe0 : ∀ u, (E1 u).cell? ⟨ge, 0, none⟩ = some (.int .i64 (L : Nat)) := fun u => cell_of_row _ _ 0 _ _ _ ((HV.out u).heap ER.out)
        have xw : ∀ u, (E1 u).cell? ⟨wb, wo + L, none⟩ = some (.int .i64 (Wt L)) := fun u => FA.out L JU.out _ (HX.out u)
        have DD0 := HU.out _ (Ab.refl V2).drew
        clear hF1 hF2
        refine region_cls E1 (by kernel_rfl) (by kernel_rfl) DD0 ?_
        repeat (go_big_quiet_step (first
          | (with_reducible rfl)
          | (go_at_call 17; exact calls_cls HU HU1 (AU.out _ _ (HG.out _)))
          | (go_at_call 16; exact calls_cls HU HU1 (DU.out _))))
        refine wpQuiet_nil ?_
        intro z1 hwz
        obtain ⟨u0, hu⟩ := hwz
        have AV1 : Hid (Ab V2 z1) := by rw [hu]; exact HV.out u0
        clear hu u0
        clear HU HU1 HV HG HX DD0 xs1 xe0 xw
        clear E1 UU AV
        have AV := AV1
        clear AV1
        go_upto_region 16 with fail
        obtain ⟨UU, E1, hF1, hF2⟩ := cls z1
        have HU := hid hF2
        have HU1 := hid hF1
        have HV : Hid (∀ u, Ab V2 (E1 u)) := fun u => AV.out.trans (hF1 u)
        have HG : Hid (∀ u, GridOf n gb (E1 u)) := fun u => GV.out.to (HV.out u)
        have HX : Hid (∀ u, Ab w (E1 u)) := fun u => AX.out.trans (HV.out u)
        have xs1 : ∀ u, (E1 u).cell? ⟨g7, 1, none⟩ = some (.slice (some ⟨wb, wo, none⟩) M cw) := fun u => cell_of_row _ _ 1 _ _ _ ((HV.out u).heap SR.out)
        have xw : ∀ u, (E1 u).cell? ⟨wb, wo + p, none⟩ = some (.int .i64 (Wt p)) := fun u => FA.out p JK.out _ (HX.out u)
        have DD0 := HU.out _ (Ab.refl z1).drew
        clear hF1 hF2
        refine region_cls E1 (by kernel_rfl) (by kernel_rfl) DD0 ?_
        repeat (go_big_quiet_step (first
          | (with_reducible rfl)
          | (go_at_call 17; exact calls_cls HU HU1 (AK.out _ _ (HG.out _)))
          | (go_at_call 16; exact calls_cls HU HU1 (DK.out _))))
        refine wpQuiet_nil ?_
        intro z2 hwz
        obtain ⟨u0, hu⟩ := hwz
        have AV2 : Hid (Ab V2 z2) := by rw [hu]; exact HV.out u0
        clear hu u0
        clear HU HU1 HV HG HX DD0 xs1 xw
        clear E1 UU AV
        have AV := AV2
        clear AV2
        go_upto_region 17 with fail
        obtain ⟨UU, E1, hF1, hF2⟩ := cls z2
        have HU := hid hF2
        have HU1 := hid hF1
        have HV : Hid (∀ u, Ab V2 (E1 u)) := fun u => AV.out.trans (hF1 u)
        have HG : Hid (∀ u, GridOf n gb (E1 u)) := fun u => GV.out.to (HV.out u)
        have HX : Hid (∀ u, Ab w (E1 u)) := fun u => AX.out.trans (HV.out u)
        have xs1 : ∀ u, (E1 u).cell? ⟨g7, 1, none⟩ = some (.slice (some ⟨wb, wo, none⟩) M cw) := fun u => cell_of_row _ _ 1 _ _ _ ((HV.out u).heap SR.out)
        have xe2 : ∀ u, (E1 u).cell? ⟨ge, 2, none⟩ = some (.int .i64 (R : Nat)) := fun u => cell_of_row _ _ 2 _ _ _ ((HV.out u).heap ER.out)
        have xw : ∀ u, (E1 u).cell? ⟨wb, wo + R, none⟩ = some (.int .i64 (Wt R)) := fun u => FA.out R JD.out _ (HX.out u)
        have DD0 := HU.out _ (Ab.refl z2).drew
        clear hF1 hF2
        refine region_cls E1 (by kernel_rfl) (by kernel_rfl) DD0 ?_
        repeat (go_big_quiet_step (first
          | (with_reducible rfl)
          | (go_at_call 17; exact calls_cls HU HU1 (AD.out _ _ (HG.out _)))
          | (go_at_call 16; exact calls_cls HU HU1 (DD.out _))))
        refine wpQuiet_nil ?_
        intro z3 hwz
        obtain ⟨u0, hu⟩ := hwz
        have AV3 : Hid (Ab V2 z3) := by rw [hu]; exact HV.out u0
        clear hu u0
        clear HU HU1 HV HG HX DD0 xs1 xe2 xw
        clear E1 UU AV
        have AV := AV3
        clear AV3
        have c0 := cell_of_row _ _ 0 _ _ _ (AV.out.heap SR.out)
        have c1 := cell_of_row _ _ 1 _ _ _ (AV.out.heap SR.out)
        have c2 := cell_of_row _ _ 2 _ _ _ (AV.out.heap SR.out)
        have c3 := cell_of_row _ _ 3 _ _ _ (AV.out.heap SR.out)
        have c4 := cell_of_row _ _ 4 _ _ _ (AV.out.heap SR.out)
        have c5 := cell_of_row _ _ 5 _ _ _ (AV.out.heap SR.out)
        have l1 := cell_of_row _ _ 1 _ _ _ (AV.out.heap RV.out)
        go_wp2_with fail
        refine (CD.out _ _ _ (GV.out.to AV.out) (AX.out.trans AV.out) (rowIs.ab BR.out AV.out)).mono ?_
        rintro e9 v6 ⟨rfl, k6⟩
        have A6 : Hid (Ab V2 v6) := AV.out.call k6
        clear k6 AV
        clear c0 c1 c2 c3 c4 c5 l1
        have c0 := cell_of_row _ _ 0 _ _ _ (A6.out.heap SR.out)
        have c1 := cell_of_row _ _ 1 _ _ _ (A6.out.heap SR.out)
        have c2 := cell_of_row _ _ 2 _ _ _ (A6.out.heap SR.out)
        have c3 := cell_of_row _ _ 3 _ _ _ (A6.out.heap SR.out)
        have c4 := cell_of_row _ _ 4 _ _ _ (A6.out.heap SR.out)
        have c5 := cell_of_row _ _ 5 _ _ _ (A6.out.heap SR.out)
        have l1 := cell_of_row _ _ 1 _ _ _ (A6.out.heap RV.out)
        go_wp2_with fail
        refine (CP.out _ _ _ (GV.out.to A6.out) (AX.out.trans A6.out) (rowIs.ab BR.out A6.out)).mono ?_
        rintro e9 v7 ⟨rfl, k7⟩
        have A7 : Hid (Ab V2 v7) := A6.out.call k7
        clear k7 A6
        clear c0 c1 c2 c3 c4 c5 l1
        go_wp2_with fail
        refine (SS.out _ _).mono ?_
        rintro e9 v8 ⟨rfl, h8⟩
        have h9 := h8.symm
        subst h9
        have l1 := cell_of_row _ _ 1 _ _ _ (A7.out.heap RV.out)
        have AF : Hid (Ab w v7) := AX.out.trans A7.out
        by_cases c9 : lim = 1
        · have hl : (lim != 1) = false := by rw [c9]; rfl
          have hh := HH.out c9
          clear HH
          cases p1
          · cases p2
            · cases p3
              · clear HT
                go_wp2
                go_ret
                exact ⟨rfl, AF.out⟩
              · cases p4
                · clear HT
                  go_wp2
                  go_ret
                  exact ⟨rfl, AF.out⟩
                · have dh := HT.out rfl
                  subst dh
                  go_wp2_with fail
                  refine (SS.out _ _).mono ?_
                  rintro e9 v9 ⟨rfl, h10⟩
                  have h11 := h10.symm
                  subst h11
                  go_wp2
                  go_ret
                  exact ⟨rfl, AF.out⟩
            · cases p3
              · clear HT
                go_wp2
                go_ret
                exact ⟨rfl, AF.out⟩
              · cases p4
                · clear HT
                  go_wp2
                  go_ret
                  exact ⟨rfl, AF.out⟩
                · have dh := HT.out rfl
                  subst dh
                  go_wp2_with fail
                  refine (SS.out _ _).mono ?_
                  rintro e9 v9 ⟨rfl, h10⟩
                  have h11 := h10.symm
                  subst h11
                  go_wp2
                  go_ret
                  exact ⟨rfl, AF.out⟩
          · cases p2
            · cases p3
              · clear HT
                go_wp2
                go_ret
                exact ⟨rfl, AF.out⟩
              · cases p4
                · clear HT
                  go_wp2
                  go_ret
                  exact ⟨rfl, AF.out⟩
                · have dh := HT.out rfl
                  subst dh
                  go_wp2_with fail
                  refine (SS.out _ _).mono ?_
                  rintro e9 v9 ⟨rfl, h10⟩
                  have h11 := h10.symm
                  subst h11
                  go_wp2
                  go_ret
                  exact ⟨rfl, AF.out⟩
            · have dh := HT.out rfl
              subst dh
              go_wp2_with fail
              refine (SS.out _ _).mono ?_
              rintro e9 v9 ⟨rfl, h10⟩
              have h11 := h10.symm
              subst h11
              go_wp2
              go_ret
              exact ⟨rfl, AF.out⟩
        · have hl : (lim != 1) = true := by rw [bne_iff_ne]; exact c9
          clear HH
          cases p1
          · cases p2
            · cases p3
              · clear HT
                go_wp2
                go_ret
                exact ⟨rfl, AF.out⟩
              · cases p4
                · clear HT
                  go_wp2
                  go_ret
                  exact ⟨rfl, AF.out⟩
                · have dh := HT.out rfl
                  subst dh
                  go_wp2_with fail
                  refine (SS.out _ _).mono ?_
                  rintro e9 v9 ⟨rfl, h10⟩
                  have h11 := h10.symm
                  subst h11
                  go_wp2
                  go_ret
                  exact ⟨rfl, AF.out⟩
            · cases p3
              · clear HT
                go_wp2
                go_ret
                exact ⟨rfl, AF.out⟩
              · cases p4
                · clear HT
                  go_wp2
                  go_ret
                  exact ⟨rfl, AF.out⟩
                · have dh := HT.out rfl
                  subst dh
                  go_wp2_with fail
                  refine (SS.out _ _).mono ?_
                  rintro e9 v9 ⟨rfl, h10⟩
                  have h11 := h10.symm
                  subst h11
                  go_wp2
                  go_ret
                  exact ⟨rfl, AF.out⟩
          · cases p2
            · cases p3
              · clear HT
                go_wp2
                go_ret
                exact ⟨rfl, AF.out⟩
              · cases p4
                · clear HT
                  go_wp2
                  go_ret
                  exact ⟨rfl, AF.out⟩
                · have dh := HT.out rfl
                  subst dh
                  go_wp2_with fail
                  refine (SS.out _ _).mono ?_
                  rintro e9 v9 ⟨rfl, h10⟩
                  have h11 := h10.symm
                  subst h11
                  go_wp2
                  go_ret
                  exact ⟨rfl, AF.out⟩
            · have dh := HT.out rfl
              subst dh
              go_wp2_with fail
              refine (SS.out _ _).mono ?_
              rintro e9 v9 ⟨rfl, h10⟩
              have h11 := h10.symm
              subst h11
              go_wp2
              go_ret
              exact ⟨rfl, AF.out⟩
end Go.Proofs.YtjgbaenihkplpaaDoor
