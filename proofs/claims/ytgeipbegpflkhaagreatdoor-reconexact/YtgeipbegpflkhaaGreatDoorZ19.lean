/-
  Some of the texts of this proof, one behind the other.
-/
import Derived.Test.YtgeipbegpflkhaaGreatDoorZ18
import Derived.Test.YtgeipbegpflkhaaGreatDoorZ15
import Derived.Test.YtgeipbegpflkhaaGreatDoorZ06
/-
  Slopes: walks over the program.
-/
namespace Go.Proofs.YtgeipbegpflkhaaGreatDoor
open Go.RowKit Tf
attribute [local go_sem] run_bits run_from raw_feq raw_fne raw_flt raw_fgt run_neg
theorem canon_op2 {r x : Nat} (h : IsC r x) (hx : x ≤ 9218868437227405312) : canonB (negB r) = op x := by
  obtain ⟨h1, h2⟩ := h
  by_cases z : mg r = 0
  · have n : isN r = false := isN_false.2 (by omega)
    have e : x = 0 := by rw [← h2]; unfold canonB; rw [n, z]; rfl
    subst e
    have m : mg (negB r) = 0 := by rw [mg_negB]; exact z
    have n2 : isN (negB r) = false := isN_false.2 (by omega)
    unfold canonB
    rw [n2, m]
    rfl
  · have e : r = x := by
      unfold canonB at h2
      rw [if_neg z] at h2
      split at h2
      · rw [← h2] at hx; unfold quiet at hx; omega
      · exact h2
    subst e
    exact canon_op hx
theorem IsC.refl {x : Nat} (h : x ≤ 9218868437227405312) : IsC x x := ⟨by omega, canon_nn h⟩
/-- what a limiter says of two that are above nothing -/
def Lim (f : Nat) (k : Int) : Prop := ∀ a b w, ps a = true → ps b = true → Calls Tryz.prog f #[.float .f64 a, .float .f64 b] w fun e w' => ∃ r, e = .returned (.float .f64 r) ∧ (∃ n, w' = w.drewN n) ∧ IsC r (lm k a b)
theorem lim0 : Lim 114 0 := by
  intro a b w ha hb
  refine (plain_at a b w).mono ?_
  rintro e w' ⟨rfl, rfl⟩
  exact ⟨0, rfl, ⟨0, rfl⟩, IsC.refl (by decide)⟩
theorem lim1 : Lim 115 1 := by
  intro a b w ha hb
  have a1 := ps_iff.1 ha
  have b1 := ps_iff.1 hb
  refine (minmod_at a b w a1.2 b1.2).mono ?_
  rintro e w' ⟨rfl, rfl⟩
  exact ⟨_, rfl, ⟨0, rfl⟩, IsC.refl (lm_le 1 a1.2 b1.2)⟩
theorem lim2 : Lim 116 2 := by
  intro a b w ha hb
  have a1 := ps_iff.1 ha
  have b1 := ps_iff.1 hb
  refine (superbee_at a b w ha hb).mono ?_
  rintro e w' ⟨rfl, rfl⟩
  exact ⟨_, rfl, ⟨0, rfl⟩, IsC.refl (lm_le 2 a1.2 b1.2)⟩
theorem lim3 : Lim 117 3 := by
  intro a b w ha hb
  refine (leer_at a b w ha hb).mono ?_
  rintro e w' ⟨r, rfl, n, h⟩
  exact ⟨r, rfl, n, h⟩
set_option maxHeartbeats 2000000 in
theorem slope_p0 (a b : Nat) (w : World) (ha : a < 18446744073709551616) (hb : b < 18446744073709551616) (pa : ps a = true) (pb : ps b = true) : Calls Tryz.prog 66 #[.int .i64 0, .float .f64 a, .float .f64 b] w fun e w' => e = .returned (.float .f64 (lm 0 a b)) ∧ Below w.heap.size w w' := by
  have V := hid (valid_at 0 w)
  have L := hid limiters_at
  have IX : ∀ w : World, (Instr.index 111 (.agg #[.func (.func 114) #[] #[], .func (.func 115) #[] #[], .func (.func 116) #[] #[], .func (.func 117) #[] #[]]) (.int .i64 0)).run Tryz.prog w = .ok (.func (.func 114) #[] #[]) w := fun _ => by kernel_rfl
  have G := hid lim0
  have ga : fgt a 0 = true := by rw [fgt_ps ha]; exact pa
  have gb : fgt b 0 = true := by rw [fgt_ps hb]; exact pb
  have PA := hid pa
  have PB := hid pb
  clear pa pb ha hb
  go_enter Tryz.func66, Tryz.ntmps66
  go_wp2_with fail
  refine V.out.mono ?_
  rintro e w1 ⟨rfl, b1⟩
  have B1 := hid b1
  clear b1
  go_wp2_with fail
  refine (L.out _).mono ?_
  rintro e w2 ⟨rfl, b2⟩
  have B2 := hid b2
  clear b2
  go_wp2_with fail
  refine (G.out a b _ PA.out PB.out).mono ?_
  rintro e w3 ⟨r, rfl, ⟨n, rfl⟩, hr⟩
  have C := hid (canon_any r (w2.drewN n) hr.1)
  have HR := hid hr.2
  clear hr
  go_wp2_with fail
  refine C.out.mono ?_
  rintro e w4 ⟨rfl, rfl⟩
  go_wp2
  go_ret
  exact ⟨ret_flt HR.out, Ab.drewN (Ab.trans B1.out B2.out) n⟩
set_option maxHeartbeats 2000000 in
theorem slope_m0 (a b p q : Nat) (w : World) (ga : flt a 0 = true) (gb : flt b 0 = true) (ga2 : fgt a 0 = false) (na : Op.negFloat .f64 a = p) (nb : Op.negFloat .f64 b = q) (P : Hid (ps p = true)) (Q : Hid (ps q = true)) : Calls Tryz.prog 66 #[.int .i64 0, .float .f64 a, .float .f64 b] w fun e w' => e = .returned (.float .f64 (op (lm 0 p q))) ∧ Below w.heap.size w w' := by
  have V := hid (valid_at 0 w)
  have L := hid limiters_at
  have IX : ∀ w : World, (Instr.index 111 (.agg #[.func (.func 114) #[] #[], .func (.func 115) #[] #[], .func (.func 116) #[] #[], .func (.func 117) #[] #[]]) (.int .i64 0)).run Tryz.prog w = .ok (.func (.func 114) #[] #[]) w := fun _ => by kernel_rfl
  have G := hid lim0
  go_enter Tryz.func66, Tryz.ntmps66
  go_wp2_with fail
  refine V.out.mono ?_
  rintro e w1 ⟨rfl, b1⟩
  have B1 := hid b1
  clear b1
  go_wp2_with fail
  refine (L.out _).mono ?_
  rintro e w2 ⟨rfl, b2⟩
  have B2 := hid b2
  clear b2
  go_wp2_with fail
  refine (G.out p q _ P.out Q.out).mono ?_
  rintro e w3 ⟨r, rfl, ⟨n, rfl⟩, hr⟩
  have E : canonB (Op.negFloat .f64 r) = op (lm 0 p q) := by rw [negFloat_eq r hr.1]; exact canon_op2 hr (lm_le 0 (ps_iff.1 P.out).2 (ps_iff.1 Q.out).2)
  have C := canon_any (Op.negFloat .f64 r) (w2.drewN n) (by rw [negFloat_eq r hr.1]; exact negB_lt hr.1)
  rw [E] at C
  have C := hid C
  clear hr E
  go_wp2_with fail
  refine C.out.mono ?_
  rintro e w4 ⟨rfl, rfl⟩
  go_wp2
  go_ret
  exact ⟨rfl, Ab.drewN (Ab.trans B1.out B2.out) n⟩
theorem slope_n0 (a b : Nat) (w : World) (ha : a < 18446744073709551616) (hb : b < 18446744073709551616) (pa : ns a = true) (pb : ns b = true) : Calls Tryz.prog 66 #[.int .i64 0, .float .f64 a, .float .f64 b] w fun e w' => e = .returned (.float .f64 (op (lm 0 (a - 9223372036854775808) (b - 9223372036854775808)))) ∧ Below w.heap.size w w' := by
  have a1 := ns_iff.1 pa
  have b1 := ns_iff.1 pb
  exact slope_m0 a b _ _ w (by rw [flt_ns ha]; exact pa) (by rw [flt_ns hb]; exact pb) (by rw [fgt_ps ha]; exact ps_no.2 (by omega)) (by rw [negFloat_eq a ha, neg_ns a1.1]) (by rw [negFloat_eq b hb, neg_ns b1.1]) (ps_iff.2 ⟨by omega, by omega⟩) (ps_iff.2 ⟨by omega, by omega⟩)
set_option maxHeartbeats 2000000 in
theorem slope_z0 (a b : Nat) (w : World) (ha : a < 18446744073709551616) (hb : b < 18446744073709551616) (pa : (ps a && ps b) = false) (pb : (ns a && ns b) = false) : Calls Tryz.prog 66 #[.int .i64 0, .float .f64 a, .float .f64 b] w fun e w' => e = .returned (.float .f64 0) ∧ Below w.heap.size w w' := by
  have V := hid (valid_at 0 w)
  have L := hid limiters_at
  have IX : ∀ w : World, (Instr.index 111 (.agg #[.func (.func 114) #[] #[], .func (.func 115) #[] #[], .func (.func 116) #[] #[], .func (.func 117) #[] #[]]) (.int .i64 0)).run Tryz.prog w = .ok (.func (.func 114) #[] #[]) w := fun _ => by kernel_rfl
  rw [← fgt_ps ha, ← fgt_ps hb] at pa
  rw [← flt_ns ha, ← flt_ns hb] at pb
  clear ha hb
  cases g1 : fgt a 0 <;> cases g2 : flt a 0 <;> rw [g1] at pa <;> rw [g2] at pb <;> (try rw [Bool.true_and] at pa) <;> (try rw [Bool.true_and] at pb) <;> (
    go_enter Tryz.func66, Tryz.ntmps66
    go_wp2_with fail
    refine V.out.mono ?_
    rintro e w1 ⟨rfl, b1⟩
    have B1 := hid b1
    clear b1
    go_wp2_with fail
    refine (L.out _).mono ?_
    rintro e w2 ⟨rfl, b2⟩
    have B2 := hid b2
    clear b2
    go_wp2
    go_ret
    exact ⟨rfl, Ab.trans B1.out B2.out⟩)
set_option maxHeartbeats 2000000 in
theorem slope_p1 (a b : Nat) (w : World) (ha : a < 18446744073709551616) (hb : b < 18446744073709551616) (pa : ps a = true) (pb : ps b = true) : Calls Tryz.prog 66 #[.int .i64 1, .float .f64 a, .float .f64 b] w fun e w' => e = .returned (.float .f64 (lm 1 a b)) ∧ Below w.heap.size w w' := by
  have V := hid (valid_at 1 w)
  have L := hid limiters_at
  have IX : ∀ w : World, (Instr.index 111 (.agg #[.func (.func 114) #[] #[], .func (.func 115) #[] #[], .func (.func 116) #[] #[], .func (.func 117) #[] #[]]) (.int .i64 1)).run Tryz.prog w = .ok (.func (.func 115) #[] #[]) w := fun _ => by kernel_rfl
  have G := hid lim1
  have ga : fgt a 0 = true := by rw [fgt_ps ha]; exact pa
  have gb : fgt b 0 = true := by rw [fgt_ps hb]; exact pb
  have PA := hid pa
  have PB := hid pb
  clear pa pb ha hb
  go_enter Tryz.func66, Tryz.ntmps66
  go_wp2_with fail
  refine V.out.mono ?_
  rintro e w1 ⟨rfl, b1⟩
  have B1 := hid b1
  clear b1
  go_wp2_with fail
  refine (L.out _).mono ?_
  rintro e w2 ⟨rfl, b2⟩
  have B2 := hid b2
  clear b2
  go_wp2_with fail
  refine (G.out a b _ PA.out PB.out).mono ?_
  rintro e w3 ⟨r, rfl, ⟨n, rfl⟩, hr⟩
  have C := hid (canon_any r (w2.drewN n) hr.1)
  have HR := hid hr.2
  clear hr
  go_wp2_with fail
  refine C.out.mono ?_
  rintro e w4 ⟨rfl, rfl⟩
  go_wp2
  go_ret
  exact ⟨ret_flt HR.out, Ab.drewN (Ab.trans B1.out B2.out) n⟩
set_option maxHeartbeats 2000000 in
theorem slope_m1 (a b p q : Nat) (w : World) (ga : flt a 0 = true) (gb : flt b 0 = true) (ga2 : fgt a 0 = false) (na : Op.negFloat .f64 a = p) (nb : Op.negFloat .f64 b = q) (P : Hid (ps p = true)) (Q : Hid (ps q = true)) : Calls Tryz.prog 66 #[.int .i64 1, .float .f64 a, .float .f64 b] w fun e w' => e = .returned (.float .f64 (op (lm 1 p q))) ∧ Below w.heap.size w w' := by
  have V := hid (valid_at 1 w)
  have L := hid limiters_at
  have IX : ∀ w : World, (Instr.index 111 (.agg #[.func (.func 114) #[] #[], .func (.func 115) #[] #[], .func (.func 116) #[] #[], .func (.func 117) #[] #[]]) (.int .i64 1)).run Tryz.prog w = .ok (.func (.func 115) #[] #[]) w := fun _ => by kernel_rfl
  have G := hid lim1
  go_enter Tryz.func66, Tryz.ntmps66
  go_wp2_with fail
  refine V.out.mono ?_
  rintro e w1 ⟨rfl, b1⟩
  have B1 := hid b1
  clear b1
  go_wp2_with fail
  refine (L.out _).mono ?_
  rintro e w2 ⟨rfl, b2⟩
  have B2 := hid b2
  clear b2
  go_wp2_with fail
  refine (G.out p q _ P.out Q.out).mono ?_
  rintro e w3 ⟨r, rfl, ⟨n, rfl⟩, hr⟩
  have E : canonB (Op.negFloat .f64 r) = op (lm 1 p q) := by rw [negFloat_eq r hr.1]; exact canon_op2 hr (lm_le 1 (ps_iff.1 P.out).2 (ps_iff.1 Q.out).2)
  have C := canon_any (Op.negFloat .f64 r) (w2.drewN n) (by rw [negFloat_eq r hr.1]; exact negB_lt hr.1)
  rw [E] at C
  have C := hid C
  clear hr E
  go_wp2_with fail
  refine C.out.mono ?_
  rintro e w4 ⟨rfl, rfl⟩
  go_wp2
  go_ret
  exact ⟨rfl, Ab.drewN (Ab.trans B1.out B2.out) n⟩
theorem slope_n1 (a b : Nat) (w : World) (ha : a < 18446744073709551616) (hb : b < 18446744073709551616) (pa : ns a = true) (pb : ns b = true) : Calls Tryz.prog 66 #[.int .i64 1, .float .f64 a, .float .f64 b] w fun e w' => e = .returned (.float .f64 (op (lm 1 (a - 9223372036854775808) (b - 9223372036854775808)))) ∧ Below w.heap.size w w' := by
  have a1 := ns_iff.1 pa
  have b1 := ns_iff.1 pb
  exact slope_m1 a b _ _ w (by rw [flt_ns ha]; exact pa) (by rw [flt_ns hb]; exact pb) (by rw [fgt_ps ha]; exact ps_no.2 (by omega)) (by rw [negFloat_eq a ha, neg_ns a1.1]) (by rw [negFloat_eq b hb, neg_ns b1.1]) (ps_iff.2 ⟨by omega, by omega⟩) (ps_iff.2 ⟨by omega, by omega⟩)
set_option maxHeartbeats 2000000 in
theorem slope_z1 (a b : Nat) (w : World) (ha : a < 18446744073709551616) (hb : b < 18446744073709551616) (pa : (ps a && ps b) = false) (pb : (ns a && ns b) = false) : Calls Tryz.prog 66 #[.int .i64 1, .float .f64 a, .float .f64 b] w fun e w' => e = .returned (.float .f64 0) ∧ Below w.heap.size w w' := by
  have V := hid (valid_at 1 w)
  have L := hid limiters_at
  have IX : ∀ w : World, (Instr.index 111 (.agg #[.func (.func 114) #[] #[], .func (.func 115) #[] #[], .func (.func 116) #[] #[], .func (.func 117) #[] #[]]) (.int .i64 1)).run Tryz.prog w = .ok (.func (.func 115) #[] #[]) w := fun _ => by kernel_rfl
  rw [← fgt_ps ha, ← fgt_ps hb] at pa
  rw [← flt_ns ha, ← flt_ns hb] at pb
  clear ha hb
  cases g1 : fgt a 0 <;> cases g2 : flt a 0 <;> rw [g1] at pa <;> rw [g2] at pb <;> (try rw [Bool.true_and] at pa) <;> (try rw [Bool.true_and] at pb) <;> (
    go_enter Tryz.func66, Tryz.ntmps66
    go_wp2_with fail
    refine V.out.mono ?_
    rintro e w1 ⟨rfl, b1⟩
    have B1 := hid b1
    clear b1
    go_wp2_with fail
    refine (L.out _).mono ?_
    rintro e w2 ⟨rfl, b2⟩
    have B2 := hid b2
    clear b2
    go_wp2
    go_ret
    exact ⟨rfl, Ab.trans B1.out B2.out⟩)
set_option maxHeartbeats 2000000 in
theorem slope_p2 (a b : Nat) (w : World) (ha : a < 18446744073709551616) (hb : b < 18446744073709551616) (pa : ps a = true) (pb : ps b = true) : Calls Tryz.prog 66 #[.int .i64 2, .float .f64 a, .float .f64 b] w fun e w' => e = .returned (.float .f64 (lm 2 a b)) ∧ Below w.heap.size w w' := by
  have V := hid (valid_at 2 w)
  have L := hid limiters_at
  have IX : ∀ w : World, (Instr.index 111 (.agg #[.func (.func 114) #[] #[], .func (.func 115) #[] #[], .func (.func 116) #[] #[], .func (.func 117) #[] #[]]) (.int .i64 2)).run Tryz.prog w = .ok (.func (.func 116) #[] #[]) w := fun _ => by kernel_rfl
  have G := hid lim2
  have ga : fgt a 0 = true := by rw [fgt_ps ha]; exact pa
  have gb : fgt b 0 = true := by rw [fgt_ps hb]; exact pb
  have PA := hid pa
  have PB := hid pb
  clear pa pb ha hb
  go_enter Tryz.func66, Tryz.ntmps66
  go_wp2_with fail
  refine V.out.mono ?_
  rintro e w1 ⟨rfl, b1⟩
  have B1 := hid b1
  clear b1
  go_wp2_with fail
  refine (L.out _).mono ?_
  rintro e w2 ⟨rfl, b2⟩
  have B2 := hid b2
  clear b2
  go_wp2_with fail
  refine (G.out a b _ PA.out PB.out).mono ?_
  rintro e w3 ⟨r, rfl, ⟨n, rfl⟩, hr⟩
  have C := hid (canon_any r (w2.drewN n) hr.1)
  have HR := hid hr.2
  clear hr
  go_wp2_with fail
  refine C.out.mono ?_
  rintro e w4 ⟨rfl, rfl⟩
  go_wp2
  go_ret
  exact ⟨ret_flt HR.out, Ab.drewN (Ab.trans B1.out B2.out) n⟩
set_option maxHeartbeats 2000000 in
theorem slope_m2 (a b p q : Nat) (w : World) (ga : flt a 0 = true) (gb : flt b 0 = true) (ga2 : fgt a 0 = false) (na : Op.negFloat .f64 a = p) (nb : Op.negFloat .f64 b = q) (P : Hid (ps p = true)) (Q : Hid (ps q = true)) : Calls Tryz.prog 66 #[.int .i64 2, .float .f64 a, .float .f64 b] w fun e w' => e = .returned (.float .f64 (op (lm 2 p q))) ∧ Below w.heap.size w w' := by
  have V := hid (valid_at 2 w)
  have L := hid limiters_at
  have IX : ∀ w : World, (Instr.index 111 (.agg #[.func (.func 114) #[] #[], .func (.func 115) #[] #[], .func (.func 116) #[] #[], .func (.func 117) #[] #[]]) (.int .i64 2)).run Tryz.prog w = .ok (.func (.func 116) #[] #[]) w := fun _ => by kernel_rfl
  have G := hid lim2
  go_enter Tryz.func66, Tryz.ntmps66
  go_wp2_with fail
  refine V.out.mono ?_
  rintro e w1 ⟨rfl, b1⟩
  have B1 := hid b1
  clear b1
  go_wp2_with fail
  refine (L.out _).mono ?_
  rintro e w2 ⟨rfl, b2⟩
  have B2 := hid b2
  clear b2
  go_wp2_with fail
  refine (G.out p q _ P.out Q.out).mono ?_
  rintro e w3 ⟨r, rfl, ⟨n, rfl⟩, hr⟩
  have E : canonB (Op.negFloat .f64 r) = op (lm 2 p q) := by rw [negFloat_eq r hr.1]; exact canon_op2 hr (lm_le 2 (ps_iff.1 P.out).2 (ps_iff.1 Q.out).2)
  have C := canon_any (Op.negFloat .f64 r) (w2.drewN n) (by rw [negFloat_eq r hr.1]; exact negB_lt hr.1)
  rw [E] at C
  have C := hid C
  clear hr E
  go_wp2_with fail
  refine C.out.mono ?_
  rintro e w4 ⟨rfl, rfl⟩
  go_wp2
  go_ret
  exact ⟨rfl, Ab.drewN (Ab.trans B1.out B2.out) n⟩
theorem slope_n2 (a b : Nat) (w : World) (ha : a < 18446744073709551616) (hb : b < 18446744073709551616) (pa : ns a = true) (pb : ns b = true) : Calls Tryz.prog 66 #[.int .i64 2, .float .f64 a, .float .f64 b] w fun e w' => e = .returned (.float .f64 (op (lm 2 (a - 9223372036854775808) (b - 9223372036854775808)))) ∧ Below w.heap.size w w' := by
  have a1 := ns_iff.1 pa
  have b1 := ns_iff.1 pb
  exact slope_m2 a b _ _ w (by rw [flt_ns ha]; exact pa) (by rw [flt_ns hb]; exact pb) (by rw [fgt_ps ha]; exact ps_no.2 (by omega)) (by rw [negFloat_eq a ha, neg_ns a1.1]) (by rw [negFloat_eq b hb, neg_ns b1.1]) (ps_iff.2 ⟨by omega, by omega⟩) (ps_iff.2 ⟨by omega, by omega⟩)
set_option maxHeartbeats 2000000 in
theorem slope_z2 (a b : Nat) (w : World) (ha : a < 18446744073709551616) (hb : b < 18446744073709551616) (pa : (ps a && ps b) = false) (pb : (ns a && ns b) = false) : Calls Tryz.prog 66 #[.int .i64 2, .float .f64 a, .float .f64 b] w fun e w' => e = .returned (.float .f64 0) ∧ Below w.heap.size w w' := by
  have V := hid (valid_at 2 w)
  have L := hid limiters_at
  have IX : ∀ w : World, (Instr.index 111 (.agg #[.func (.func 114) #[] #[], .func (.func 115) #[] #[], .func (.func 116) #[] #[], .func (.func 117) #[] #[]]) (.int .i64 2)).run Tryz.prog w = .ok (.func (.func 116) #[] #[]) w := fun _ => by kernel_rfl
  rw [← fgt_ps ha, ← fgt_ps hb] at pa
  rw [← flt_ns ha, ← flt_ns hb] at pb
  clear ha hb
  cases g1 : fgt a 0 <;> cases g2 : flt a 0 <;> rw [g1] at pa <;> rw [g2] at pb <;> (try rw [Bool.true_and] at pa) <;> (try rw [Bool.true_and] at pb) <;> (
    go_enter Tryz.func66, Tryz.ntmps66
    go_wp2_with fail
    refine V.out.mono ?_
    rintro e w1 ⟨rfl, b1⟩
    have B1 := hid b1
    clear b1
    go_wp2_with fail
    refine (L.out _).mono ?_
    rintro e w2 ⟨rfl, b2⟩
    have B2 := hid b2
    clear b2
    go_wp2
    go_ret
    exact ⟨rfl, Ab.trans B1.out B2.out⟩)
set_option maxHeartbeats 2000000 in
theorem slope_p3 (a b : Nat) (w : World) (ha : a < 18446744073709551616) (hb : b < 18446744073709551616) (pa : ps a = true) (pb : ps b = true) : Calls Tryz.prog 66 #[.int .i64 3, .float .f64 a, .float .f64 b] w fun e w' => e = .returned (.float .f64 (lm 3 a b)) ∧ Below w.heap.size w w' := by
  have V := hid (valid_at 3 w)
  have L := hid limiters_at
  have IX : ∀ w : World, (Instr.index 111 (.agg #[.func (.func 114) #[] #[], .func (.func 115) #[] #[], .func (.func 116) #[] #[], .func (.func 117) #[] #[]]) (.int .i64 3)).run Tryz.prog w = .ok (.func (.func 117) #[] #[]) w := fun _ => by kernel_rfl
  have G := hid lim3
  have ga : fgt a 0 = true := by rw [fgt_ps ha]; exact pa
  have gb : fgt b 0 = true := by rw [fgt_ps hb]; exact pb
  have PA := hid pa
  have PB := hid pb
  clear pa pb ha hb
  go_enter Tryz.func66, Tryz.ntmps66
  go_wp2_with fail
  refine V.out.mono ?_
  rintro e w1 ⟨rfl, b1⟩
  have B1 := hid b1
  clear b1
  go_wp2_with fail
  refine (L.out _).mono ?_
  rintro e w2 ⟨rfl, b2⟩
  have B2 := hid b2
  clear b2
  go_wp2_with fail
  refine (G.out a b _ PA.out PB.out).mono ?_
  rintro e w3 ⟨r, rfl, ⟨n, rfl⟩, hr⟩
  have C := hid (canon_any r (w2.drewN n) hr.1)
  have HR := hid hr.2
  clear hr
  go_wp2_with fail
  refine C.out.mono ?_
  rintro e w4 ⟨rfl, rfl⟩
  go_wp2
  go_ret
  exact ⟨ret_flt HR.out, Ab.drewN (Ab.trans B1.out B2.out) n⟩
set_option maxHeartbeats 2000000 in
theorem slope_m3 (a b p q : Nat) (w : World) (ga : flt a 0 = true) (gb : flt b 0 = true) (ga2 : fgt a 0 = false) (na : Op.negFloat .f64 a = p) (nb : Op.negFloat .f64 b = q) (P : Hid (ps p = true)) (Q : Hid (ps q = true)) : Calls Tryz.prog 66 #[.int .i64 3, .float .f64 a, .float .f64 b] w fun e w' => e = .returned (.float .f64 (op (lm 3 p q))) ∧ Below w.heap.size w w' := by
  have V := hid (valid_at 3 w)
  have L := hid limiters_at
  have IX : ∀ w : World, (Instr.index 111 (.agg #[.func (.func 114) #[] #[], .func (.func 115) #[] #[], .func (.func 116) #[] #[], .func (.func 117) #[] #[]]) (.int .i64 3)).run Tryz.prog w = .ok (.func (.func 117) #[] #[]) w := fun _ => by kernel_rfl
  have G := hid lim3
  go_enter Tryz.func66, Tryz.ntmps66
  go_wp2_with fail
  refine V.out.mono ?_
  rintro e w1 ⟨rfl, b1⟩
  have B1 := hid b1
  clear b1
  go_wp2_with fail
  refine (L.out _).mono ?_
  rintro e w2 ⟨rfl, b2⟩
  have B2 := hid b2
  clear b2
  go_wp2_with fail
  refine (G.out p q _ P.out Q.out).mono ?_
  rintro e w3 ⟨r, rfl, ⟨n, rfl⟩, hr⟩
  have E : canonB (Op.negFloat .f64 r) = op (lm 3 p q) := by rw [negFloat_eq r hr.1]; exact canon_op2 hr (lm_le 3 (ps_iff.1 P.out).2 (ps_iff.1 Q.out).2)
  have C := canon_any (Op.negFloat .f64 r) (w2.drewN n) (by rw [negFloat_eq r hr.1]; exact negB_lt hr.1)
  rw [E] at C
  have C := hid C
  clear hr E
  go_wp2_with fail
  refine C.out.mono ?_
  rintro e w4 ⟨rfl, rfl⟩
  go_wp2
  go_ret
  exact ⟨rfl, Ab.drewN (Ab.trans B1.out B2.out) n⟩
theorem slope_n3 (a b : Nat) (w : World) (ha : a < 18446744073709551616) (hb : b < 18446744073709551616) (pa : ns a = true) (pb : ns b = true) : Calls Tryz.prog 66 #[.int .i64 3, .float .f64 a, .float .f64 b] w fun e w' => e = .returned (.float .f64 (op (lm 3 (a - 9223372036854775808) (b - 9223372036854775808)))) ∧ Below w.heap.size w w' := by
  have a1 := ns_iff.1 pa
  have b1 := ns_iff.1 pb
  exact slope_m3 a b _ _ w (by rw [flt_ns ha]; exact pa) (by rw [flt_ns hb]; exact pb) (by rw [fgt_ps ha]; exact ps_no.2 (by omega)) (by rw [negFloat_eq a ha, neg_ns a1.1]) (by rw [negFloat_eq b hb, neg_ns b1.1]) (ps_iff.2 ⟨by omega, by omega⟩) (ps_iff.2 ⟨by omega, by omega⟩)
set_option maxHeartbeats 2000000 in
theorem slope_z3 (a b : Nat) (w : World) (ha : a < 18446744073709551616) (hb : b < 18446744073709551616) (pa : (ps a && ps b) = false) (pb : (ns a && ns b) = false) : Calls Tryz.prog 66 #[.int .i64 3, .float .f64 a, .float .f64 b] w fun e w' => e = .returned (.float .f64 0) ∧ Below w.heap.size w w' := by
  have V := hid (valid_at 3 w)
  have L := hid limiters_at
  have IX : ∀ w : World, (Instr.index 111 (.agg #[.func (.func 114) #[] #[], .func (.func 115) #[] #[], .func (.func 116) #[] #[], .func (.func 117) #[] #[]]) (.int .i64 3)).run Tryz.prog w = .ok (.func (.func 117) #[] #[]) w := fun _ => by kernel_rfl
  rw [← fgt_ps ha, ← fgt_ps hb] at pa
  rw [← flt_ns ha, ← flt_ns hb] at pb
  clear ha hb
  cases g1 : fgt a 0 <;> cases g2 : flt a 0 <;> rw [g1] at pa <;> rw [g2] at pb <;> (try rw [Bool.true_and] at pa) <;> (try rw [Bool.true_and] at pb) <;> (
    go_enter Tryz.func66, Tryz.ntmps66
    go_wp2_with fail
    refine V.out.mono ?_
    rintro e w1 ⟨rfl, b1⟩
    have B1 := hid b1
    clear b1
    go_wp2_with fail
    refine (L.out _).mono ?_
    rintro e w2 ⟨rfl, b2⟩
    have B2 := hid b2
    clear b2
    go_wp2
    go_ret
    exact ⟨rfl, Ab.trans B1.out B2.out⟩)
set_option maxHeartbeats 2000000 in
theorem slope_i (k : Int) (a b : Nat) (w : World) (hk : decide (0 ≤ k ∧ k ≤ 3) = false) : Calls Tryz.prog 66 #[.int .i64 k, .float .f64 a, .float .f64 b] w fun e w' => e = .returned (.float .f64 0) ∧ Below w.heap.size w w' := by
  have V := valid_at k w
  rw [hk] at V
  have V := hid V
  clear hk
  go_enter Tryz.func66, Tryz.ntmps66
  go_wp2_with fail
  refine V.out.mono ?_
  rintro e w1 ⟨rfl, b1⟩
  have B1 := hid b1
  clear b1
  go_wp2
  go_ret
  exact ⟨rfl, B1.out⟩
theorem slope_at (k : Int) (a b : Nat) (w : World) (ha : a < 18446744073709551616) (hb : b < 18446744073709551616) : Calls Tryz.prog 66 #[.int .i64 k, .float .f64 a, .float .f64 b] w fun e w' => e = .returned (.float .f64 (slp k a b)) ∧ Below w.heap.size w w' := by
  by_cases hk : 0 ≤ k ∧ k ≤ 3
  · have hk : k = 0 ∨ k = 1 ∨ k = 2 ∨ k = 3 := by omega
    unfold slp
    cases p : (ps a && ps b)
    · cases n : (ns a && ns b)
      · rw [if_neg (by decide), if_neg (by decide)]
        rcases hk with rfl | rfl | rfl | rfl
        · exact slope_z0 a b w ha hb p n
        · exact slope_z1 a b w ha hb p n
        · exact slope_z2 a b w ha hb p n
        · exact slope_z3 a b w ha hb p n
      · rw [if_neg (by decide), if_pos rfl]
        rw [Bool.and_eq_true] at n
        rcases hk with rfl | rfl | rfl | rfl
        · exact slope_n0 a b w ha hb n.1 n.2
        · exact slope_n1 a b w ha hb n.1 n.2
        · exact slope_n2 a b w ha hb n.1 n.2
        · exact slope_n3 a b w ha hb n.1 n.2
    · rw [if_pos rfl]
      rw [Bool.and_eq_true] at p
      rcases hk with rfl | rfl | rfl | rfl
      · exact slope_p0 a b w ha hb p.1 p.2
      · exact slope_p1 a b w ha hb p.1 p.2
      · exact slope_p2 a b w ha hb p.1 p.2
      · exact slope_p3 a b w ha hb p.1 p.2
  · have e : slp k a b = 0 := by
      have h : ∀ x y, lm k x y = 0 := fun x y => by
        unfold lm
        rw [if_neg (by omega), if_neg (by omega), if_neg (by omega)]
      unfold slp op
      rw [h, h]
      simp
    rw [e]
    exact slope_i k a b w (decide_eq_false hk)
end Go.Proofs.YtgeipbegpflkhaaGreatDoor

/-
  Whether a float is finite, magnitudes, and that the program is awake: walks over it.
-/
namespace Go.Proofs.YtgeipbegpflkhaaGreatDoor
open Go.RowKit Tf
attribute [local go_sem] run_bits run_from raw_feq raw_fne raw_flt raw_fgt run_neg
theorem lv10_0 : slp 1 13830554455654793216 13837309855095848960 = 13830554455654793216 := by decide +kernel
theorem lv10_1 : slp 2 4607182418800017408 4613937818241073152 = 4611686018427387904 := by decide +kernel
theorem lv10_2 : slp 3 4607182418800017408 4613937818241073152 = 4609434218613702656 := by decide +kernel
theorem lv10_3 : slp 0 4607182418800017408 4613937818241073152 = 0 := by decide +kernel
end Go.Proofs.YtgeipbegpflkhaaGreatDoor

/-
  What the document's answer gives of slopes: walks over the reference.
-/
namespace Go.Proofs.YtgeipbegpflkhaaGreatDoor
open Go.RowKit Tf
attribute [local go_sem] run_bits run_from raw_feq raw_fne raw_flt raw_fgt run_neg
theorem lesser10_at (a b : Nat) (w : World) (ha : a ≤ 9218868437227405312) (hb : b ≤ 9218868437227405312) : Calls Tryz.prog 110 #[.float .f64 a, .float .f64 b] w fun e w' => e = .returned (.float .f64 (min a b)) ∧ w' = w := by
  have h := flt_nn hb ha
  by_cases c : b < a
  · rw [show min a b = b by omega]
    rw [decide_eq_true c] at h
    clear c ha hb
    go_enter Tryz.func110, Tryz.ntmps110
    go_wp2
    go_ret
    exact ⟨rfl, rfl⟩
  · rw [show min a b = a by omega]
    rw [decide_eq_false c] at h
    clear c ha hb
    go_enter Tryz.func110, Tryz.ntmps110
    go_wp2
    go_ret
    exact ⟨rfl, rfl⟩
theorem greater_at (a b : Nat) (w : World) (ha : a ≤ 9218868437227405312) (hb : b ≤ 9218868437227405312) : Calls Tryz.prog 111 #[.float .f64 a, .float .f64 b] w fun e w' => e = .returned (.float .f64 (max a b)) ∧ w' = w := by
  have h := fgt_nn hb ha
  by_cases c : a < b
  · rw [show max a b = b by omega]
    rw [decide_eq_true c] at h
    clear c ha hb
    go_enter Tryz.func111, Tryz.ntmps111
    go_wp2
    go_ret
    exact ⟨rfl, rfl⟩
  · rw [show max a b = a by omega]
    rw [decide_eq_false c] at h
    clear c ha hb
    go_enter Tryz.func111, Tryz.ntmps111
    go_wp2
    go_ret
    exact ⟨rfl, rfl⟩
set_option maxHeartbeats 1000000 in
theorem rabove1 (a b : Nat) (w : World) (ha : ps a = true) (hb : ps b = true) : Calls Tryz.prog 73 #[.int .i64 1, .float .f64 a, .float .f64 b] w fun e w' => ∃ r, e = .returned (.float .f64 r) ∧ (∃ n, w' = w.drewN n) ∧ IsC r (lm 1 a b) := by
  obtain ⟨a0, a1⟩ := ps_iff.1 ha
  obtain ⟨b0, b1⟩ := ps_iff.1 hb
  have C := hid (lesser10_at a b w a1 b1)
  have L := hid (IsC.refl (lm_le 1 a1 b1))
  have e : lm 1 a b = min a b := by unfold lm; simp
  rw [e] at L ⊢
  generalize min a b = m at *
  clear a0 a1 b0 b1 ha hb e
  go_enter Tryz.func73, Tryz.ntmps73
  go_wp2_with fail
  refine C.out.mono ?_
  rintro e w' ⟨rfl, rfl⟩
  go_wp2
  go_ret
  exact ⟨m, rfl, ⟨0, rfl⟩, L.out⟩
set_option maxHeartbeats 1000000 in
theorem rabove2 (a b : Nat) (w : World) (ha : ps a = true) (hb : ps b = true) : Calls Tryz.prog 73 #[.int .i64 2, .float .f64 a, .float .f64 b] w fun e w' => ∃ r, e = .returned (.float .f64 r) ∧ (∃ n, w' = w.drewN n) ∧ IsC r (lm 2 a b) := by
  obtain ⟨a0, a1⟩ := ps_iff.1 ha
  obtain ⟨b0, b1⟩ := ps_iff.1 hb
  have fa := (d2_facts a1).1
  have fb := (d2_facts b1).1
  have h1 : ∀ w t, (binOp .mul t (.float .f64 4611686018427387904) (.float .f64 a)).run Tryz.prog w = .ok (.float .f64 (mlB 4611686018427387904 a)) w := fun w t => run_float_arith w .mul t .f64 _ _ _ (mul_pp (by decide) a1 (by decide) a0)
  have h2 : ∀ w t, (binOp .mul t (.float .f64 4611686018427387904) (.float .f64 b)).run Tryz.prog w = .ok (.float .f64 (mlB 4611686018427387904 b)) w := fun w t => run_float_arith w .mul t .f64 _ _ _ (mul_pp (by decide) b1 (by decide) b0)
  have C1 := hid (fun w => lesser10_at (mlB 4611686018427387904 a) b w fa b1)
  have C2 := hid (fun w => lesser10_at a (mlB 4611686018427387904 b) w a1 fb)
  have C3 := hid (fun w => greater_at (min (mlB 4611686018427387904 a) b) (min a (mlB 4611686018427387904 b)) w (by omega) (by omega))
  have L := hid (IsC.refl (lm_le 2 a1 b1))
  have e : lm 2 a b = max (min (mlB 4611686018427387904 a) b) (min a (mlB 4611686018427387904 b)) := by unfold lm sbee; simp
  rw [e] at L ⊢
  clear e fa fb a0 a1 b0 b1 ha hb
  generalize mlB 4611686018427387904 a = p at *
  generalize mlB 4611686018427387904 b = q at *
  generalize min p b = u at *
  generalize min a q = v at *
  generalize max u v = s at *
  go_enter Tryz.func73, Tryz.ntmps73
  go_wp2_with fail
  refine (C1.out _).mono ?_
  rintro e w' ⟨rfl, hw⟩
  have hw2 := hw.symm
  subst hw2
  go_wp2_with fail
  refine (C2.out _).mono ?_
  rintro e w' ⟨rfl, hw⟩
  have hw2 := hw.symm
  subst hw2
  go_wp2_with fail
  refine (C3.out _).mono ?_
  rintro e w' ⟨rfl, hw⟩
  have hw2 := hw.symm
  subst hw2
  go_wp2
  go_ret
  exact ⟨s, rfl, ⟨0, rfl⟩, L.out⟩
theorem class_lr {r a b : Nat} (h : IsC r (leer a b)) (hn : leer a b = quiet ∨ leer a b ≤ 9218868437227405312) : 3 ≤ classB r ↔ ¬ leer a b < 9218868437227405312 := by
  obtain ⟨h1, h2⟩ := h
  have cl : 3 ≤ classB r ↔ 9218868437227405312 ≤ mg r := by
    unfold classB
    constructor
    · intro h
      by_cases c : mg r < 9218868437227405312
      · split at h
        · omega
        · split at h
          · omega
          · omega
      · omega
    · intro h
      rw [if_neg (by omega), if_neg (by omega), if_neg (by omega)]
      split <;> omega
  rw [cl]
  by_cases n : isN r = true
  · have e : leer a b = quiet := by rw [← h2]; unfold canonB; rw [if_pos n]
    have := isN_true.1 n
    rw [e]
    unfold quiet
    omega
  · have n := Bool.eq_false_iff.2 n
    have hm := isN_false.1 n
    have hw := word_eq r h1
    by_cases z : mg r = 0
    · have e : leer a b = 0 := by rw [← h2]; unfold canonB; rw [n, z]; rfl
      rw [e, z]
      omega
    · have e : leer a b = r := by rw [← h2]; unfold canonB; rw [n, if_neg (by decide), if_neg z]
      rcases hn with q | q
      · rw [← e, q] at n
        exact absurd n (by decide)
      · rw [e] at q ⊢
        rw [mg_of_lt (by omega)]
        omega
set_option maxHeartbeats 1000000 in
theorem rabove3 (a b : Nat) (w : World) (ha : ps a = true) (hb : ps b = true) : Calls Tryz.prog 73 #[.int .i64 3, .float .f64 a, .float .f64 b] w fun e w' => ∃ r, e = .returned (.float .f64 r) ∧ (∃ n, w' = w.drewN n) ∧ IsC r (lm 3 a b) := by
  obtain ⟨a0, a1⟩ := ps_iff.1 ha
  obtain ⟨b0, b1⟩ := ps_iff.1 hb
  have fa := d2_facts a1
  have L := leer_nn a1 b1 a0 b0
  have h1 : ∀ t, (binOp .mul t (.float .f64 4611686018427387904) (.float .f64 a)).run Tryz.prog w = .ok (.float .f64 (mlB 4611686018427387904 a)) w := fun t => run_float_arith w .mul t .f64 _ _ _ (mul_pp (by decide) a1 (by decide) a0)
  have h2 : ∀ t, (binOp .mul t (.float .f64 (mlB 4611686018427387904 a)) (.float .f64 b)).run Tryz.prog w = .ok (.float .f64 (mlB (mlB 4611686018427387904 a) b)) w := fun t => run_float_arith w .mul t .f64 _ _ _ (mul_pp fa.1 b1 (by omega) b0)
  have h3 : ∀ t, (binOp .add t (.float .f64 a) (.float .f64 b)).run Tryz.prog w = .ok (.float .f64 (plB a b)) w := fun t => run_float_arith w .add t .f64 _ _ _ (add_pp a1 b1)
  obtain ⟨r, n, h4, hc⟩ := div_any (P := Tryz.prog) w (mlB (mlB 4611686018427387904 a) b) (plB a b)
  have hc : IsC r (leer a b) := hc
  have k1 := class_lr hc L
  have CL := hid (refClass_any r (w.drewN n))
  have e : lm 3 a b = lr a b := by unfold lm; simp
  rw [e]
  by_cases c : leer a b < 9218868437227405312
  · have e : lr a b = leer a b := by unfold lr; rw [if_pos c]
    have k2 : ¬ 3 ≤ classB r := fun h => k1.1 h c
    have HC : Hid (IsC r (lr a b)) := by rw [e]; exact hc
    clear k1
    generalize classB r = cc at *
    generalize mlB (mlB 4611686018427387904 a) b = q at *
    generalize mlB 4611686018427387904 a = p at *
    generalize plB a b = s at *
    clear e c L fa a0 a1 b0 b1 ha hb
    clear hc
    go_enter Tryz.func73, Tryz.ntmps73
    go_wp2_with fail
    refine CL.out.mono ?_
    rintro e w' ⟨rfl, rfl⟩
    go_wp2
    go_ret
    exact ⟨r, rfl, ⟨n, rfl⟩, HC.out⟩
  · have e : lr a b = 0 := by unfold lr; rw [if_neg c]
    have k2 : 3 ≤ classB r := k1.2 c
    have HC : Hid (IsC 0 (lr a b)) := by rw [e]; exact ⟨by decide, by decide⟩
    clear k1
    generalize classB r = cc at *
    generalize mlB (mlB 4611686018427387904 a) b = q at *
    generalize mlB 4611686018427387904 a = p at *
    generalize plB a b = s at *
    clear e c L fa a0 a1 b0 b1 ha hb
    clear hc
    go_enter Tryz.func73, Tryz.ntmps73
    go_wp2_with fail
    refine CL.out.mono ?_
    rintro e w' ⟨rfl, rfl⟩
    go_wp2
    go_ret
    exact ⟨0, rfl, ⟨n, rfl⟩, HC.out⟩
set_option maxHeartbeats 1000000 in
theorem rabove0 (k : Int) (a b : Nat) (w : World) (h1 : ¬ k = 1) (h2 : ¬ k = 2) (h3 : ¬ k = 3) : Calls Tryz.prog 73 #[.int .i64 k, .float .f64 a, .float .f64 b] w fun e w' => ∃ r, e = .returned (.float .f64 r) ∧ (∃ n, w' = w.drewN n) ∧ IsC r (lm k a b) := by
  have L : Hid (IsC 0 (lm k a b)) := by
    unfold lm
    rw [if_neg h1, if_neg h2, if_neg h3]
    exact IsC.refl (by decide)
  have g1 : (k == 1) = false := by simp; exact h1
  have g2 : (k == 2) = false := by simp; exact h2
  have g3 : (k == 3) = false := by simp; exact h3
  go_enter Tryz.func73, Tryz.ntmps73
  go_wp2
  go_ret
  exact ⟨0, rfl, ⟨0, rfl⟩, L.out⟩
theorem rabove_at (k : Int) (a b : Nat) (w : World) (ha : ps a = true) (hb : ps b = true) : Calls Tryz.prog 73 #[.int .i64 k, .float .f64 a, .float .f64 b] w fun e w' => ∃ r, e = .returned (.float .f64 r) ∧ (∃ n, w' = w.drewN n) ∧ IsC r (lm k a b) := by
  by_cases h1 : k = 1
  · subst h1; exact rabove1 a b w ha hb
  by_cases h2 : k = 2
  · subst h2; exact rabove2 a b w ha hb
  by_cases h3 : k = 3
  · subst h3; exact rabove3 a b w ha hb
  exact rabove0 k a b w h1 h2 h3
set_option maxHeartbeats 1000000 in
theorem rslope_p (k : Int) (a b : Nat) (w : World) (ga : fgt a 0 = true) (gb : fgt b 0 = true) (PA : Hid (ps a = true)) (PB : Hid (ps b = true)) : Calls Tryz.prog 38 #[.int .i64 k, .float .f64 a, .float .f64 b] w fun e w' => e = .returned (.float .f64 (lm k a b)) ∧ Below w.heap.size w w' := by
  have G := hid (rabove_at k a b w PA.out PB.out)
  go_enter Tryz.func38, Tryz.ntmps38
  go_wp2_with fail
  refine G.out.mono ?_
  rintro e w3 ⟨r, rfl, ⟨n, rfl⟩, hr⟩
  have C := hid (refCanon_any r (w.drewN n))
  have HR := hid hr.2
  clear hr
  go_wp2_with fail
  refine C.out.mono ?_
  rintro e w4 ⟨rfl, rfl⟩
  go_wp2
  go_ret
  exact ⟨ret_flt HR.out, Ab.drewN (Ab.refl _) n⟩
set_option maxHeartbeats 1000000 in
theorem rslope_n (k : Int) (a b p q : Nat) (w : World) (ga : flt a 0 = true) (gb : flt b 0 = true) (ga2 : fgt a 0 = false) (na : Op.negFloat .f64 a = p) (nb : Op.negFloat .f64 b = q) (P : Hid (ps p = true)) (Q : Hid (ps q = true)) : Calls Tryz.prog 38 #[.int .i64 k, .float .f64 a, .float .f64 b] w fun e w' => e = .returned (.float .f64 (op (lm k p q))) ∧ Below w.heap.size w w' := by
  have G := hid (rabove_at k p q w P.out Q.out)
  go_enter Tryz.func38, Tryz.ntmps38
  go_wp2_with fail
  refine G.out.mono ?_
  rintro e w3 ⟨r, rfl, ⟨n, rfl⟩, hr⟩
  have E : canonB (Op.negFloat .f64 r) = op (lm k p q) := by rw [negFloat_eq r hr.1]; exact canon_op2 hr (lm_le k (ps_iff.1 P.out).2 (ps_iff.1 Q.out).2)
  have C := refCanon_any (Op.negFloat .f64 r) (w.drewN n)
  rw [E] at C
  have C := hid C
  clear hr E
  go_wp2_with fail
  refine C.out.mono ?_
  rintro e w4 ⟨rfl, rfl⟩
  go_wp2
  go_ret
  exact ⟨rfl, Ab.drewN (Ab.refl _) n⟩
set_option maxHeartbeats 1000000 in
theorem rslope_z (k : Int) (a b : Nat) (w : World) (pa : (fgt a 0 && fgt b 0) = false) (pb : (flt a 0 && flt b 0) = false) : Calls Tryz.prog 38 #[.int .i64 k, .float .f64 a, .float .f64 b] w fun e w' => e = .returned (.float .f64 0) ∧ Below w.heap.size w w' := by
  cases g1 : fgt a 0 <;> cases g2 : flt a 0 <;> rw [g1] at pa <;> rw [g2] at pb <;> (try rw [Bool.true_and] at pa) <;> (try rw [Bool.true_and] at pb) <;> (
    go_enter Tryz.func38, Tryz.ntmps38
    go_wp2
    go_ret
    exact ⟨rfl, Below.refl _ _⟩)
theorem rslope_at (k : Int) (a b : Nat) (w : World) (ha : a < 18446744073709551616) (hb : b < 18446744073709551616) : Calls Tryz.prog 38 #[.int .i64 k, .float .f64 a, .float .f64 b] w fun e w' => e = .returned (.float .f64 (slp k a b)) ∧ Below w.heap.size w w' := by
  cases pp : (ps a && ps b)
  · cases n : (ns a && ns b)
    · rw [slp_z pp n]
      exact rslope_z k a b w (by rw [fgt_ps ha, fgt_ps hb]; exact pp) (by rw [flt_ns ha, flt_ns hb]; exact n)
    · rw [Bool.and_eq_true] at n
      have a1 := ns_iff.1 n.1
      have b1 := ns_iff.1 n.2
      rw [slp_n n.1 n.2]
      exact rslope_n k a b _ _ w (by rw [flt_ns ha]; exact n.1) (by rw [flt_ns hb]; exact n.2) (by rw [fgt_ps ha]; exact ps_no.2 (by omega)) (by rw [negFloat_eq a ha, neg_ns a1.1]) (by rw [negFloat_eq b hb, neg_ns b1.1]) (ps_iff.2 ⟨by omega, by omega⟩) (ps_iff.2 ⟨by omega, by omega⟩)
  · rw [Bool.and_eq_true] at pp
    rw [slp_p pp.1 pp.2]
    exact rslope_p k a b w (by rw [fgt_ps ha]; exact pp.1) (by rw [fgt_ps hb]; exact pp.2) pp.1 pp.2
set_option maxHeartbeats 1000000 in
theorem rvalid_at (k : Int) (w : World) : Calls Tryz.prog 45 #[.int .i64 k] w fun e w' => e = .returned (.bool (decide (0 ≤ k ∧ k ≤ 3))) ∧ Below w.heap.size w w' := by
  by_cases c : 0 ≤ k
  · have e : decide (0 ≤ k ∧ k ≤ 3) = decide (k ≤ 3) := by simp [c]
    rw [e]
    clear e
    go_enter Tryz.func45, Tryz.ntmps45
    go_wp2
    go_ret
    exact ⟨rfl, Below.refl _ _⟩
  · have e : decide (0 ≤ k ∧ k ≤ 3) = false := decide_eq_false (by omega)
    rw [e]
    clear e
    go_enter Tryz.func45, Tryz.ntmps45
    go_wp2
    go_ret
    exact ⟨rfl, Below.refl _ _⟩
end Go.Proofs.YtgeipbegpflkhaaGreatDoor

/-
  Points of the reference cube: contracts.
-/
namespace Go.Proofs.YtgeipbegpflkhaaGreatDoor
open Go.RowKit Cu
set_option maxHeartbeats 1000000 in
theorem rplus_ex (p : P3) (k : Int) (q : P3) (w : World) (hp : Sm p) (hr : Sm (sc k q)) :
    Calls Tryz.prog 53 #[.agg #[.int .i64 p.1, .int .i64 p.2.1, .int .i64 p.2.2], .int .i64 k, .agg #[.int .i64 q.1, .int .i64 q.2.1, .int .i64 q.2.2]] w fun e w' => e = .returned (.agg #[.int .i64 (pl p (sc k q)).1, .int .i64 (pl p (sc k q)).2.1, .int .i64 (pl p (sc k q)).2.2]) ∧ w' = ((w.alloc (.cells #[.int .i64 p.1, .int .i64 p.2.1, .int .i64 p.2.2] 96)).alloc (.cells #[.int .i64 q.1, .int .i64 q.2.1, .int .i64 q.2.2] 96)).alloc (.cells #[.int .i64 (pl p (sc k q)).1, .int .i64 (pl p (sc k q)).2.1, .int .i64 (pl p (sc k q)).2.2] 96) := by
  obtain ⟨x, y, z⟩ := p
  obtain ⟨a, b, c⟩ := q
  obtain ⟨hx, hy, hz⟩ := hp
  obtain ⟨ha, hb, hc⟩ := hr
  simp only [pl, sc] at *
  go_enter Tryz.func53, Tryz.ntmps53
  go_wp2
  refine bodyPost_ret ?_ rfl ⟨rfl, rfl⟩
  exact results_cell_row Tryz.results53 _ _ (w.heap.size + 2) _ _ (0, 0) _ rfl (heap_alloc3_new _ _ _ _) Tryz.underlying96 rfl (by kernel_rfl)
theorem rplus_at (p : P3) (k : Int) (q : P3) (w : World) (hp : Sm p) (hr : Sm (sc k q)) :
    Calls Tryz.prog 53 #[.agg #[.int .i64 p.1, .int .i64 p.2.1, .int .i64 p.2.2], .int .i64 k, .agg #[.int .i64 q.1, .int .i64 q.2.1, .int .i64 q.2.2]] w fun e w' => e = .returned (.agg #[.int .i64 (pl p (sc k q)).1, .int .i64 (pl p (sc k q)).2.1, .int .i64 (pl p (sc k q)).2.2]) ∧ Below w.heap.size w w' :=
  (rplus_ex p k q w hp hr).mono fun _ _ ⟨he, hw⟩ => ⟨he, hw ▸ bl3 _ _ _ _⟩
set_option maxHeartbeats 1000000 in
theorem rdot_at (p q : P3) (w : World) (hp : Sm p) (hq : Un q) :
    Calls Tryz.prog 57 #[.agg #[.int .i64 p.1, .int .i64 p.2.1, .int .i64 p.2.2], .agg #[.int .i64 q.1, .int .i64 q.2.1, .int .i64 q.2.2]] w fun e w' => e = .returned (.int .i64 (dt p q)) ∧ Below w.heap.size w w' := by
  obtain ⟨x, y, z⟩ := p
  obtain ⟨a, b, c⟩ := q
  have hx := (mul_un hq.1 10000 hp.1).1
  have hy := (mul_un hq.2.1 10000 hp.2.1).1
  have hz := (mul_un hq.2.2 10000 hp.2.2).1
  clear hp hq
  simp only [dt] at *
  go_enter Tryz.func57, Tryz.ntmps57
  go_wp2
  go_ret
  exact ⟨rfl, bl2 _ _ _⟩
theorem results_cell3 {P : Program} {fn : Func} {p q r : Tmp} {ty : TypeId} (h : fn.results = #[.cell p ty, .cell q ty, .cell r ty]) (tmps : Array Value) (w : World) (g0 g1 g2 : Nat) (t : TypeId) (c0 c1 c2 : Array Value) (d : TypeDesc)
    (hp : tmps.getD p undef = .pointer (some ⟨g0, 0, none⟩)) (hq : tmps.getD q undef = .pointer (some ⟨g1, 0, none⟩)) (hr : tmps.getD r undef = .pointer (some ⟨g2, 0, none⟩))
    (h0 : w.heap[g0]? = some (.cells c0 t)) (h1 : w.heap[g1]? = some (.cells c1 t)) (h2 : w.heap[g2]? = some (.cells c2 t))
    (hu : P.underlying ty = some d) (hd : (match d with | .struct _ | .array _ _ => true | _ => false) = true) (i0 : (P.info? ty).map (·.size) = some c0.size) (i1 : (P.info? ty).map (·.size) = some c1.size) (i2 : (P.info? ty).map (·.size) = some c2.size) :
    (results fn tmps).run P w = .ok (.tuple #[.agg c0, .agg c1, .agg c2]) w := by
  have hp' : tmps[p]?.getD undef = .pointer (some ⟨g0, 0, none⟩) := by simpa using hp
  have hq' : tmps[q]?.getD undef = .pointer (some ⟨g1, 0, none⟩) := by simpa using hq
  have hr' : tmps[r]?.getD undef = .pointer (some ⟨g2, 0, none⟩) := by simpa using hr
  simp [results, h, hp', hq', hr', asAddr, run_loadVar_row w g0 t ty c0 (0, 0) d h0 hu hd i0, run_loadVar_row w g1 t ty c1 (0, 0) d h1 hu hd i1, run_loadVar_row w g2 t ty c2 (0, 0) d h2 hu hd i2]
/-- as Ab, but for the three blocks from g on, which are points -/
def A3 (W : World) (g : Nat) (w : World) : Prop :=
  (w.os = W.os ∧ w.tape = W.tape ∧ w.output = W.output ∧ W.heap.size ≤ w.heap.size ∧ ∀ k, k < W.heap.size → (k < g ∨ g + 3 ≤ k) → w.heap[k]? = W.heap[k]?) ∧
  ∀ j, j < 3 → ∃ a b c : Value, w.heap[g + j]? = some (.cells #[a, b, c] 96)
theorem Ab.a3 {W w : World} (h : Ab W w) {g : Nat} (hg : ∀ j, j < 3 → ∃ a b c : Value, W.heap[g + j]? = some (.cells #[a, b, c] 96)) : A3 W g w :=
  ⟨⟨Below.os h, Below.tape h, Below.output h, Below.size h, fun k hk _ => Below.block h k hk⟩, fun j hj => by obtain ⟨a, b, c, e⟩ := hg j hj; exact ⟨a, b, c, h.heap e⟩⟩
theorem A3.drew {W w : World} {g : Nat} (a : A3 W g w) : A3 W g w.drew := a
theorem A3.call {W u w : World} {g : Nat} (a : A3 W g u) (b : Below u.heap.size u w) : A3 W g w := by
  obtain ⟨⟨h1, h2, h3, h4, h5⟩, h6⟩ := a
  refine ⟨⟨b.os.trans h1, b.tape.trans h2, b.output.trans h3, Nat.le_trans h4 b.size, fun k hk hne => (b.block k (by omega)).trans (h5 k hk hne)⟩, fun j hj => ?_⟩
  obtain ⟨x, y, z, e⟩ := h6 j hj
  exact ⟨x, y, z, (b.block _ (lt_of_block e)).trans e⟩
theorem A3.set {W w : World} {g : Nat} (a : A3 W g w) (i : Nat) (hi : i < 3) (k : Nat) (v : Value) : A3 W g (w.setCell ⟨g + i, k, none⟩ v) := by
  obtain ⟨⟨h1, h2, h3, h4, h5⟩, h6⟩ := a
  refine ⟨⟨h1, h2, h3, by simpa [World.setCell] using h4, fun l hl hne => (Below.heap_setCell _ _ _ _ (by show l ≠ g + i; omega)).trans (h5 l hl hne)⟩, fun j hj => ?_⟩
  obtain ⟨x, y, z, e⟩ := h6 j hj
  by_cases hji : j = i
  · subst hji
    obtain ⟨p, q, r, e2⟩ := set_k (a := x) (b := y) (c := z) (v := v) k
    have o := one_set (k := k) (v := v) e
    rw [e2] at o
    exact ⟨p, q, r, o⟩
  · exact ⟨x, y, z, (Below.heap_setCell _ _ _ _ (by show g + j ≠ g + i; omega)).trans e⟩
theorem A3.heap {W w : World} {g k : Nat} {o : Obj} (a : A3 W g w) (n1 : k < g ∨ g + 3 ≤ k) (hk : W.heap[k]? = some o) : w.heap[k]? = some o := by
  have hlt : k < W.heap.size := by
    rcases Nat.lt_or_ge k W.heap.size with h1 | h1
    · exact h1
    · rw [Array.getElem?_eq_none h1] at hk; cases hk
  exact (a.1.2.2.2.2 k hlt n1).trans hk
theorem A3.ab {w0 W w : World} {g : Nat} (a : A3 W g w) (b : Ab w0 W) (hg : w0.heap.size ≤ g) : Ab w0 w := by
  obtain ⟨⟨h1, h2, h3, h4, h5⟩, _⟩ := a
  exact ⟨h1.trans b.os, h2.trans b.tape, h3.trans b.output, Nat.le_trans (Below.size b) h4, fun k hk => (h5 k (Nat.lt_of_lt_of_le hk (Below.size b)) (by omega)).trans (b.block k hk)⟩
theorem A3.facts {W w : World} {g : Nat} (a : A3 W g w) (j : Nat) (hj : j < 3) : (w.frozen? ⟨g + j, 0, none⟩ = false ∧ w.frozen? ⟨g + j, 1, none⟩ = false ∧ w.frozen? ⟨g + j, 2, none⟩ = false) ∧ w.cell? ⟨g + j, 0, none⟩ = some (rv w (g + j) 0) ∧ w.cell? ⟨g + j, 1, none⟩ = some (rv w (g + j) 1) ∧ w.cell? ⟨g + j, 2, none⟩ = some (rv w (g + j) 2) := by
  obtain ⟨x, y, z, hg⟩ := a.2 j hj
  have e : ∀ k, w.cell? ⟨g + j, k, none⟩ = #[x, y, z][k]? := fun k => cell_of_row _ _ k _ _ _ hg
  refine ⟨⟨free_row hg 0, free_row hg 1, free_row hg 2⟩, ?_, ?_, ?_⟩ <;> simp [rv, e]
end Go.Proofs.YtgeipbegpflkhaaGreatDoor
