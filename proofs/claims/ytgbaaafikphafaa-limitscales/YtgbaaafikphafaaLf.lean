/-
  Package limit: walks over the program.
-/
import Derived.Test.YtgbaaafikphafaaLe
import Derived.Test.YtgbaaafikphafaaTi
import Derived.Test.YtgbaaafikphafaaWd
namespace Go.Proofs.Ytgbaaafikphafaa
open Go.RowKit Tf
attribute [local go_sem] run_bits run_from raw_feq raw_fne raw_flt raw_fgt run_neg
theorem run_min_f {P : Program} (w : World) (ts : Array TypeId) (t : TypeId) {a b : Nat} (ha : a ≤ 9218868437227405312) (hb : b ≤ 9218868437227405312) :
    (Builtin.min_ ts t #[.float .f64 a, .float .f64 b]).run P w = .ok (.float .f64 (min a b)) w := by
  have h : FloatKind.f64.format.order a b = _ := order_pp ha hb
  by_cases c : a < b
  · rw [if_pos c] at h
    simp [Builtin.min_, Builtin.min2, h]
    omega
  · rw [if_neg c] at h
    by_cases d : b < a
    · rw [if_pos d] at h
      simp [Builtin.min_, Builtin.min2, h]
      omega
    · rw [if_neg d] at h
      have e : a = b := by omega
      subst e
      simp [Builtin.min_, Builtin.min2, h]
theorem run_max_f {P : Program} (w : World) (ts : Array TypeId) (t : TypeId) {a b : Nat} (ha : a ≤ 9218868437227405312) (hb : b ≤ 9218868437227405312) :
    (Builtin.max_ ts t #[.float .f64 a, .float .f64 b]).run P w = .ok (.float .f64 (max a b)) w := by
  have h : FloatKind.f64.format.order a b = _ := order_pp ha hb
  by_cases c : a < b
  · rw [if_pos c] at h
    simp [Builtin.max_, Builtin.max2, h]
    omega
  · rw [if_neg c] at h
    by_cases d : b < a
    · rw [if_pos d] at h
      simp [Builtin.max_, Builtin.max2, h]
      omega
    · rw [if_neg d] at h
      have e : a = b := by omega
      subst e
      simp [Builtin.max_, Builtin.max2, h]
theorem plain_at (a b : Nat) (w : World) : Calls Try.prog 19 #[.float .f64 a, .float .f64 b] w fun e w' => e = .returned (.float .f64 0) ∧ w' = w := by
  go_enter Try.func19, Try.ntmps19
  go_wp2
  go_ret
  exact ⟨rfl, rfl⟩
theorem minmod_at (a b : Nat) (w : World) (ha : a ≤ 9218868437227405312) (hb : b ≤ 9218868437227405312) : Calls Try.prog 20 #[.float .f64 a, .float .f64 b] w fun e w' => e = .returned (.float .f64 (min a b)) ∧ w' = w := by
  have h : ∀ ts t, (Builtin.min_ ts t #[.float .f64 a, .float .f64 b]).run Try.prog w = .ok (.float .f64 (min a b)) w := fun ts t => run_min_f w ts t ha hb
  generalize e : min a b = m at h ⊢
  clear e ha hb
  go_enter Try.func20, Try.ntmps20
  go_wp2
  go_ret
  exact ⟨rfl, rfl⟩
set_option maxHeartbeats 1000000 in
theorem superbee_at (a b : Nat) (w : World) (ha : ps a = true) (hb : ps b = true) : Calls Try.prog 21 #[.float .f64 a, .float .f64 b] w fun e w' => e = .returned (.float .f64 (sbee a b)) ∧ w' = w := by
  obtain ⟨a0, a1⟩ := ps_iff.1 ha
  obtain ⟨b0, b1⟩ := ps_iff.1 hb
  have fa := (d2_facts a1).1
  have fb := (d2_facts b1).1
  have h1 : ∀ t, (binOp .mul t (.float .f64 4611686018427387904) (.float .f64 a)).run Try.prog w = .ok (.float .f64 (mlB 4611686018427387904 a)) w := fun t => run_float_arith w .mul t .f64 _ _ _ (mul_pp (by decide) a1 (by decide) a0)
  have h2 : ∀ t, (binOp .mul t (.float .f64 4611686018427387904) (.float .f64 b)).run Try.prog w = .ok (.float .f64 (mlB 4611686018427387904 b)) w := fun t => run_float_arith w .mul t .f64 _ _ _ (mul_pp (by decide) b1 (by decide) b0)
  have h3 : ∀ ts t, (Builtin.min_ ts t #[.float .f64 (mlB 4611686018427387904 a), .float .f64 b]).run Try.prog w = .ok (.float .f64 (min (mlB 4611686018427387904 a) b)) w := fun ts t => run_min_f w ts t fa b1
  have h4 : ∀ ts t, (Builtin.min_ ts t #[.float .f64 a, .float .f64 (mlB 4611686018427387904 b)]).run Try.prog w = .ok (.float .f64 (min a (mlB 4611686018427387904 b))) w := fun ts t => run_min_f w ts t a1 fb
  have h5 : ∀ ts t, (Builtin.max_ ts t #[.float .f64 (min (mlB 4611686018427387904 a) b), .float .f64 (min a (mlB 4611686018427387904 b))]).run Try.prog w = .ok (.float .f64 (sbee a b)) w := fun ts t => run_max_f w ts t (by omega) (by omega)
  generalize mlB 4611686018427387904 a = p at *
  generalize mlB 4611686018427387904 b = q at *
  generalize min p b = u at *
  generalize min a q = v at *
  generalize sbee a b = s at *
  clear a0 a1 b0 b1 fa fb ha hb
  go_enter Try.func21, Try.ntmps21
  go_wp2
  go_ret
  exact ⟨rfl, rfl⟩
set_option maxHeartbeats 1000000 in
theorem leer_at (a b : Nat) (w : World) (ha : ps a = true) (hb : ps b = true) : Calls Try.prog 22 #[.float .f64 a, .float .f64 b] w fun e w' => ∃ r, e = .returned (.float .f64 r) ∧ (∃ n, w' = w.drewN n) ∧ IsC r (lr a b) := by
  obtain ⟨a0, a1⟩ := ps_iff.1 ha
  obtain ⟨b0, b1⟩ := ps_iff.1 hb
  have fa := d2_facts a1
  have L := leer_nn a1 b1 a0 b0
  have h1 : ∀ t, (binOp .mul t (.float .f64 4611686018427387904) (.float .f64 a)).run Try.prog w = .ok (.float .f64 (mlB 4611686018427387904 a)) w := fun t => run_float_arith w .mul t .f64 _ _ _ (mul_pp (by decide) a1 (by decide) a0)
  have h2 : ∀ t, (binOp .mul t (.float .f64 (mlB 4611686018427387904 a)) (.float .f64 b)).run Try.prog w = .ok (.float .f64 (mlB (mlB 4611686018427387904 a) b)) w := fun t => run_float_arith w .mul t .f64 _ _ _ (mul_pp fa.1 b1 (by omega) b0)
  have h3 : ∀ t, (binOp .add t (.float .f64 a) (.float .f64 b)).run Try.prog w = .ok (.float .f64 (plB a b)) w := fun t => run_float_arith w .add t .f64 _ _ _ (add_pp a1 b1)
  obtain ⟨r, n, h4, hc⟩ := div_any (P := Try.prog) w (mlB (mlB 4611686018427387904 a) b) (plB a b)
  have hc : IsC r (leer a b) := hc
  obtain ⟨k1, k2⟩ := lr_le_of hc L
  have HL := lr_le a b
  by_cases c : leer a b < 9218868437227405312
  · have e : lr a b = leer a b := by unfold lr; rw [if_pos c]
    rw [decide_eq_true c] at k1
    have HC : Hid (IsC r (lr a b)) := by rw [e]; exact hc
    generalize mlB (mlB 4611686018427387904 a) b = q at *
    generalize mlB 4611686018427387904 a = p at *
    generalize plB a b = s at *
    clear e k2 c L fa a0 a1 b0 b1 ha hb HL
    clear hc
    go_enter Try.func22, Try.ntmps22
    go_wp2
    go_ret
    exact ⟨r, rfl, ⟨n, rfl⟩, HC.out⟩
  · have e : lr a b = 0 := by unfold lr; rw [if_neg c]
    rw [decide_eq_false c] at k1
    have HC : Hid (IsC 0 (lr a b)) := by rw [e]; exact ⟨by decide, by decide⟩
    generalize mlB (mlB 4611686018427387904 a) b = q at *
    generalize mlB 4611686018427387904 a = p at *
    generalize plB a b = s at *
    clear e k2 c L fa a0 a1 b0 b1 ha hb HL
    clear hc
    go_enter Try.func22, Try.ntmps22
    go_wp2
    go_ret
    exact ⟨0, rfl, ⟨n, rfl⟩, HC.out⟩
theorem run_store_func {P : Program} {w : World} {a : Addr} {m : Mode} (f : Fn) (x y : Array Value) : (store a (.func f x y) m).run P w = stored P w a (.func f x y) m := run_store P w a _ m rfl
attribute [local go_sem] run_store_func
set_option maxHeartbeats 1000000 in
theorem limiters_at (w : World) : Calls Try.prog 14 #[] w fun e w' => e = .returned (.agg #[.func (.func 19) #[] #[], .func (.func 20) #[] #[], .func (.func 21) #[] #[], .func (.func 22) #[] #[]]) ∧ Below w.heap.size w w' := by
  go_enter Try.func14, Try.ntmps14
  go_wp2
  refine bodyPost_ret ?_ rfl ⟨rfl, ?_⟩
  · exact results_cell_row Try.results14 _ _ w.heap.size _ _ (0, 0) _ rfl (heap_alloc_new w _) Try.underlying33 rfl (by kernel_rfl)
  · exact bl1 w _
set_option maxHeartbeats 1000000 in
theorem valid_at (k : Int) (w : World) : Calls Try.prog 13 #[.int .i64 k] w fun e w' => e = .returned (.bool (decide (0 ≤ k ∧ k ≤ 3))) ∧ Below w.heap.size w w' := by
  have L := hid (limiters_at w)
  by_cases c : 0 ≤ k
  · have e : decide (0 ≤ k ∧ k ≤ 3) = decide (k < 4) := by by_cases d : k < 4 <;> simp [d] <;> omega
    rw [e]
    clear e
    go_enter Try.func13, Try.ntmps13
    go_wp2_with fail
    refine L.out.mono ?_
    rintro e w1 ⟨rfl, b1⟩
    go_wp2
    go_ret
    exact ⟨rfl, b1⟩
  · have e : decide (0 ≤ k ∧ k ≤ 3) = false := decide_eq_false (by omega)
    rw [e]
    clear e
    go_enter Try.func13, Try.ntmps13
    go_wp2
    go_ret
    exact ⟨rfl, Below.refl _ _⟩
end Go.Proofs.Ytgbaaafikphafaa
