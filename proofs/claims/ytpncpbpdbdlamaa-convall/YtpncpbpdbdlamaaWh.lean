/-
  What To32 and From32 of package conv return: walks over the program.
-/
import Derived.Test.YtpncpbpdbdlamaaWg
import Derived.Test.YtpncpbpdbdlamaaPw
namespace Go.Proofs.Ytpncpbpdbdlamaa
open Go.RowKit Tf
theorem run_bits32 (b : Nat) (w : World) : (callFunc 41 #[.float .f32 b]).run Try.prog w = .ok (.value (.int .u32 b)) w := by
  rw [run_callFunc_extern (e := Extern.MathFloatBits.float32bits) Try.func41 (by kernel_rfl) (by kernel_rfl) (by kernel_rfl) (by kernel_rfl)]
  rfl
theorem run_from32 (n : Int) (w : World) : (callFunc 42 #[.int .u32 n]).run Try.prog w = .ok (.value (.float .f32 n.toNat)) w := by
  rw [run_callFunc_extern (e := Extern.MathFloatBits.float32frombits) Try.func42 (by kernel_rfl) (by kernel_rfl) (by kernel_rfl) (by kernel_rfl)]
  rfl
attribute [local go_sem] run_bits run_from raw_feq raw_fne raw_flt raw_fgt run_neg run_bits32 run_from32

/-- where the infinity of 32 bits begins -/
theorem past32 (x : Nat) : (5183643170835005440 ≤ mg x → t32 x = 2139095040) ∧ (mg x < 5183643170835005440 → t32 x < 2139095040) := by
  have a1 : rung 23 K2 (mv 5183643170835005440) = 2139095040 := by decide +kernel
  have a2 : rung 23 K2 (mv 5183643170835005439) = 2139095039 := by decide +kernel
  unfold t32
  constructor
  · intro h
    have := rung_mono (p := 23) (d := K2) (by omega) (mv_le.2 h)
    generalize rung 23 K2 (mv (mg x)) = r at *
    omega
  · intro h
    have := rung_mono (p := 23) (d := K2) (by omega) (mv_le.2 (show mg x ≤ 5183643170835005439 by omega))
    generalize rung 23 K2 (mv (mg x)) = r at *
    omega
def ge32 (x : Nat) : Bool := fgt x 5183643170835005440 || feq x 5183643170835005440
def le32 (x : Nat) : Bool := flt x 14407015207689781248 || feq x 14407015207689781248
theorem ge32_rk (x : Nat) (hx : x < 18446744073709551616) (n : isN x = false) : ge32 x = decide (5183643170835005440 ≤ rk x) := by
  have h1 : isN 5183643170835005440 = false := by decide
  have h2 : rk 5183643170835005440 = 5183643170835005440 := by decide
  unfold ge32
  rw [fgt_rk x _ hx (by omega), feq_rk x _ hx (by omega), n, h1, h2]
  generalize rk x = r
  rw [Bool.eq_iff_iff]; simp; omega
theorem le32_rk (x : Nat) (hx : x < 18446744073709551616) (n : isN x = false) : le32 x = decide (rk x ≤ -5183643170835005440) := by
  have h1 : isN 14407015207689781248 = false := by decide
  have h2 : rk 14407015207689781248 = -5183643170835005440 := by decide
  unfold le32
  rw [flt_rk x _ hx (by omega), feq_rk x _ hx (by omega), n, h1, h2]
  generalize rk x = r
  rw [Bool.eq_iff_iff]; simp; omega

set_option maxHeartbeats 1000000 in
theorem to32_nan (x : Nat) (w : World) (hx : x < 18446744073709551616) (n : isN x = true) :
    Calls Try.prog 19 #[.float .f64 x] w fun e w' => e = .returned (.int .u32 2143289344) ∧ w' = w := by
  go_enter Try.func19, Try.ntmps19
  go_wp2_with fail
  refine (cIsNaN_any x _ hx).mono ?_
  rintro e w' ⟨rfl, rfl⟩
  go_wp2
  go_ret
  exact ⟨rfl, rfl⟩

set_option maxHeartbeats 1000000 in
theorem to32_ge (x : Nat) (w : World) (hx : x < 18446744073709551616) (n : isN x = false) (g : ge32 x = true) :
    Calls Try.prog 19 #[.float .f64 x] w fun e w' => e = .returned (.int .u32 2139095040) ∧ w' = w := by
  have hg : (fgt x 5183643170835005440 || feq x 5183643170835005440) = true := g
  clear g
  go_enter Try.func19, Try.ntmps19
  go_wp2_with fail
  refine (cIsNaN_any x _ hx).mono ?_
  rintro e w' ⟨rfl, rfl⟩
  go_wp2
  go_ret
  exact ⟨rfl, rfl⟩
set_option maxHeartbeats 1000000 in
theorem to32_le (x : Nat) (w : World) (hx : x < 18446744073709551616) (n : isN x = false) (g : ge32 x = false) (l : le32 x = true) :
    Calls Try.prog 19 #[.float .f64 x] w fun e w' => e = .returned (.int .u32 4286578688) ∧ w' = w := by
  have hg : (fgt x 5183643170835005440 || feq x 5183643170835005440) = false := g
  have hl : (flt x 14407015207689781248 || feq x 14407015207689781248) = true := l
  clear g l
  go_enter Try.func19, Try.ntmps19
  go_wp2_with fail
  refine (cIsNaN_any x _ hx).mono ?_
  rintro e w' ⟨rfl, rfl⟩
  go_wp2
  go_ret
  exact ⟨rfl, rfl⟩
set_option maxHeartbeats 1000000 in
theorem to32_num (x r : Nat) (w : World) (hx : x < 18446744073709551616) (n : isN x = false) (g : ge32 x = false) (l : le32 x = false) (hr : floatToFloatBits .f64 x .f32 = some r) :
    Calls Try.prog 19 #[.float .f64 x] w fun e w' => e = .returned (.int .u32 (r : Nat)) ∧ w' = w := by
  have hc := fun (w : World) => run_convert_float_float (P := Try.prog) w 24 58 .f64 .f32 x r (by kernel_rfl) (by kernel_rfl) hr
  have hg : (fgt x 5183643170835005440 || feq x 5183643170835005440) = false := g
  have hl : (flt x 14407015207689781248 || feq x 14407015207689781248) = false := l
  clear hr g l
  go_enter Try.func19, Try.ntmps19
  go_wp2_with fail
  refine (cIsNaN_any x _ hx).mono ?_
  rintro e w' ⟨rfl, rfl⟩
  go_wp2
  go_ret
  exact ⟨rfl, rfl⟩

theorem to32_full (x r : Nat) (w : World) (hx : x < 18446744073709551616) (hr : to32B x = r) :
    Calls Try.prog 19 #[.float .f64 x] w fun e w' => e = .returned (.int .u32 (r : Nat)) ∧ w' = w := by
  subst hr
  unfold to32B
  cases n : isN x
  · rw [if_neg (by decide)]
    have hle := isN_false.1 n
    have hg := ge32_rk x hx n
    have hl := le32_rk x hx n
    obtain ⟨p1, p2⟩ := past32 x
    by_cases c : 5183643170835005440 ≤ mg x
    · rw [p1 c]
      cases s : ng x
      · have e : rk x = mg x := by unfold rk; rw [s]; rfl
        rw [if_neg (by decide)]
        exact to32_ge x w hx n (by rw [hg, e]; exact decide_eq_true (by omega))
      · have e : rk x = -(mg x : Int) := by unfold rk; rw [s]; rfl
        rw [if_pos rfl]
        exact to32_le x w hx n (by rw [hg, e]; exact decide_eq_false (by omega)) (by rw [hl, e]; exact decide_eq_true (by omega))
    · have e : -(mg x : Int) ≤ rk x ∧ rk x ≤ mg x := by unfold rk; split <;> omega
      exact to32_num x _ w hx n (by rw [hg]; exact decide_eq_false (by omega)) (by rw [hl]; exact decide_eq_false (by omega)) (conv32_fin x hx (by omega) (p2 (by omega)))
  · rw [if_pos rfl]; exact to32_nan x w hx n

/-- no finite double beyond the last middle -/
def ok32 (x : Nat) : Prop := isN x = true ∨ mg x = 9218868437227405312 ∨ t32 x < 2139095040
theorem to32_at (x r : Nat) (w : World) (hx : x < 18446744073709551616) (_ok : ok32 x) (hr : to32B x = r) :
    Calls Try.prog 19 #[.float .f64 x] w fun e w' => e = .returned (.int .u32 (r : Nat)) ∧ w' = w := to32_full x r w hx hr

set_option maxHeartbeats 1000000 in
theorem from32_num (b : Int) (r : Nat) (w : World) (hr : r < 18446744073709551616) (n : isN r = false) (hc : floatToFloatBits .f32 b.toNat .f64 = some r) :
    Calls Try.prog 21 #[.int .u32 b] w fun e w' => e = .returned (.float .f64 r) ∧ w' = w := by
  have hc := fun (w : World) => run_convert_float_float (P := Try.prog) w 58 24 .f32 .f64 b.toNat r (by kernel_rfl) (by kernel_rfl) hc
  go_enter Try.func21, Try.ntmps21
  go_wp2_with fail
  refine (cIsNaN_any r _ hr).mono ?_
  rintro e w' ⟨rfl, rfl⟩
  go_wp2
  go_ret
  exact ⟨rfl, rfl⟩

set_option maxHeartbeats 1000000 in
theorem from32_nan (b : Int) (w : World) (n : 2139095040 < mg32 b.toNat) :
    Calls Try.prog 21 #[.int .u32 b] w fun e w' => e = .returned (.float .f64 quiet) ∧ w' = w.drew := by
  have hc := fun (w : World) => run_conv_nan (P := Try.prog) w 58 24 b.toNat (by kernel_rfl) (by kernel_rfl) n
  have hl := fun (w : World) => (nanC_nan w b.toNat).1
  have hn := fun (w : World) => (nanC_nan w b.toNat).2
  have N : Hid (∀ w w' : World, Calls Try.prog 38 #[.float .f64 (nanC w b.toNat)] w' fun e w'' => e = .returned (.bool true) ∧ w'' = w') := by
    intro w w'
    have := cIsNaN_any (nanC w b.toNat) w' (hl w)
    rwa [hn w] at this
  have C : Hid (∀ w w' : World, Calls Try.prog 43 #[.float .f64 (nanC w b.toNat)] w' fun e w'' => e = .returned (.float .f64 quiet) ∧ w'' = w') := by
    intro w w'
    have := canon_any (nanC w b.toNat) w' (hl w)
    have e : canonB (nanC w b.toNat) = quiet := by unfold canonB; rw [hn w]; rfl
    rwa [e] at this
  clear hl hn n
  go_enter Try.func21, Try.ntmps21
  go_wp2_with fail
  refine (N.out _ _).mono ?_
  rintro e w' ⟨rfl, rfl⟩
  go_wp2_with fail
  refine (C.out _ _).mono ?_
  rintro e w' ⟨rfl, rfl⟩
  go_wp2
  go_ret
  exact ⟨rfl, rfl⟩

theorem from32_at (b : Int) (r : Nat) (w : World) (h0 : 0 ≤ b) (h1 : b < 4294967296) (hr : from32B b.toNat = r) :
    Calls Try.prog 21 #[.int .u32 b] w fun e w' => e = .returned (.float .f64 r) ∧ ∃ n, w' = w.drewN n := by
  subst hr
  have hb : b.toNat < 4294967296 := by omega
  by_cases c : 2139095040 < mg32 b.toNat
  · have e : from32B b.toNat = quiet := by unfold from32B; rw [if_pos c]
    rw [e]
    exact (from32_nan b w c).mono fun e w' ⟨a, h⟩ => ⟨a, 1, h⟩
  · have hl := from32B_lt b.toNat
    have key : floatToFloatBits .f32 b.toNat .f64 = some (from32B b.toNat) ∧ isN (from32B b.toNat) = false := by
      unfold from32B
      rw [if_neg c]
      by_cases c2 : mg32 b.toNat = 2139095040
      · simp only [if_pos c2]
        refine ⟨conv64_inf _ hb c2, ?_⟩
        cases ng32 b.toNat <;> decide
      · simp only [if_neg c2]
        have hd := D32_lt (mg32 b.toNat) (by omega)
        refine ⟨conv64_fin _ hb (by omega), ?_⟩
        rw [isN_false]
        generalize D32 (mg32 b.toNat) = y at *
        unfold mg
        cases ng32 b.toNat <;> simp <;> omega
    exact (from32_num b _ w hl key.2 key.1).mono fun e w' ⟨a, h⟩ => ⟨a, 0, h⟩
end Go.Proofs.Ytpncpbpdbdlamaa
