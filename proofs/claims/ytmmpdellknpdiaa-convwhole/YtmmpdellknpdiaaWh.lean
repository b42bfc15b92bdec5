/-
  What To32 (short of the floats that are too great for 32 bits) and From32 of package conv return: walks over the program.
-/
import Derived.Test.YtmmpdellknpdiaaWg
import Derived.Test.YtmmpdellknpdiaaPw
namespace Go.Proofs.Ytmmpdellknpdiaa
open Go.RowKit Tf
theorem run_bits32 (b : Nat) (w : World) : (callFunc 41 #[.float .f32 b]).run Try.prog w = .ok (.value (.int .u32 b)) w := by
  rw [run_callFunc_extern (e := Extern.MathFloatBits.float32bits) Try.func41 (by kernel_rfl) (by kernel_rfl) (by kernel_rfl) (by kernel_rfl)]
  rfl
theorem run_from32 (n : Int) (w : World) : (callFunc 42 #[.int .u32 n]).run Try.prog w = .ok (.value (.float .f32 n.toNat)) w := by
  rw [run_callFunc_extern (e := Extern.MathFloatBits.float32frombits) Try.func42 (by kernel_rfl) (by kernel_rfl) (by kernel_rfl) (by kernel_rfl)]
  rfl
attribute [local go_sem] run_bits run_from raw_feq raw_fne raw_flt raw_fgt run_neg run_bits32 run_from32

set_option maxHeartbeats 1000000 in
theorem to32_nan (x : Nat) (w : World) (hx : x < 18446744073709551616) (n : isN x = true) :
    Calls Try.prog 19 #[.float .f64 x] w fun e w' => e = .returned (.int .u32 2143289344) ∧ w' = w := by
  go_enter Try.func19, Try.ntmps19
  go_wp2_with fail
  refine (cIsNaN_any x _ hx).mono ?_
  rintro e w' ⟨rfl, rfl⟩
  go_wp2
  go_ret
  exact ⟨rfl, rfl⟩

set_option maxHeartbeats 1000000 in
theorem to32_num (x r : Nat) (w : World) (hx : x < 18446744073709551616) (n : isN x = false) (hr : floatToFloatBits .f64 x .f32 = some r) :
    Calls Try.prog 19 #[.float .f64 x] w fun e w' => e = .returned (.int .u32 (r : Nat)) ∧ w' = w := by
  have hc := fun (w : World) => run_convert_float_float (P := Try.prog) w 24 58 .f64 .f32 x r (by kernel_rfl) (by kernel_rfl) hr
  clear hr
  go_enter Try.func19, Try.ntmps19
  go_wp2_with fail
  refine (cIsNaN_any x _ hx).mono ?_
  rintro e w' ⟨rfl, rfl⟩
  go_wp2
  go_ret
  exact ⟨rfl, rfl⟩

/-- no finite double beyond the last middle -/
def ok32 (x : Nat) : Prop := isN x = true ∨ mg x = 9218868437227405312 ∨ t32 x < 2139095040
theorem to32_at (x r : Nat) (w : World) (hx : x < 18446744073709551616) (ok : ok32 x) (hr : to32B x = r) :
    Calls Try.prog 19 #[.float .f64 x] w fun e w' => e = .returned (.int .u32 (r : Nat)) ∧ w' = w := by
  subst hr
  unfold to32B
  cases n : isN x
  · rw [if_neg (by decide)]
    refine to32_num x _ w hx n ?_
    by_cases c : mg x = 9218868437227405312
    · rw [conv32_inf x hx c, t32_inf x (by omega)]
    · have hle := isN_false.1 n
      rcases ok with h | h | h
      · rw [n] at h; cases h
      · exact absurd h c
      · exact conv32_fin x hx (by omega) h
  · rw [if_pos rfl]; exact to32_nan x w hx n

set_option maxHeartbeats 1000000 in
theorem from32_num (b : Int) (r : Nat) (w : World) (hr : r < 18446744073709551616) (n : isN r = false) (hc : floatToFloatBits .f32 b.toNat .f64 = some r) :
    Calls Try.prog 21 #[.int .u32 b] w fun e w' => e = .returned (.float .f64 r) ∧ w' = w := by
  have hc := fun (w : World) => run_convert_float_float (P := Try.prog) w 58 24 .f32 .f64 b.toNat r (by kernel_rfl) (by kernel_rfl) hc
  go_enter Try.func21, Try.ntmps21
  go_wp2_with fail
  refine (cIsNaN_any r _ hr).mono ?_
  rintro e w' ⟨rfl, rfl⟩
  go_wp2
  go_ret
  exact ⟨rfl, rfl⟩

set_option maxHeartbeats 1000000 in
theorem from32_nan (b : Int) (w : World) (n : 2139095040 < mg32 b.toNat) :
    Calls Try.prog 21 #[.int .u32 b] w fun e w' => e = .returned (.float .f64 quiet) ∧ w' = w.drew := by
  have hc := fun (w : World) => run_conv_nan (P := Try.prog) w 58 24 b.toNat (by kernel_rfl) (by kernel_rfl) n
  have hl := fun (w : World) => (nanC_nan w b.toNat).1
  have hn := fun (w : World) => (nanC_nan w b.toNat).2
  have N : Hid (∀ w w' : World, Calls Try.prog 38 #[.float .f64 (nanC w b.toNat)] w' fun e w'' => e = .returned (.bool true) ∧ w'' = w') := by
    intro w w'
    have := cIsNaN_any (nanC w b.toNat) w' (hl w)
    rwa [hn w] at this
  have C : Hid (∀ w w' : World, Calls Try.prog 43 #[.float .f64 (nanC w b.toNat)] w' fun e w'' => e = .returned (.float .f64 quiet) ∧ w'' = w') := by
    intro w w'
    have := canon_any (nanC w b.toNat) w' (hl w)
    have e : canonB (nanC w b.toNat) = quiet := by unfold canonB; rw [hn w]; rfl
    rwa [e] at this
  clear hl hn n
  go_enter Try.func21, Try.ntmps21
  go_wp2_with fail
  refine (N.out _ _).mono ?_
  rintro e w' ⟨rfl, rfl⟩
  go_wp2_with fail
  refine (C.out _ _).mono ?_
  rintro e w' ⟨rfl, rfl⟩
  go_wp2
  go_ret
  exact ⟨rfl, rfl⟩

theorem from32_at (b : Int) (r : Nat) (w : World) (h0 : 0 ≤ b) (h1 : b < 4294967296) (hr : from32B b.toNat = r) :
    Calls Try.prog 21 #[.int .u32 b] w fun e w' => e = .returned (.float .f64 r) ∧ ∃ n, w' = w.drewN n := by
  subst hr
  have hb : b.toNat < 4294967296 := by omega
  by_cases c : 2139095040 < mg32 b.toNat
  · have e : from32B b.toNat = quiet := by unfold from32B; rw [if_pos c]
    rw [e]
    exact (from32_nan b w c).mono fun e w' ⟨a, h⟩ => ⟨a, 1, h⟩
  · have hl := from32B_lt b.toNat
    have key : floatToFloatBits .f32 b.toNat .f64 = some (from32B b.toNat) ∧ isN (from32B b.toNat) = false := by
      unfold from32B
      rw [if_neg c]
      by_cases c2 : mg32 b.toNat = 2139095040
      · simp only [if_pos c2]
        refine ⟨conv64_inf _ hb c2, ?_⟩
        cases ng32 b.toNat <;> decide
      · simp only [if_neg c2]
        have hd := D32_lt (mg32 b.toNat) (by omega)
        refine ⟨conv64_fin _ hb (by omega), ?_⟩
        rw [isN_false]
        generalize D32 (mg32 b.toNat) = y at *
        unfold mg
        cases ng32 b.toNat <;> simp <;> omega
    exact (from32_num b _ w hl key.2 key.1).mono fun e w' ⟨a, h⟩ => ⟨a, 0, h⟩
end Go.Proofs.Ytmmpdellknpdiaa
