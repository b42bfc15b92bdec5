/-
  What the statement's own test of the middles answers: walks over the program.
-/
import Derived.Test.YtpncpbpdbdlamaaWk
import Derived.Test.YtpncpbpdbdlamaaPs
namespace Go.Proofs.Ytpncpbpdbdlamaa
open Go.RowKit Tf
attribute [local go_sem] run_bits run_from raw_feq raw_fne raw_flt raw_fgt run_neg

set_option maxHeartbeats 1000000 in
theorem mid_tt (x b a c : Nat) (ev : Bool) (w : World) (kb ka kc lo hi : Nat) (m1 : floatBits .mul .f64 4602678819172646912 b = some kb) (m2 : floatBits .mul .f64 4602678819172646912 a = some ka) (m3 : floatBits .mul .f64 4602678819172646912 c = some kc) (s1 : floatBits .add .f64 kb ka = some lo) (s2 : floatBits .add .f64 ka kc = some hi) (c1 : fgt x lo = true) (c2 : flt x hi = true) :
    Calls Try.prog 29 #[.float .f64 x, .float .f64 b, .float .f64 a, .float .f64 c, .bool ev] w fun e w' => e = .returned (.bool true) ∧ w' = w := by
  have n1 := fun (t : TypeId) (w : World) => run_float_arith (P := Try.prog) w .mul t .f64 4602678819172646912 b kb m1
  have n2 := fun (t : TypeId) (w : World) => run_float_arith (P := Try.prog) w .mul t .f64 4602678819172646912 a ka m2
  have n3 := fun (t : TypeId) (w : World) => run_float_arith (P := Try.prog) w .mul t .f64 4602678819172646912 c kc m3
  have n4 := fun (t : TypeId) (w : World) => run_float_arith (P := Try.prog) w .add t .f64 kb ka lo s1
  have n5 := fun (t : TypeId) (w : World) => run_float_arith (P := Try.prog) w .add t .f64 ka kc hi s2
  have cv := fun (y : Nat) (w : World) => run_convert_float_float (P := Try.prog) w 24 24 .f64 .f64 y y (by kernel_rfl) (by kernel_rfl) rfl
  clear m1 m2 m3 s1 s2
  go_enter Try.func29, Try.ntmps29
  go_wp2
  go_ret
  exact ⟨rfl, rfl⟩

set_option maxHeartbeats 1000000 in
theorem mid_tf (x b a c : Nat) (ev : Bool) (w : World) (kb ka kc lo hi : Nat) (m1 : floatBits .mul .f64 4602678819172646912 b = some kb) (m2 : floatBits .mul .f64 4602678819172646912 a = some ka) (m3 : floatBits .mul .f64 4602678819172646912 c = some kc) (s1 : floatBits .add .f64 kb ka = some lo) (s2 : floatBits .add .f64 ka kc = some hi) (c1 : fgt x lo = true) (c2 : flt x hi = false) (c3 : feq x hi = true) (e1 : ev = true) :
    Calls Try.prog 29 #[.float .f64 x, .float .f64 b, .float .f64 a, .float .f64 c, .bool ev] w fun e w' => e = .returned (.bool true) ∧ w' = w := by
  have n1 := fun (t : TypeId) (w : World) => run_float_arith (P := Try.prog) w .mul t .f64 4602678819172646912 b kb m1
  have n2 := fun (t : TypeId) (w : World) => run_float_arith (P := Try.prog) w .mul t .f64 4602678819172646912 a ka m2
  have n3 := fun (t : TypeId) (w : World) => run_float_arith (P := Try.prog) w .mul t .f64 4602678819172646912 c kc m3
  have n4 := fun (t : TypeId) (w : World) => run_float_arith (P := Try.prog) w .add t .f64 kb ka lo s1
  have n5 := fun (t : TypeId) (w : World) => run_float_arith (P := Try.prog) w .add t .f64 ka kc hi s2
  have cv := fun (y : Nat) (w : World) => run_convert_float_float (P := Try.prog) w 24 24 .f64 .f64 y y (by kernel_rfl) (by kernel_rfl) rfl
  clear m1 m2 m3 s1 s2
  subst e1
  go_enter Try.func29, Try.ntmps29
  go_wp2
  go_ret
  exact ⟨rfl, rfl⟩

set_option maxHeartbeats 1000000 in
theorem mid_ft (x b a c : Nat) (ev : Bool) (w : World) (kb ka kc lo hi : Nat) (m1 : floatBits .mul .f64 4602678819172646912 b = some kb) (m2 : floatBits .mul .f64 4602678819172646912 a = some ka) (m3 : floatBits .mul .f64 4602678819172646912 c = some kc) (s1 : floatBits .add .f64 kb ka = some lo) (s2 : floatBits .add .f64 ka kc = some hi) (c1 : fgt x lo = false) (c3 : feq x lo = true) (e1 : ev = true) (c2 : flt x hi = true) :
    Calls Try.prog 29 #[.float .f64 x, .float .f64 b, .float .f64 a, .float .f64 c, .bool ev] w fun e w' => e = .returned (.bool true) ∧ w' = w := by
  have n1 := fun (t : TypeId) (w : World) => run_float_arith (P := Try.prog) w .mul t .f64 4602678819172646912 b kb m1
  have n2 := fun (t : TypeId) (w : World) => run_float_arith (P := Try.prog) w .mul t .f64 4602678819172646912 a ka m2
  have n3 := fun (t : TypeId) (w : World) => run_float_arith (P := Try.prog) w .mul t .f64 4602678819172646912 c kc m3
  have n4 := fun (t : TypeId) (w : World) => run_float_arith (P := Try.prog) w .add t .f64 kb ka lo s1
  have n5 := fun (t : TypeId) (w : World) => run_float_arith (P := Try.prog) w .add t .f64 ka kc hi s2
  have cv := fun (y : Nat) (w : World) => run_convert_float_float (P := Try.prog) w 24 24 .f64 .f64 y y (by kernel_rfl) (by kernel_rfl) rfl
  clear m1 m2 m3 s1 s2
  subst e1
  go_enter Try.func29, Try.ntmps29
  go_wp2
  go_ret
  exact ⟨rfl, rfl⟩

set_option maxHeartbeats 1000000 in
theorem mid_ff (x b a c : Nat) (ev : Bool) (w : World) (kb ka kc lo hi : Nat) (m1 : floatBits .mul .f64 4602678819172646912 b = some kb) (m2 : floatBits .mul .f64 4602678819172646912 a = some ka) (m3 : floatBits .mul .f64 4602678819172646912 c = some kc) (s1 : floatBits .add .f64 kb ka = some lo) (s2 : floatBits .add .f64 ka kc = some hi) (c1 : fgt x lo = false) (c3 : feq x lo = true) (e1 : ev = true) (c2 : flt x hi = false) (c4 : feq x hi = true) :
    Calls Try.prog 29 #[.float .f64 x, .float .f64 b, .float .f64 a, .float .f64 c, .bool ev] w fun e w' => e = .returned (.bool true) ∧ w' = w := by
  have n1 := fun (t : TypeId) (w : World) => run_float_arith (P := Try.prog) w .mul t .f64 4602678819172646912 b kb m1
  have n2 := fun (t : TypeId) (w : World) => run_float_arith (P := Try.prog) w .mul t .f64 4602678819172646912 a ka m2
  have n3 := fun (t : TypeId) (w : World) => run_float_arith (P := Try.prog) w .mul t .f64 4602678819172646912 c kc m3
  have n4 := fun (t : TypeId) (w : World) => run_float_arith (P := Try.prog) w .add t .f64 kb ka lo s1
  have n5 := fun (t : TypeId) (w : World) => run_float_arith (P := Try.prog) w .add t .f64 ka kc hi s2
  have cv := fun (y : Nat) (w : World) => run_convert_float_float (P := Try.prog) w 24 24 .f64 .f64 y y (by kernel_rfl) (by kernel_rfl) rfl
  clear m1 m2 m3 s1 s2
  subst e1
  go_enter Try.func29, Try.ntmps29
  go_wp2
  go_ret
  exact ⟨rfl, rfl⟩


theorem middle_at (x b a c r : Nat) (ev : Bool) (w : World) (he : r % 2 = 0 → ev = true)
    (L : ∃ ka kb lo, Ieee.double.mul 4602678819172646912 a = some ka ∧ Ieee.double.mul 4602678819172646912 b = some kb ∧ Ieee.double.add kb ka = some lo ∧ (fgt x lo = true ∨ (fgt x lo = false ∧ feq x lo = true ∧ r % 2 = 0)))
    (U : ∃ ka kc hi, Ieee.double.mul 4602678819172646912 a = some ka ∧ Ieee.double.mul 4602678819172646912 c = some kc ∧ Ieee.double.add ka kc = some hi ∧ (flt x hi = true ∨ (flt x hi = false ∧ feq x hi = true ∧ r % 2 = 0))) :
    Calls Try.prog 29 #[.float .f64 x, .float .f64 b, .float .f64 a, .float .f64 c, .bool ev] w fun e w' => e = .returned (.bool true) ∧ w' = w := by
  obtain ⟨ka, kb, lo, m2, m1, s1, c1⟩ := L
  obtain ⟨ka', kc, hi, m2', m3, s2, c2⟩ := U
  rw [m2] at m2'
  cases m2'
  rcases c1 with c1 | ⟨c1, c3, e1⟩ <;> rcases c2 with c2 | ⟨c2, c4, e2⟩
  · exact mid_tt x b a c ev w kb ka kc lo hi m1 m2 m3 s1 s2 c1 c2
  · exact mid_tf x b a c ev w kb ka kc lo hi m1 m2 m3 s1 s2 c1 c2 c4 (he e2)
  · exact mid_ft x b a c ev w kb ka kc lo hi m1 m2 m3 s1 s2 c1 c3 (he e1) c2
  · exact mid_ff x b a c ev w kb ka kc lo hi m1 m2 m3 s1 s2 c1 c3 (he e1) c2 c4
end Go.Proofs.Ytpncpbpdbdlamaa
