/-
  The length of a word: walks over the program.
-/
import Derived.Test.YtgbnabpbheebjaaGm
namespace Go.Proofs.Ytgbnabpbheebjaa
open Go.RowKit Tf
attribute [local go_sem] run_bits run_from raw_feq raw_fne raw_flt raw_fgt run_neg

theorem ba_get (b : ByteArray) (i : Nat) (h : i < b.size) : b[i]'h = (b[i]?).getD 0 := by simp [h]
/-- how many bits a number below 256 has -/
def len8 (n : Nat) : Int := if n = 0 then 0 else ((n.log2 + 1 : Nat) : Int)
set_option maxHeartbeats 2000000 in
set_option maxRecDepth 100000 in
theorem len_0 (x : Int) (w : World) (h0 : 0 ≤ x) (h1 : x < 18446744073709551616) (t32 : x < 4294967296) (t16 : x < 65536) (t8 : x < 256) : Calls Try.prog 54 #[.int .u64 x] w fun e w' => e = .returned (.int .i64 (0 + len8 x.toNat)) ∧ w' = w := by
  go_enter Try.func54, Try.ntmps54
  go_wp2
  go_ret
  refine ⟨ret_int ?_, rfl⟩
  have hl : x.toNat < 256 := by omega
  rw [ba_get]
  generalize hn : x.toNat = n at hl ⊢
  clear hn
  revert n
  decide +kernel
set_option maxHeartbeats 2000000 in
set_option maxRecDepth 100000 in
theorem len_8 (x y0 : Int) (w : World) (h0 : 0 ≤ x) (h1 : x < 18446744073709551616) (t32 : x < 4294967296) (t16 : x < 65536) (t8 : 256 ≤ x) (e8 : x / 256 = y0) (p8 : 0 ≤ y0) (fl : y0 < 256) : Calls Try.prog 54 #[.int .u64 x] w fun e w' => e = .returned (.int .i64 (8 + len8 y0.toNat)) ∧ w' = w := by
  go_enter Try.func54, Try.ntmps54
  go_wp2
  go_ret
  refine ⟨ret_int ?_, rfl⟩
  have hl : y0.toNat < 256 := by omega
  rw [ba_get]
  generalize hn : y0.toNat = n at hl ⊢
  clear hn
  revert n
  decide +kernel
set_option maxHeartbeats 2000000 in
set_option maxRecDepth 100000 in
theorem len_16 (x y0 : Int) (w : World) (h0 : 0 ≤ x) (h1 : x < 18446744073709551616) (t32 : x < 4294967296) (t16 : 65536 ≤ x) (e16 : x / 65536 = y0) (p16 : 0 ≤ y0) (t8 : y0 < 256) (_fl : y0 < 256) : Calls Try.prog 54 #[.int .u64 x] w fun e w' => e = .returned (.int .i64 (16 + len8 y0.toNat)) ∧ w' = w := by
  go_enter Try.func54, Try.ntmps54
  go_wp2
  go_ret
  refine ⟨ret_int ?_, rfl⟩
  have hl : y0.toNat < 256 := by omega
  rw [ba_get]
  generalize hn : y0.toNat = n at hl ⊢
  clear hn
  revert n
  decide +kernel
set_option maxHeartbeats 2000000 in
set_option maxRecDepth 100000 in
theorem len_24 (x y0 y1 : Int) (w : World) (h0 : 0 ≤ x) (h1 : x < 18446744073709551616) (t32 : x < 4294967296) (t16 : 65536 ≤ x) (e16 : x / 65536 = y0) (_p16 : 0 ≤ y0) (t8 : 256 ≤ y0) (e8 : y0 / 256 = y1) (p8 : 0 ≤ y1) (fl : y1 < 256) : Calls Try.prog 54 #[.int .u64 x] w fun e w' => e = .returned (.int .i64 (24 + len8 y1.toNat)) ∧ w' = w := by
  go_enter Try.func54, Try.ntmps54
  go_wp2
  go_ret
  refine ⟨ret_int ?_, rfl⟩
  have hl : y1.toNat < 256 := by omega
  rw [ba_get]
  generalize hn : y1.toNat = n at hl ⊢
  clear hn
  revert n
  decide +kernel
set_option maxHeartbeats 2000000 in
set_option maxRecDepth 100000 in
theorem len_32 (x y0 : Int) (w : World) (_h0 : 0 ≤ x) (_h1 : x < 18446744073709551616) (t32 : 4294967296 ≤ x) (e32 : x / 4294967296 = y0) (p32 : 0 ≤ y0) (t16 : y0 < 65536) (t8 : y0 < 256) (_fl : y0 < 256) : Calls Try.prog 54 #[.int .u64 x] w fun e w' => e = .returned (.int .i64 (32 + len8 y0.toNat)) ∧ w' = w := by
  go_enter Try.func54, Try.ntmps54
  go_wp2
  go_ret
  refine ⟨ret_int ?_, rfl⟩
  have hl : y0.toNat < 256 := by omega
  rw [ba_get]
  generalize hn : y0.toNat = n at hl ⊢
  clear hn
  revert n
  decide +kernel
set_option maxHeartbeats 2000000 in
set_option maxRecDepth 100000 in
theorem len_40 (x y0 y1 : Int) (w : World) (_h0 : 0 ≤ x) (_h1 : x < 18446744073709551616) (t32 : 4294967296 ≤ x) (e32 : x / 4294967296 = y0) (p32 : 0 ≤ y0) (t16 : y0 < 65536) (t8 : 256 ≤ y0) (e8 : y0 / 256 = y1) (p8 : 0 ≤ y1) (fl : y1 < 256) : Calls Try.prog 54 #[.int .u64 x] w fun e w' => e = .returned (.int .i64 (40 + len8 y1.toNat)) ∧ w' = w := by
  go_enter Try.func54, Try.ntmps54
  go_wp2
  go_ret
  refine ⟨ret_int ?_, rfl⟩
  have hl : y1.toNat < 256 := by omega
  rw [ba_get]
  generalize hn : y1.toNat = n at hl ⊢
  clear hn
  revert n
  decide +kernel
set_option maxHeartbeats 2000000 in
set_option maxRecDepth 100000 in
theorem len_48 (x y0 y1 : Int) (w : World) (_h0 : 0 ≤ x) (_h1 : x < 18446744073709551616) (t32 : 4294967296 ≤ x) (e32 : x / 4294967296 = y0) (_p32 : 0 ≤ y0) (t16 : 65536 ≤ y0) (e16 : y0 / 65536 = y1) (p16 : 0 ≤ y1) (t8 : y1 < 256) (_fl : y1 < 256) : Calls Try.prog 54 #[.int .u64 x] w fun e w' => e = .returned (.int .i64 (48 + len8 y1.toNat)) ∧ w' = w := by
  go_enter Try.func54, Try.ntmps54
  go_wp2
  go_ret
  refine ⟨ret_int ?_, rfl⟩
  have hl : y1.toNat < 256 := by omega
  rw [ba_get]
  generalize hn : y1.toNat = n at hl ⊢
  clear hn
  revert n
  decide +kernel
set_option maxHeartbeats 2000000 in
set_option maxRecDepth 100000 in
theorem len_56 (x y0 y1 y2 : Int) (w : World) (_h0 : 0 ≤ x) (_h1 : x < 18446744073709551616) (t32 : 4294967296 ≤ x) (e32 : x / 4294967296 = y0) (_p32 : 0 ≤ y0) (t16 : 65536 ≤ y0) (e16 : y0 / 65536 = y1) (_p16 : 0 ≤ y1) (t8 : 256 ≤ y1) (e8 : y1 / 256 = y2) (p8 : 0 ≤ y2) (fl : y2 < 256) : Calls Try.prog 54 #[.int .u64 x] w fun e w' => e = .returned (.int .i64 (56 + len8 y2.toNat)) ∧ w' = w := by
  go_enter Try.func54, Try.ntmps54
  go_wp2
  go_ret
  refine ⟨ret_int ?_, rfl⟩
  have hl : y2.toNat < 256 := by omega
  rw [ba_get]
  generalize hn : y2.toNat = n at hl ⊢
  clear hn
  revert n
  decide +kernel
end Go.Proofs.Ytgbnabpbheebjaa
