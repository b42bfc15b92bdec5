/-
  The addition of a number, word by word: a walk over the program.
-/
import Derived.Test.YtgbnabpbheebjaaGa
import Derived.WalkKit
import Derived.BigRegion
namespace Go.Proofs.Ytgbnabpbheebjaa
open Go.RowKit Tf
attribute [local go_sem] run_bits run_from raw_feq raw_fne raw_flt raw_fgt run_neg

theorem three_add64 (x y c : Nat) (hc1 : c ≤ 1) (w : World) : (Extern.MathBitsCarry.three "Add64" #[.int .u64 x, .int .u64 y, .int .u64 c]).run Try.prog w = .ok (x, y, c) w := by
  have h : c = 0 ∨ c = 1 := by omega
  rcases h with rfl | rfl <;> rfl
theorem run_add64 (x y c s o : Int) (hx : 0 ≤ x) (hy : 0 ≤ y) (hc : 0 ≤ c) (hc1 : c ≤ 1) (hs : (x + y + c) % 18446744073709551616 = s) (ho : (x + y + c) / 18446744073709551616 = o) (w : World) :
    (callFunc 46 #[.int .u64 x, .int .u64 y, .int .u64 c]).run Try.prog w = .ok (.value (.tuple #[.int .u64 s, .int .u64 o])) w := by
  rw [run_callFunc_extern (e := fun args => do
    let (x, y, c) ← Extern.MathBitsCarry.three "Add64" args
    pure (Extern.MathBitsCarry.pair ((x + y + c) % Extern.MathBitsCarry.m64) ((x + y + c) / Extern.MathBitsCarry.m64))) Try.func46 (by kernel_rfl) (by kernel_rfl) (by kernel_rfl) (by kernel_rfl)]
  obtain ⟨x, rfl⟩ : ∃ n : Nat, x = n := ⟨x.toNat, by omega⟩
  obtain ⟨y, rfl⟩ : ∃ n : Nat, y = n := ⟨y.toNat, by omega⟩
  obtain ⟨c, rfl⟩ : ∃ n : Nat, c = n := ⟨c.toNat, by omega⟩
  have e : Extern.MathBitsCarry.m64 = 18446744073709551616 := by decide
  have hp : Extern.MathBitsCarry.pair ((x + y + c) % Extern.MathBitsCarry.m64) ((x + y + c) / Extern.MathBitsCarry.m64) = .tuple #[.int .u64 s, .int .u64 o] := by
    unfold Extern.MathBitsCarry.pair
    rw [e, Int.ofNat_eq_natCast, Int.ofNat_eq_natCast]
    have h1 : (((x + y + c) % 18446744073709551616 : Nat) : Int) = s := by omega
    have h2 : (((x + y + c) / 18446744073709551616 : Nat) : Int) = o := by omega
    rw [h1, h2]
  have h4 := three_add64 x y c (by omega) w
  rw [Sem.run_bind, h4, Result.andThen_ok]
  show Result.andThen (Sem.run Try.prog (pure (Extern.MathBitsCarry.pair ((x + y + c) % Extern.MathBitsCarry.m64) ((x + y + c) / Extern.MathBitsCarry.m64))) w) _ = _
  rw [hp]; rfl

theorem xor_zero (x : Int) (h0 : 0 ≤ x) (h1 : x < 18446744073709551616) : bits .xor .u64 x 0 = x := by
  show IntKind.u64.wrap ((BitVec.ofInt 64 x ^^^ BitVec.ofInt 64 0).toNat : Int) = _
  have e : BitVec.ofInt 64 0 = 0#64 := by decide
  obtain ⟨n, rfl⟩ : ∃ n : Nat, x = n := ⟨x.toNat, by omega⟩
  rw [e, BitVec.xor_zero, ofInt_u64 n (by omega)]
  simp [IntKind.wrap, IntKind.bits, IntKind.signed]
  omega
theorem xor_all (x : Int) (h0 : 0 ≤ x) (h1 : x < 18446744073709551616) : bits .xor .u64 x 18446744073709551615 = 18446744073709551615 - x := by
  have := not_all x.toNat (by omega)
  obtain ⟨n, rfl⟩ : ∃ n : Nat, x = n := ⟨x.toNat, by omega⟩
  have e : bits .xor .u64 (n : Int) 18446744073709551615 = bits .xor .u64 IntKind.u64.max (n : Int) := by
    show IntKind.u64.wrap ((BitVec.ofInt 64 (n : Int) ^^^ BitVec.ofInt 64 18446744073709551615).toNat : Int) = IntKind.u64.wrap ((BitVec.ofInt 64 IntKind.u64.max ^^^ BitVec.ofInt 64 (n : Int)).toNat : Int)
    rw [BitVec.xor_comm]; rfl
  rw [e]
  simp at this
  rw [this]; omega
end Go.Proofs.Ytgbnabpbheebjaa
