/-
  Products of 128 bits, and their parts: walks over the reference.
-/
import Derived.Test.YthcgbjkbnbeobaaUa
import Derived.Test.YthcgbjkbnbeobaaMm
import Derived.Test.YthcgbjkbnbeobaaRows
namespace Go.Proofs.Ythcgbjkbnbeobaa
open Go.RowKit
namespace Sh
theorem tmod_e {a b : Int} (h : 0 ≤ a) : a.tmod b = a % b := Int.tmod_eq_emod_of_nonneg h
theorem wrapu (v : Int) : IntKind.u64.wrap v = v % 18446744073709551616 := by rw [IntKind.wrap_u64]
theorem split_mul (x y : Int) : x * y = (x / 4294967296) * (y / 4294967296) * 18446744073709551616 + ((x / 4294967296) * (y % 4294967296) + (x % 4294967296) * (y / 4294967296)) * 4294967296 + (x % 4294967296) * (y % 4294967296) := by
  have hx : x = 4294967296 * (x / 4294967296) + x % 4294967296 := by omega
  have hy : y = 4294967296 * (y / 4294967296) + y % 4294967296 := by omega
  generalize x / 4294967296 = a at *
  generalize x % 4294967296 = b at *
  generalize y / 4294967296 = c at *
  generalize y % 4294967296 = d at *
  subst hx
  subst hy
  rw [Int.add_mul, Int.mul_add, Int.mul_add]
  have t1 : 4294967296 * a * (4294967296 * c) = a * c * 18446744073709551616 := by
    have : 4294967296 * a * (4294967296 * c) = a * c * (4294967296 * 4294967296) := by ac_rfl
    rw [this]
    rfl
  have t2 : 4294967296 * a * d = a * d * 4294967296 := by ac_rfl
  have t3 : b * (4294967296 * c) = b * c * 4294967296 := by ac_rfl
  rw [t1, t2, t3, Int.add_mul]
  omega
theorem mul_bd {a b m : Int} (ha : 0 ≤ a) (hb : 0 ≤ b) (ha2 : a ≤ m) (hb2 : b ≤ m) : 0 ≤ a * b ∧ a * b ≤ m * m := ⟨Int.mul_nonneg ha hb, Int.mul_le_mul ha2 hb2 hb (by omega)⟩
theorem prod_eq {x y : Int} (hx : 0 ≤ x) (hx2 : x < 18446744073709551616) (hy : 0 ≤ y) (hy2 : y < 18446744073709551616) :
    IntKind.u64.wrap (IntKind.u64.wrap (IntKind.u64.wrap (x / 4294967296 * (y / 4294967296)) + IntKind.u64.wrap (IntKind.u64.wrap (x / 4294967296 * (y % 4294967296)) + IntKind.u64.wrap (x % 4294967296 * (y % 4294967296)) / 4294967296) / 4294967296) + IntKind.u64.wrap (IntKind.u64.wrap (x % 4294967296 * (y / 4294967296)) + (IntKind.u64.wrap (IntKind.u64.wrap (x / 4294967296 * (y % 4294967296)) + IntKind.u64.wrap (x % 4294967296 * (y % 4294967296)) / 4294967296)).tmod 4294967296) / 4294967296) = x * y / 18446744073709551616 ∧
    IntKind.u64.wrap (IntKind.u64.wrap (IntKind.u64.wrap (IntKind.u64.wrap (x % 4294967296 * (y / 4294967296)) + (IntKind.u64.wrap (IntKind.u64.wrap (x / 4294967296 * (y % 4294967296)) + IntKind.u64.wrap (x % 4294967296 * (y % 4294967296)) / 4294967296)).tmod 4294967296) * 4294967296) + (IntKind.u64.wrap (x % 4294967296 * (y % 4294967296))).tmod 4294967296) = x * y % 18446744073709551616 := by
  have b1 := mul_bd (a := x / 4294967296) (b := y / 4294967296) (m := 4294967295) (by omega) (by omega) (by omega) (by omega)
  have b2 := mul_bd (a := x / 4294967296) (b := y % 4294967296) (m := 4294967295) (by omega) (by omega) (by omega) (by omega)
  have b3 := mul_bd (a := x % 4294967296) (b := y / 4294967296) (m := 4294967295) (by omega) (by omega) (by omega) (by omega)
  have b4 := mul_bd (a := x % 4294967296) (b := y % 4294967296) (m := 4294967295) (by omega) (by omega) (by omega) (by omega)
  rw [split_mul x y]
  generalize x / 4294967296 * (y / 4294967296) = p at *
  generalize x / 4294967296 * (y % 4294967296) = q at *
  generalize x % 4294967296 * (y / 4294967296) = r at *
  generalize x % 4294967296 * (y % 4294967296) = s at *
  rw [tmod_e (a := IntKind.u64.wrap s) (by rw [wrapu]; omega), tmod_e (a := IntKind.u64.wrap (IntKind.u64.wrap q + IntKind.u64.wrap s / 4294967296)) (by rw [wrapu]; omega)]
  simp only [wrapu]
  have es : s % 18446744073709551616 = s := by omega
  have eq : q % 18446744073709551616 = q := by omega
  have er : r % 18446744073709551616 = r := by omega
  have ep : p % 18446744073709551616 = p := by omega
  rw [es, eq, er, ep]
  have em : (q + s / 4294967296) % 18446744073709551616 = q + s / 4294967296 := by omega
  rw [em]
  obtain ⟨m, hm⟩ : ∃ m, q + s / 4294967296 = m := ⟨_, rfl⟩
  rw [hm]
  have eo : (r + m % 4294967296) % 18446744073709551616 = r + m % 4294967296 := by omega
  rw [eo]
  obtain ⟨o, ho⟩ : ∃ o, r + m % 4294967296 = o := ⟨_, rfl⟩
  rw [ho]
  constructor <;> omega
end Sh
end Go.Proofs.Ythcgbjkbnbeobaa
