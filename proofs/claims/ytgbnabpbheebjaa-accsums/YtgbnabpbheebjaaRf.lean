/-
  The reference: one bit, and Value: walks over the program.
-/
import Derived.Test.YtgbnabpbheebjaaRe
namespace Go.Proofs.Ytgbnabpbheebjaa
open Go.RowKit Tf
attribute [local go_sem] run_bits run_from raw_feq raw_fne raw_flt raw_fgt run_neg

/-- the limbs of a whole number -/
def limN (M : Nat) (j : Nat) : Int := ((M / 2 ^ (32 * j) % 4294967296 : Nat) : Int)
theorem dig_nat (M j : Nat) : dig (M : Int) j = limN M j := by
  unfold dig limN
  rw [Int.natCast_emod, Int.natCast_ediv]; rfl
theorem carried_at (g : Nat) (f : Nat → Int) (c : Int) (p q r o : Bool) (w : World) (hR : IsR g f c p q r o w) (hl : Lim f 72057594037927936) :
    Calls Try.prog 40 #[.pointer (some ⟨g, 0, none⟩)] w fun e w' => e = .returned (.tuple #[.agg (encL (limN (valN f 136).natAbs)), .bool (decide (valN f 136 < 0))]) ∧ Hid (Below w.heap.size w w') := by
  have hp := p32_pos 136
  refine carried_go g f c p q r o (valN f 136) w hR hl rfl _ (fun j _ => ?_) _ rfl ?_ ?_ ?_
  · have e : (if valN f 136 < 0 then -valN f 136 else valN f 136) = (((valN f 136).natAbs : Nat) : Int) := by split <;> omega
    rw [e]; exact dig_nat _ _
  · exact fun h => Int.ediv_nonneg h (Int.le_of_lt hp)
  · exact fun h => Int.ediv_neg_of_neg_of_pos h hp
  · intro h
    refine Int.ediv_nonneg ?_ (Int.le_of_lt hp)
    rw [valN_neg]; omega

set_option maxHeartbeats 2000000 in
theorem rbit_go (g : Nat) (k q s v : Int) (w : World) (k0 : 0 ≤ k) (k1 : k < 4352) (hq : k / 32 = q) (hs : k % 32 = s) (q0 : 0 ≤ q) (q1 : q < 136) (_s0 : 0 ≤ s) (_s1 : s < 32) (h : w.cell? ⟨g, q.toNat, none⟩ = some (.int .i64 v)) (_v0 : 0 ≤ v) (_v1 : v < 4294967296) (u : Int) (hu : v / 2 ^ s.toNat = u) (u0 : 0 ≤ u) (u1 : u < 4294967296) :
    Calls Try.prog 41 #[.pointer (some ⟨g, 0, none⟩), .int .i64 k] w fun e w' => e = .returned (.int .u64 (u % 2)) ∧ w' = w := by
  go_enter Try.func41, Try.ntmps41
  go_wp2
  go_ret
  exact ⟨rfl, rfl⟩
theorem limb_bit (M q s : Nat) (hs : s < 32) : M / 2 ^ (32 * q) % 4294967296 / 2 ^ s % 2 = M / 2 ^ (32 * q + s) % 2 := by
  have e : M / 2 ^ (32 * q + s) = M / 2 ^ (32 * q) / 2 ^ s := by rw [Nat.pow_add, Nat.div_div_eq_div_mul]
  rw [e]
  generalize M / 2 ^ (32 * q) = Y
  have hd : (4294967296 : Nat) = 2 ^ s * 2 ^ (32 - s) := by rw [← Nat.pow_add, show s + (32 - s) = 32 by omega]
  have hd2 : 2 ^ (32 - s) = 2 * 2 ^ (31 - s) := by
    rw [show 32 - s = 1 + (31 - s) by omega, Nat.pow_add]
  rw [hd, Nat.mod_mul_right_div_self, hd2, Nat.mod_mul_right_mod]
/-- ONE BIT -/
theorem rbit_at (g M k : Nat) (T : TypeId) (w : World) (h : w.heap[g]? = some (.cells (encL (limN M)) T)) (hk : k < 4352) :
    Calls Try.prog 41 #[.pointer (some ⟨g, 0, none⟩), .int .i64 (k : Int)] w fun e w' => e = .returned (.int .u64 ((M / 2 ^ k % 2 : Nat) : Int)) ∧ w' = w := by
  obtain ⟨q, hq⟩ : ∃ q, k / 32 = q := ⟨_, rfl⟩
  obtain ⟨s, hs⟩ : ∃ q, k % 32 = q := ⟨_, rfl⟩
  have hc := lim_cell g q _ _ _ h (by omega)
  have hkq : k = 32 * q + s := by omega
  have hb := limb_bit M q s (by omega)
  unfold limN at hc
  have hlt := Nat.mod_lt (M / 2 ^ (32 * q)) (show 0 < 4294967296 by decide)
  obtain ⟨Y, hY⟩ : ∃ Y, M / 2 ^ (32 * q) % 4294967296 = Y := ⟨_, rfl⟩
  rw [hY] at hc hb hlt
  have hle := Nat.div_le_self Y (2 ^ s)
  have e1 : ((Y : Nat) : Int) / 2 ^ ((s : Nat) : Int).toNat = ((Y / 2 ^ s : Nat) : Int) := by
    rw [Int.toNat_natCast, two_pow_cast, Int.natCast_ediv]
  have e2 : (M / 2 ^ k % 2 : Nat) = Y / 2 ^ s % 2 := by rw [hkq, ← hb]
  rw [e2]
  generalize Y / 2 ^ s = U at *
  exact rbit_go g k q s Y w (by omega) (by omega) (by omega) (by omega) (by omega) (by omega) (by omega) (by omega) hc (by omega) (by omega) _ e1 (by omega) (by omega)
end Go.Proofs.Ytgbnabpbheebjaa
