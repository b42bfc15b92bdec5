/-
  The words of the statements' whole numbers: how a float is put to one of two sides: walks over the program.
-/
import Derived.Test.YtcamlhpehnfnlabVa
import Derived.WalkKit
import Derived.BigRegion
namespace Go.Proofs.Ytcamlhpehnfnlab
open Go.RowKit Tf
attribute [local go_sem] run_bits run_from raw_feq raw_fne raw_flt raw_fgt run_neg

theorem u64wr (v : Int) : IntKind.u64.wrap v = v % 18446744073709551616 := by
  simp [IntKind.wrap, IntKind.bits, IntKind.signed]
theorem two_pow_cast (k : Nat) : ((2 : Int) ^ k) = ((2 ^ k : Nat) : Int) := by rw [Int.natCast_pow]; rfl

set_option maxHeartbeats 1000000 in
theorem wadd_go (g k : Nat) (m n q x0 x1 x2 lo hi : Int) (w : World)
    (h0 : w.cell? ⟨g, k, none⟩ = some (.int .u64 x0)) (h1 : w.cell? ⟨g, k + 1, none⟩ = some (.int .u64 x1)) (h2 : w.cell? ⟨g, k + 2, none⟩ = some (.int .u64 x2))
    (f0 : w.frozen? ⟨g, k, none⟩ = false) (f1 : w.frozen? ⟨g, k + 1, none⟩ = false) (f2 : w.frozen? ⟨g, k + 2, none⟩ = false)
    (hk : (k : Int) < 148) (hn0 : 0 ≤ n) (hn : n < 32) (hm0 : 0 ≤ m) (hm : m < 18446744073709551616) (L : IntKind.u64.wrap (m % 4294967296 * 2 ^ n.toNat) = lo) (H : IntKind.u64.wrap (m / 4294967296 * 2 ^ n.toNat) = hi) (l0 : 0 ≤ lo) (l1 : lo < 18446744073709551616) (i0 : 0 ≤ hi) (i1 : hi < 18446744073709551616) (hq : q = 32 * k + n)
    (b0 : 0 ≤ x0) (c0 : x0 ≤ 1152921504606846976) (b1 : 0 ≤ x1) (c1 : x1 ≤ 1152921504606846976) (b2 : 0 ≤ x2) (c2 : x2 ≤ 1152921504606846976) :
    Calls Try.prog 22 #[.pointer (some ⟨g, 0, none⟩), .int .u64 m, .int .i64 q] w fun e w' => e = .returned (.tuple #[]) ∧
      w' = (((w.setCell ⟨g, k, none⟩ (.int .u64 (x0 + lo % 4294967296))).setCell ⟨g, k + 1, none⟩ (.int .u64 (x1 + (lo / 4294967296 + hi % 4294967296)))).setCell ⟨g, k + 2, none⟩ (.int .u64 (x2 + hi / 4294967296))).drew.drew.drew := by
  have e1 : q / 32 = k := by omega
  have e2 : q % 32 = n := by omega
  have q0 : 0 ≤ q := by omega
  have q1 : q < 4800 := by omega
  clear hq
  go_enter Try.func22, Try.ntmps22
  go_wp2
  go_region
  go_wp2
  go_region
  go_wp2
  go_region
  go_wp2
  go_end0
  exact ⟨rfl, rfl⟩

/-- ONE ADDITION to the words of a block -/
theorem wadd_at (g : Nat) (f : Nat → Int) (m q B : Int) (w : World) (hg : w.heap[g]? = some (.cells (enc f) 32)) (hf : ∀ i, 0 ≤ f i ∧ f i ≤ B) (hB : B ≤ 1152921504606846976)
    (hm0 : 0 ≤ m) (hm : m < 18446744073709551616) (q0 : 0 ≤ q) (q1 : q < 4736) :
    Calls Try.prog 22 #[.pointer (some ⟨g, 0, none⟩), .int .u64 m, .int .i64 q] w fun e w' => e = .returned (.tuple #[]) ∧
      ∃ f', w'.heap[g]? = some (.cells (enc f') 32) ∧ Only g w w' ∧ valN f' 150 = valN f 150 + m * ((2 ^ q.toNat : Nat) : Int) ∧ ∀ i, 0 ≤ f' i ∧ f' i ≤ B + 8589934592 := by
  obtain ⟨k, hk⟩ : ∃ k : Nat, q / 32 = k := ⟨(q / 32).toNat, by omega⟩
  obtain ⟨n, hn⟩ : ∃ n : Nat, q % 32 = n := ⟨(q % 32).toNat, by omega⟩
  have hk2 : k + 2 < 150 := by omega
  have hn2 : n < 32 := by omega
  obtain ⟨a1, a2⟩ := shl_lt (m % 4294967296) n (by omega) (by omega) hn2
  obtain ⟨a3, a4⟩ := shl_lt (m / 4294967296) n (by omega) (by omega) hn2
  have hqn : q.toNat = 32 * k + n := by omega
  have c0 := row_cell g k f _ w hg (by omega)
  have c1 := row_cell g (k + 1) f _ w hg (by omega)
  have c2 := row_cell g (k + 2) f _ w hg (by omega)
  have z0 := row_frozen g k _ _ w hg
  have z1 := row_frozen g (k + 1) _ _ w hg
  have z2 := row_frozen g (k + 2) _ _ w hg
  obtain ⟨b0, d0⟩ := hf k
  obtain ⟨b1, d1⟩ := hf (k + 1)
  obtain ⟨b2, d2⟩ := hf (k + 2)
  have L : IntKind.u64.wrap (m % 4294967296 * 2 ^ ((n : Nat) : Int).toNat) = m % 4294967296 * ((2 ^ n : Nat) : Int) := by
    rw [u64wr, Int.toNat_natCast, two_pow_cast]
    generalize m % 4294967296 * ((2 ^ n : Nat) : Int) = z at *
    omega
  have H : IntKind.u64.wrap (m / 4294967296 * 2 ^ ((n : Nat) : Int).toNat) = m / 4294967296 * ((2 ^ n : Nat) : Int) := by
    rw [u64wr, Int.toNat_natCast, two_pow_cast]
    generalize m / 4294967296 * ((2 ^ n : Nat) : Int) = z at *
    omega
  have hv := fun lo hi => add_val f k n m lo hi hk2
  have hv := hv _ _ rfl rfl
  generalize m % 4294967296 * ((2 ^ n : Nat) : Int) = lo at *
  generalize m / 4294967296 * ((2 ^ n : Nat) : Int) = hi at *
  refine (wadd_go g k m n q _ _ _ lo hi w c0 c1 c2 z0 z1 z2 (by omega) (by omega) (by omega) hm0 hm L H a1 (by omega) a3 (by omega) (by omega) b0 (by omega) b1 (by omega) b2 (by omega)).mono ?_
  rintro e w' ⟨he, hw⟩
  refine ⟨he, _, ?_, ?_, by rw [hqn]; exact hv, ?_⟩
  · rw [hw]
    exact row_set g (k + 2) _ _ _ _ (row_set g (k + 1) _ _ _ _ (row_set g k _ _ _ _ hg (by omega)) (by omega)) (by omega)
  · rw [hw]
    exact (((only_set g k _ w).trans (only_set g (k + 1) _ _)).trans (only_set g (k + 2) _ _)).drew.drew.drew
  · intro i
    have := hf i
    unfold upd
    split
    · omega
    · split
      · omega
      · split
        · omega
        · omega

/-- a magnitude's whole number and exponent -/
def wm (m : Nat) : Nat := if m < 4503599627370496 then m else m % 4503599627370496 + 4503599627370496
def wk (m : Nat) : Nat := m / 4503599627370496 - 1
theorem wm_lt (m : Nat) : wm m < 9007199254740992 := by unfold wm; split <;> omega
theorem wm_wk (m : Nat) : mv m = wm m * 2 ^ wk m := by
  have e : (2 : Nat) ^ 52 = 4503599627370496 := by decide
  unfold mv mag wm wk
  rw [e]
  by_cases c : m < 4503599627370496
  · rw [if_pos c, if_pos c, show m / 4503599627370496 - 1 = 0 by omega]; omega
  · rw [if_neg c, if_neg c, Nat.add_comm]
theorem wk_top (m : Nat) (h : m < 9218868437227405312) : wk m ≤ 2045 := by unfold wk; omega

set_option maxHeartbeats 1000000 in
theorem lparts_go (x : Nat) (b : Int) (z : Bool) (w : World) (R : Hid (∀ w, Calls Try.prog 18 #[.float .f64 x] w fun e w' => e = .returned (.int .u64 b) ∧ w' = w)) (h0 : 0 ≤ b) (h1 : b < 18446744073709551616)
    (hz : (b / 9223372036854775808 == 1) = z) (he : b / 4503599627370496 % 2048 = 0) :
    Calls Try.prog 21 #[.float .f64 x] w fun e w' => e = .returned (.tuple #[.bool z, .int .u64 (b % 4503599627370496), .int .i64 0]) ∧ w' = w := by
  go_enter Try.func21, Try.ntmps21
  go_wp2_with fail
  refine (R.out _).mono ?_
  rintro e w' ⟨rfl, rfl⟩
  go_wp2
  refine bodyPost_ret (v := .tuple #[.bool z, .int .u64 (b % 4503599627370496), .int .i64 0]) (by simp [results, Try.results21, go_sem]) rfl ⟨rfl, rfl⟩
set_option maxHeartbeats 1000000 in
theorem lparts_go2 (x : Nat) (b e : Int) (z : Bool) (w : World) (R : Hid (∀ w, Calls Try.prog 18 #[.float .f64 x] w fun e w' => e = .returned (.int .u64 b) ∧ w' = w)) (h0 : 0 ≤ b) (h1 : b < 18446744073709551616)
    (hz : (b / 9223372036854775808 == 1) = z) (he : b / 4503599627370496 % 2048 = e) (e0 : 0 < e) :
    Calls Try.prog 21 #[.float .f64 x] w fun e' w' => e' = .returned (.tuple #[.bool z, .int .u64 (b % 4503599627370496 + 4503599627370496), .int .i64 (e - 1)]) ∧ w' = w := by
  go_enter Try.func21, Try.ntmps21
  go_wp2_with fail
  refine (R.out _).mono ?_
  rintro e w' ⟨rfl, rfl⟩
  go_wp2
  refine bodyPost_ret (v := .tuple #[.bool z, .int .u64 (b % 4503599627370496 + 4503599627370496), .int .i64 (e - 1)]) (by simp [results, Try.results21, go_sem]) rfl ⟨rfl, rfl⟩
theorem lparts_at (x : Nat) (z : Bool) (M E : Int) (w : World) (hx : x < 18446744073709551616) (hl : mg x < 9218868437227405312) (hz : ng x = z) (hM : ((wm (mg x) : Nat) : Int) = M) (hE : ((wk (mg x) : Nat) : Int) = E) :
    Calls Try.prog 21 #[.float .f64 x] w fun e w' => e = .returned (.tuple #[.bool z, .int .u64 M, .int .i64 E]) ∧ w' = w := by
  have R : Hid (∀ w, Calls Try.prog 18 #[.float .f64 x] w fun e w' => e = .returned (.int .u64 ((x : Nat) : Int)) ∧ w' = w) := fun w => rawBits_any x w
  have hz' : (((x : Nat) : Int) / 9223372036854775808 == 1) = z := by
    rw [← hz]; unfold ng
    rw [Bool.eq_iff_iff]; simp; omega
  unfold wm at hM
  unfold wk at hE
  have hm : mg x = x % 9223372036854775808 := rfl
  by_cases c : mg x < 4503599627370496
  · rw [if_pos c] at hM
    have h := lparts_go x (x : Nat) z w R (by omega) (by omega) hz' (by omega)
    have e1 : ((x : Nat) : Int) % 4503599627370496 = M := by omega
    have e2 : E = 0 := by omega
    rw [e1] at h
    rw [e2]; exact h
  · rw [if_neg c] at hM
    have h := lparts_go2 x (x : Nat) _ z w R (by omega) (by omega) hz' rfl (by omega)
    have e1 : ((x : Nat) : Int) % 4503599627370496 + 4503599627370496 = M := by omega
    have e2 : ((x : Nat) : Int) / 4503599627370496 % 2048 - 1 = E := by omega
    rw [e1, e2] at h
    exact h
end Go.Proofs.Ytcamlhpehnfnlab
