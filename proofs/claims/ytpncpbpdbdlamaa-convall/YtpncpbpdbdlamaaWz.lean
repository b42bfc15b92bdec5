/-
  What the reference's rounding to a float of fewer bits returns: walks over the program.
-/
import Derived.Test.YtpncpbpdbdlamaaWy
namespace Go.Proofs.Ytpncpbpdbdlamaa.Ref2
open Go.RowKit Tf
attribute [local go_sem] run_bits run_from raw_feq raw_fne raw_flt raw_fgt run_neg

set_option maxHeartbeats 1000000 in
theorem length_w (S : Nat → Nat) (L : Nat) (w : World) (hS : ∀ j, (S j : Int) / 2 = (S (j + 1) : Int)) (hL : ∀ j, j < L ↔ 0 < S j) (hW : ∀ j, IntKind.u64.wrap (S j : Int) = (S j : Int)) (l : (L : Int) ≤ 64) :
    Calls Try.prog 53 #[.int .u64 (S 0 : Nat)] w fun e w' => e = .returned (.int .i64 (L : Nat)) ∧ w' = w := by
  have HL := hid hL
  have HS := hid hS
  have HW := hid hW
  clear hL hS hW
  go_enter Try.func53, Try.ntmps53
  go_wp2
  go_loop [0, 3] (fun a b => ∃ j : Nat, j ≤ L ∧ a = .int .u64 (S j : Nat) ∧ b = .int .i64 (j : Nat)) (fun _ b => L - (intOf b).toNat)
  case atStart => exact ⟨0, Nat.zero_le _, rfl, rfl⟩
  case round =>
    obtain ⟨j, hj, rfl, rfl⟩ := hrel
    by_cases hlt : j < L
    · have h1 : 0 < S j := (HL.out j).1 hlt
      have h2 := HS.out j
      have h3 := HW.out (j + 1)
      go_wp2
      go_round
      case rel => exact ⟨j + 1, by omega, rfl, by go_num⟩
      case measure => simp [intOf]; omega
    · have e : j = L := by omega
      subst e
      have h1 : ¬ 0 < S j := fun h => hlt ((HL.out j).2 h)
      go_wp2
      go_ret
      exact ⟨rfl, rfl⟩
/-- how many bits -/
def bl (m : Nat) : Nat := if m = 0 then 0 else m.log2 + 1
theorem length_at (m L : Nat) (w : World) (hm : m < 18446744073709551616) (hL : bl m = L) :
    Calls Try.prog 53 #[.int .u64 (m : Nat)] w fun e w' => e = .returned (.int .i64 (L : Nat)) ∧ w' = w := by
  subst hL
  have h0 : m = m / 2 ^ 0 := by simp
  have := length_w (fun j => m / 2 ^ j) (bl m) w ?_ ?_ ?_ ?_
  · simpa using this
  · intro j
    show ((m / 2 ^ j : Nat) : Int) / 2 = ((m / 2 ^ (j + 1) : Nat) : Int)
    rw [Nat.pow_succ, ← Nat.div_div_eq_div_mul]; omega
  · intro j
    show j < bl m ↔ 0 < m / 2 ^ j
    unfold bl
    by_cases z : m = 0
    · subst z; simp
    · rw [if_neg z, Nat.div_pos_iff]
      constructor
      · intro h
        refine ⟨pow_pos j, Nat.le_trans (Nat.pow_le_pow_right (by omega) (by omega)) (Nat.log2_self_le z)⟩
      · intro h
        have h2 : m < 2 ^ (m.log2 + 1) := Nat.lt_log2_self
        by_cases c : j < m.log2 + 1
        · exact c
        · exfalso
          have : 2 ^ (m.log2 + 1) ≤ 2 ^ j := Nat.pow_le_pow_right (by omega) (by omega)
          omega
  · intro j
    have : m / 2 ^ j ≤ m := Nat.div_le_self ..
    show IntKind.u64.wrap ((m / 2 ^ j : Nat) : Int) = _
    generalize m / 2 ^ j = q at *
    rw [wrap_id] <;> omega
  · unfold bl
    by_cases z : m = 0
    · rw [if_pos z]; decide
    · rw [if_neg z]
      have := log2_small (k := 63) (show m < 2 ^ (63 + 1) by omega)
      omega
set_option maxHeartbeats 2000000 in
theorem smlogtg (m p I L : Nat) (e least un : Int) (w : World) (z : ((m : Int) == 0) = false) (lm : Hid (m < 18446744073709551616)) (hL : Hid (bl m = L)) (L1 : (L : Int) ≤ 64) (p1 : (p : Int) ≤ 60) (_e0 : -5000 < e) (_e1 : e < 5000) (l0 : -5000 < least) (l1 : least < 5000) (hun : (L : Int) + e - ((p : Int) + 1) = un) (c : un < least) (d : least < e) (d2 : e - least < 64) (k : Nat) (hk : IntKind.u64.wrap ((m : Int) * 2 ^ (e - least).toNat) = (k : Int)) (hw : IntKind.u64.wrap (k : Int) = (k : Int)) (f : I < k) :
    Calls Try.prog 40 #[.int .u64 (m : Nat), .int .i64 e, .int .i64 (p : Nat), .int .i64 least, .int .u64 (I : Nat)] w fun e w' => e = .returned (.int .u64 ((I : Nat))) ∧ w' = w := by
  go_enter Try.func40, Try.ntmps40
  go_wp2_with fail
  refine (length_at m L _ lm.out hL.out).mono ?_
  rintro e w' ⟨rfl, rfl⟩
  go_wp2
  go_ret
  exact ⟨rfl, rfl⟩

set_option maxHeartbeats 2000000 in
theorem smlogts (m p I L : Nat) (e least un : Int) (w : World) (z : ((m : Int) == 0) = false) (lm : Hid (m < 18446744073709551616)) (hL : Hid (bl m = L)) (L1 : (L : Int) ≤ 64) (p1 : (p : Int) ≤ 60) (_e0 : -5000 < e) (_e1 : e < 5000) (l0 : -5000 < least) (l1 : least < 5000) (hun : (L : Int) + e - ((p : Int) + 1) = un) (c : un < least) (d : least < e) (d2 : e - least < 64) (k : Nat) (hk : IntKind.u64.wrap ((m : Int) * 2 ^ (e - least).toNat) = (k : Int)) (hw : IntKind.u64.wrap (k : Int) = (k : Int)) (f : ¬ I < k) :
    Calls Try.prog 40 #[.int .u64 (m : Nat), .int .i64 e, .int .i64 (p : Nat), .int .i64 least, .int .u64 (I : Nat)] w fun e w' => e = .returned (.int .u64 ((k : Nat))) ∧ w' = w := by
  go_enter Try.func40, Try.ntmps40
  go_wp2_with fail
  refine (length_at m L _ lm.out hL.out).mono ?_
  rintro e w' ⟨rfl, rfl⟩
  go_wp2
  go_ret
  exact ⟨rfl, rfl⟩

set_option maxHeartbeats 2000000 in
theorem smloltg (m p I L : Nat) (e least un : Int) (w : World) (z : ((m : Int) == 0) = false) (lm : Hid (m < 18446744073709551616)) (hL : Hid (bl m = L)) (L1 : (L : Int) ≤ 64) (p1 : (p : Int) ≤ 60) (e0 : -5000 < e) (e1 : e < 5000) (l0 : -5000 < least) (l1 : least < 5000) (hun : (L : Int) + e - ((p : Int) + 1) = un) (c : un < least) (d : e < least) (j : Nat) (j1 : 1 ≤ j) (dj : least - e = (j : Int)) (lm2 : Hid (okm m j)) (k : Nat) (hk : Hid (rne m (2 ^ j) = k)) (hw : IntKind.u64.wrap (k : Int) = (k : Int)) (f : I < k) :
    Calls Try.prog 40 #[.int .u64 (m : Nat), .int .i64 e, .int .i64 (p : Nat), .int .i64 least, .int .u64 (I : Nat)] w fun e w' => e = .returned (.int .u64 ((I : Nat))) ∧ w' = w := by
  go_enter Try.func40, Try.ntmps40
  go_wp2_with fail
  refine (length_at m L _ lm.out hL.out).mono ?_
  rintro e w' ⟨rfl, rfl⟩
  go_wp2_with fail
  refine (near_at m j k _ lm2.out j1 hk.out).mono ?_
  rintro e w' ⟨rfl, rfl⟩
  go_wp2
  go_ret
  exact ⟨rfl, rfl⟩

set_option maxHeartbeats 2000000 in
theorem smlolts (m p I L : Nat) (e least un : Int) (w : World) (z : ((m : Int) == 0) = false) (lm : Hid (m < 18446744073709551616)) (hL : Hid (bl m = L)) (L1 : (L : Int) ≤ 64) (p1 : (p : Int) ≤ 60) (e0 : -5000 < e) (e1 : e < 5000) (l0 : -5000 < least) (l1 : least < 5000) (hun : (L : Int) + e - ((p : Int) + 1) = un) (c : un < least) (d : e < least) (j : Nat) (j1 : 1 ≤ j) (dj : least - e = (j : Int)) (lm2 : Hid (okm m j)) (k : Nat) (hk : Hid (rne m (2 ^ j) = k)) (hw : IntKind.u64.wrap (k : Int) = (k : Int)) (f : ¬ I < k) :
    Calls Try.prog 40 #[.int .u64 (m : Nat), .int .i64 e, .int .i64 (p : Nat), .int .i64 least, .int .u64 (I : Nat)] w fun e w' => e = .returned (.int .u64 ((k : Nat))) ∧ w' = w := by
  go_enter Try.func40, Try.ntmps40
  go_wp2_with fail
  refine (length_at m L _ lm.out hL.out).mono ?_
  rintro e w' ⟨rfl, rfl⟩
  go_wp2_with fail
  refine (near_at m j k _ lm2.out j1 hk.out).mono ?_
  rintro e w' ⟨rfl, rfl⟩
  go_wp2
  go_ret
  exact ⟨rfl, rfl⟩

set_option maxHeartbeats 2000000 in
theorem smloeqg (m p I L : Nat) (e least un : Int) (w : World) (z : ((m : Int) == 0) = false) (lm : Hid (m < 18446744073709551616)) (hL : Hid (bl m = L)) (L1 : (L : Int) ≤ 64) (p1 : (p : Int) ≤ 60) (e0 : -5000 < e) (e1 : e < 5000) (l0 : -5000 < least) (l1 : least < 5000) (hun : (L : Int) + e - ((p : Int) + 1) = un) (c : un < least) (d : e = least) (hw : IntKind.u64.wrap (m : Int) = (m : Int)) (f : I < m) :
    Calls Try.prog 40 #[.int .u64 (m : Nat), .int .i64 e, .int .i64 (p : Nat), .int .i64 least, .int .u64 (I : Nat)] w fun e w' => e = .returned (.int .u64 ((I : Nat))) ∧ w' = w := by
  subst d
  go_enter Try.func40, Try.ntmps40
  go_wp2_with fail
  refine (length_at m L _ lm.out hL.out).mono ?_
  rintro e w' ⟨rfl, rfl⟩
  go_wp2
  go_ret
  exact ⟨rfl, rfl⟩

set_option maxHeartbeats 2000000 in
theorem smloeqs (m p I L : Nat) (e least un : Int) (w : World) (z : ((m : Int) == 0) = false) (lm : Hid (m < 18446744073709551616)) (hL : Hid (bl m = L)) (L1 : (L : Int) ≤ 64) (p1 : (p : Int) ≤ 60) (e0 : -5000 < e) (e1 : e < 5000) (l0 : -5000 < least) (l1 : least < 5000) (hun : (L : Int) + e - ((p : Int) + 1) = un) (c : un < least) (d : e = least) (hw : IntKind.u64.wrap (m : Int) = (m : Int)) (f : ¬ I < m) :
    Calls Try.prog 40 #[.int .u64 (m : Nat), .int .i64 e, .int .i64 (p : Nat), .int .i64 least, .int .u64 (I : Nat)] w fun e w' => e = .returned (.int .u64 ((m : Nat))) ∧ w' = w := by
  subst d
  go_enter Try.func40, Try.ntmps40
  go_wp2_with fail
  refine (length_at m L _ lm.out hL.out).mono ?_
  rintro e w' ⟨rfl, rfl⟩
  go_wp2
  go_ret
  exact ⟨rfl, rfl⟩

set_option maxHeartbeats 2000000 in
theorem smhigtg (m p I L : Nat) (e least un : Int) (w : World) (z : ((m : Int) == 0) = false) (lm : Hid (m < 18446744073709551616)) (hL : Hid (bl m = L)) (L1 : (L : Int) ≤ 64) (p1 : (p : Int) ≤ 60) (e0 : -5000 < e) (e1 : e < 5000) (_l0 : -5000 < least) (_l1 : least < 5000) (hun : (L : Int) + e - ((p : Int) + 1) = un) (_c : ¬ un < least) (d : un < e) (d2 : e - un < 64) (k : Nat) (hk : IntKind.u64.wrap ((m : Int) * 2 ^ (e - un).toNat) = (k : Int)) (u : Int) (v b : Nat) (hu : un - least = u) (u0 : 0 ≤ u) (u1 : u < 5000) (hv : IntKind.u64.wrap (u * 2 ^ p) = (v : Int)) (hb : IntKind.u64.wrap ((v : Int) + (k : Int)) = (b : Int)) (f : I < b) :
    Calls Try.prog 40 #[.int .u64 (m : Nat), .int .i64 e, .int .i64 (p : Nat), .int .i64 least, .int .u64 (I : Nat)] w fun e w' => e = .returned (.int .u64 ((I : Nat))) ∧ w' = w := by
  go_enter Try.func40, Try.ntmps40
  go_wp2_with fail
  refine (length_at m L _ lm.out hL.out).mono ?_
  rintro e w' ⟨rfl, rfl⟩
  go_wp2
  go_ret
  exact ⟨rfl, rfl⟩

set_option maxHeartbeats 2000000 in
theorem smhigts (m p I L : Nat) (e least un : Int) (w : World) (z : ((m : Int) == 0) = false) (lm : Hid (m < 18446744073709551616)) (hL : Hid (bl m = L)) (L1 : (L : Int) ≤ 64) (p1 : (p : Int) ≤ 60) (e0 : -5000 < e) (e1 : e < 5000) (_l0 : -5000 < least) (_l1 : least < 5000) (hun : (L : Int) + e - ((p : Int) + 1) = un) (_c : ¬ un < least) (d : un < e) (d2 : e - un < 64) (k : Nat) (hk : IntKind.u64.wrap ((m : Int) * 2 ^ (e - un).toNat) = (k : Int)) (u : Int) (v b : Nat) (hu : un - least = u) (u0 : 0 ≤ u) (u1 : u < 5000) (hv : IntKind.u64.wrap (u * 2 ^ p) = (v : Int)) (hb : IntKind.u64.wrap ((v : Int) + (k : Int)) = (b : Int)) (f : ¬ I < b) :
    Calls Try.prog 40 #[.int .u64 (m : Nat), .int .i64 e, .int .i64 (p : Nat), .int .i64 least, .int .u64 (I : Nat)] w fun e w' => e = .returned (.int .u64 ((b : Nat))) ∧ w' = w := by
  go_enter Try.func40, Try.ntmps40
  go_wp2_with fail
  refine (length_at m L _ lm.out hL.out).mono ?_
  rintro e w' ⟨rfl, rfl⟩
  go_wp2
  go_ret
  exact ⟨rfl, rfl⟩

set_option maxHeartbeats 2000000 in
theorem smhiltg (m p I L : Nat) (e least un : Int) (w : World) (z : ((m : Int) == 0) = false) (lm : Hid (m < 18446744073709551616)) (hL : Hid (bl m = L)) (L1 : (L : Int) ≤ 64) (p1 : (p : Int) ≤ 60) (e0 : -5000 < e) (e1 : e < 5000) (l0 : -5000 < least) (l1 : least < 5000) (hun : (L : Int) + e - ((p : Int) + 1) = un) (_c : ¬ un < least) (d : e < un) (j : Nat) (j1 : 1 ≤ j) (dj : un - e = (j : Int)) (lm2 : Hid (okm m j)) (k : Nat) (hk : Hid (rne m (2 ^ j) = k)) (u : Int) (v b : Nat) (hu : un - least = u) (u0 : 0 ≤ u) (u1 : u < 5000) (hv : IntKind.u64.wrap (u * 2 ^ p) = (v : Int)) (hb : IntKind.u64.wrap ((v : Int) + (k : Int)) = (b : Int)) (f : I < b) :
    Calls Try.prog 40 #[.int .u64 (m : Nat), .int .i64 e, .int .i64 (p : Nat), .int .i64 least, .int .u64 (I : Nat)] w fun e w' => e = .returned (.int .u64 ((I : Nat))) ∧ w' = w := by
  go_enter Try.func40, Try.ntmps40
  go_wp2_with fail
  refine (length_at m L _ lm.out hL.out).mono ?_
  rintro e w' ⟨rfl, rfl⟩
  go_wp2_with fail
  refine (near_at m j k _ lm2.out j1 hk.out).mono ?_
  rintro e w' ⟨rfl, rfl⟩
  go_wp2
  go_ret
  exact ⟨rfl, rfl⟩

set_option maxHeartbeats 2000000 in
theorem smhilts (m p I L : Nat) (e least un : Int) (w : World) (z : ((m : Int) == 0) = false) (lm : Hid (m < 18446744073709551616)) (hL : Hid (bl m = L)) (L1 : (L : Int) ≤ 64) (p1 : (p : Int) ≤ 60) (e0 : -5000 < e) (e1 : e < 5000) (l0 : -5000 < least) (l1 : least < 5000) (hun : (L : Int) + e - ((p : Int) + 1) = un) (_c : ¬ un < least) (d : e < un) (j : Nat) (j1 : 1 ≤ j) (dj : un - e = (j : Int)) (lm2 : Hid (okm m j)) (k : Nat) (hk : Hid (rne m (2 ^ j) = k)) (u : Int) (v b : Nat) (hu : un - least = u) (u0 : 0 ≤ u) (u1 : u < 5000) (hv : IntKind.u64.wrap (u * 2 ^ p) = (v : Int)) (hb : IntKind.u64.wrap ((v : Int) + (k : Int)) = (b : Int)) (f : ¬ I < b) :
    Calls Try.prog 40 #[.int .u64 (m : Nat), .int .i64 e, .int .i64 (p : Nat), .int .i64 least, .int .u64 (I : Nat)] w fun e w' => e = .returned (.int .u64 ((b : Nat))) ∧ w' = w := by
  go_enter Try.func40, Try.ntmps40
  go_wp2_with fail
  refine (length_at m L _ lm.out hL.out).mono ?_
  rintro e w' ⟨rfl, rfl⟩
  go_wp2_with fail
  refine (near_at m j k _ lm2.out j1 hk.out).mono ?_
  rintro e w' ⟨rfl, rfl⟩
  go_wp2
  go_ret
  exact ⟨rfl, rfl⟩

set_option maxHeartbeats 2000000 in
theorem smhieqg (m p I L : Nat) (e least un : Int) (w : World) (z : ((m : Int) == 0) = false) (lm : Hid (m < 18446744073709551616)) (hL : Hid (bl m = L)) (_L1 : (L : Int) ≤ 64) (p1 : (p : Int) ≤ 60) (e0 : -5000 < e) (e1 : e < 5000) (_l0 : -5000 < least) (_l1 : least < 5000) (hun : (L : Int) + e - ((p : Int) + 1) = un) (c : ¬ un < least) (d : e = un) (u : Int) (v b : Nat) (hu : un - least = u) (u0 : 0 ≤ u) (u1 : u < 5000) (hv : IntKind.u64.wrap (u * 2 ^ p) = (v : Int)) (hb : IntKind.u64.wrap ((v : Int) + (m : Int)) = (b : Int)) (f : I < b) :
    Calls Try.prog 40 #[.int .u64 (m : Nat), .int .i64 e, .int .i64 (p : Nat), .int .i64 least, .int .u64 (I : Nat)] w fun e w' => e = .returned (.int .u64 ((I : Nat))) ∧ w' = w := by
  subst d
  go_enter Try.func40, Try.ntmps40
  go_wp2_with fail
  refine (length_at m L _ lm.out hL.out).mono ?_
  rintro e w' ⟨rfl, rfl⟩
  go_wp2
  go_ret
  exact ⟨rfl, rfl⟩

set_option maxHeartbeats 2000000 in
theorem smhieqs (m p I L : Nat) (e least un : Int) (w : World) (z : ((m : Int) == 0) = false) (lm : Hid (m < 18446744073709551616)) (hL : Hid (bl m = L)) (_L1 : (L : Int) ≤ 64) (p1 : (p : Int) ≤ 60) (e0 : -5000 < e) (e1 : e < 5000) (_l0 : -5000 < least) (_l1 : least < 5000) (hun : (L : Int) + e - ((p : Int) + 1) = un) (c : ¬ un < least) (d : e = un) (u : Int) (v b : Nat) (hu : un - least = u) (u0 : 0 ≤ u) (u1 : u < 5000) (hv : IntKind.u64.wrap (u * 2 ^ p) = (v : Int)) (hb : IntKind.u64.wrap ((v : Int) + (m : Int)) = (b : Int)) (f : ¬ I < b) :
    Calls Try.prog 40 #[.int .u64 (m : Nat), .int .i64 e, .int .i64 (p : Nat), .int .i64 least, .int .u64 (I : Nat)] w fun e w' => e = .returned (.int .u64 ((b : Nat))) ∧ w' = w := by
  subst d
  go_enter Try.func40, Try.ntmps40
  go_wp2_with fail
  refine (length_at m L _ lm.out hL.out).mono ?_
  rintro e w' ⟨rfl, rfl⟩
  go_wp2
  go_ret
  exact ⟨rfl, rfl⟩

end Go.Proofs.Ytpncpbpdbdlamaa.Ref2
