/-
  Some of the texts of this proof, one behind the other.
-/
import Derived.Test.YtdgkmaamjdglmaaGreatDoorZ12
import Derived.Test.YtdgkmaamjdglmaaGreatDoorZ11
import Derived.Test.YtdgkmaamjdglmaaGreatDoorZ06
import Derived.Test.YtdgkmaamjdglmaaGreatDoorZ09
/-
  What the reference's rounding to a float of fewer bits returns: walks over the program.
-/
namespace Go.Proofs.YtdgkmaamjdglmaaGreatDoor.Ref2
open Go.RowKit Tf
attribute [local go_sem] run_bits run_from raw_feq raw_fne raw_flt raw_fgt run_neg

set_option maxHeartbeats 1000000 in
theorem length_w (S : Nat → Nat) (L : Nat) (w : World) (hS : ∀ j, (S j : Int) / 2 = (S (j + 1) : Int)) (hL : ∀ j, j < L ↔ 0 < S j) (hW : ∀ j, IntKind.u64.wrap (S j : Int) = (S j : Int)) (l : (L : Int) ≤ 64) :
    Calls Tryz.prog 102 #[.int .u64 (S 0 : Nat)] w fun e w' => e = .returned (.int .i64 (L : Nat)) ∧ w' = w := by
  have HL := hid hL
  have HS := hid hS
  have HW := hid hW
  clear hL hS hW
  go_enter Tryz.func102, Tryz.ntmps102
  go_wp2
  go_loop [0, 3] (fun a b => ∃ j : Nat, j ≤ L ∧ a = .int .u64 (S j : Nat) ∧ b = .int .i64 (j : Nat)) (fun _ b => L - (intOf b).toNat)
  case atStart => exact ⟨0, Nat.zero_le _, rfl, rfl⟩
  case round =>
    obtain ⟨j, hj, rfl, rfl⟩ := hrel
    by_cases hlt : j < L
    · have h1 : 0 < S j := (HL.out j).1 hlt
      have h2 := HS.out j
      have h3 := HW.out (j + 1)
      go_wp2
      go_round
      case rel => exact ⟨j + 1, by omega, rfl, by go_num⟩
      case measure => simp [intOf]; omega
    · have e : j = L := by omega
      subst e
      have h1 : ¬ 0 < S j := fun h => hlt ((HL.out j).2 h)
      go_wp2
      go_ret
      exact ⟨rfl, rfl⟩
/-- how many bits -/
def bl (m : Nat) : Nat := if m = 0 then 0 else m.log2 + 1
theorem length_at (m L : Nat) (w : World) (hm : m < 18446744073709551616) (hL : bl m = L) :
    Calls Tryz.prog 102 #[.int .u64 (m : Nat)] w fun e w' => e = .returned (.int .i64 (L : Nat)) ∧ w' = w := by
  subst hL
  have h0 : m = m / 2 ^ 0 := by simp
  have := length_w (fun j => m / 2 ^ j) (bl m) w ?_ ?_ ?_ ?_
  · simpa using this
  · intro j
    show ((m / 2 ^ j : Nat) : Int) / 2 = ((m / 2 ^ (j + 1) : Nat) : Int)
    rw [Nat.pow_succ, ← Nat.div_div_eq_div_mul]; omega
  · intro j
    show j < bl m ↔ 0 < m / 2 ^ j
    unfold bl
    by_cases z : m = 0
    · subst z; simp
    · rw [if_neg z, Nat.div_pos_iff]
      constructor
      · intro h
        refine ⟨pow_pos j, Nat.le_trans (Nat.pow_le_pow_right (by omega) (by omega)) (Nat.log2_self_le z)⟩
      · intro h
        have h2 : m < 2 ^ (m.log2 + 1) := Nat.lt_log2_self
        by_cases c : j < m.log2 + 1
        · exact c
        · exfalso
          have : 2 ^ (m.log2 + 1) ≤ 2 ^ j := Nat.pow_le_pow_right (by omega) (by omega)
          omega
  · intro j
    have : m / 2 ^ j ≤ m := Nat.div_le_self ..
    show IntKind.u64.wrap ((m / 2 ^ j : Nat) : Int) = _
    generalize m / 2 ^ j = q at *
    rw [wrap_id] <;> omega
  · unfold bl
    by_cases z : m = 0
    · rw [if_pos z]; decide
    · rw [if_neg z]
      have := log2_small (k := 63) (show m < 2 ^ (63 + 1) by omega)
      omega
set_option maxHeartbeats 2000000 in
theorem smlogtg (m p I L : Nat) (e least un : Int) (w : World) (z : ((m : Int) == 0) = false) (lm : Hid (m < 18446744073709551616)) (hL : Hid (bl m = L)) (L1 : (L : Int) ≤ 64) (p1 : (p : Int) ≤ 60) (_e0 : -5000 < e) (_e1 : e < 5000) (l0 : -5000 < least) (l1 : least < 5000) (hun : (L : Int) + e - ((p : Int) + 1) = un) (c : un < least) (d : least < e) (d2 : e - least < 64) (k : Nat) (hk : IntKind.u64.wrap ((m : Int) * 2 ^ (e - least).toNat) = (k : Int)) (hw : IntKind.u64.wrap (k : Int) = (k : Int)) (f : I < k) :
    Calls Tryz.prog 85 #[.int .u64 (m : Nat), .int .i64 e, .int .i64 (p : Nat), .int .i64 least, .int .u64 (I : Nat)] w fun e w' => e = .returned (.int .u64 ((I : Nat))) ∧ w' = w := by
  go_enter Tryz.func85, Tryz.ntmps85
  go_wp2_with fail
  refine (length_at m L _ lm.out hL.out).mono ?_
  rintro e w' ⟨rfl, rfl⟩
  go_wp2
  go_ret
  exact ⟨rfl, rfl⟩

set_option maxHeartbeats 2000000 in
theorem smlogts (m p I L : Nat) (e least un : Int) (w : World) (z : ((m : Int) == 0) = false) (lm : Hid (m < 18446744073709551616)) (hL : Hid (bl m = L)) (L1 : (L : Int) ≤ 64) (p1 : (p : Int) ≤ 60) (_e0 : -5000 < e) (_e1 : e < 5000) (l0 : -5000 < least) (l1 : least < 5000) (hun : (L : Int) + e - ((p : Int) + 1) = un) (c : un < least) (d : least < e) (d2 : e - least < 64) (k : Nat) (hk : IntKind.u64.wrap ((m : Int) * 2 ^ (e - least).toNat) = (k : Int)) (hw : IntKind.u64.wrap (k : Int) = (k : Int)) (f : ¬ I < k) :
    Calls Tryz.prog 85 #[.int .u64 (m : Nat), .int .i64 e, .int .i64 (p : Nat), .int .i64 least, .int .u64 (I : Nat)] w fun e w' => e = .returned (.int .u64 ((k : Nat))) ∧ w' = w := by
  go_enter Tryz.func85, Tryz.ntmps85
  go_wp2_with fail
  refine (length_at m L _ lm.out hL.out).mono ?_
  rintro e w' ⟨rfl, rfl⟩
  go_wp2
  go_ret
  exact ⟨rfl, rfl⟩

set_option maxHeartbeats 2000000 in
theorem smloltg (m p I L : Nat) (e least un : Int) (w : World) (z : ((m : Int) == 0) = false) (lm : Hid (m < 18446744073709551616)) (hL : Hid (bl m = L)) (L1 : (L : Int) ≤ 64) (p1 : (p : Int) ≤ 60) (e0 : -5000 < e) (e1 : e < 5000) (l0 : -5000 < least) (l1 : least < 5000) (hun : (L : Int) + e - ((p : Int) + 1) = un) (c : un < least) (d : e < least) (j : Nat) (j1 : 1 ≤ j) (dj : least - e = (j : Int)) (lm2 : Hid (okm m j)) (k : Nat) (hk : Hid (rne m (2 ^ j) = k)) (hw : IntKind.u64.wrap (k : Int) = (k : Int)) (f : I < k) :
    Calls Tryz.prog 85 #[.int .u64 (m : Nat), .int .i64 e, .int .i64 (p : Nat), .int .i64 least, .int .u64 (I : Nat)] w fun e w' => e = .returned (.int .u64 ((I : Nat))) ∧ w' = w := by
  go_enter Tryz.func85, Tryz.ntmps85
  go_wp2_with fail
  refine (length_at m L _ lm.out hL.out).mono ?_
  rintro e w' ⟨rfl, rfl⟩
  go_wp2_with fail
  refine (near_at m j k _ lm2.out j1 hk.out).mono ?_
  rintro e w' ⟨rfl, rfl⟩
  go_wp2
  go_ret
  exact ⟨rfl, rfl⟩

set_option maxHeartbeats 2000000 in
theorem smlolts (m p I L : Nat) (e least un : Int) (w : World) (z : ((m : Int) == 0) = false) (lm : Hid (m < 18446744073709551616)) (hL : Hid (bl m = L)) (L1 : (L : Int) ≤ 64) (p1 : (p : Int) ≤ 60) (e0 : -5000 < e) (e1 : e < 5000) (l0 : -5000 < least) (l1 : least < 5000) (hun : (L : Int) + e - ((p : Int) + 1) = un) (c : un < least) (d : e < least) (j : Nat) (j1 : 1 ≤ j) (dj : least - e = (j : Int)) (lm2 : Hid (okm m j)) (k : Nat) (hk : Hid (rne m (2 ^ j) = k)) (hw : IntKind.u64.wrap (k : Int) = (k : Int)) (f : ¬ I < k) :
    Calls Tryz.prog 85 #[.int .u64 (m : Nat), .int .i64 e, .int .i64 (p : Nat), .int .i64 least, .int .u64 (I : Nat)] w fun e w' => e = .returned (.int .u64 ((k : Nat))) ∧ w' = w := by
  go_enter Tryz.func85, Tryz.ntmps85
  go_wp2_with fail
  refine (length_at m L _ lm.out hL.out).mono ?_
  rintro e w' ⟨rfl, rfl⟩
  go_wp2_with fail
  refine (near_at m j k _ lm2.out j1 hk.out).mono ?_
  rintro e w' ⟨rfl, rfl⟩
  go_wp2
  go_ret
  exact ⟨rfl, rfl⟩

set_option maxHeartbeats 2000000 in
theorem smloeqg (m p I L : Nat) (e least un : Int) (w : World) (z : ((m : Int) == 0) = false) (lm : Hid (m < 18446744073709551616)) (hL : Hid (bl m = L)) (L1 : (L : Int) ≤ 64) (p1 : (p : Int) ≤ 60) (e0 : -5000 < e) (e1 : e < 5000) (l0 : -5000 < least) (l1 : least < 5000) (hun : (L : Int) + e - ((p : Int) + 1) = un) (c : un < least) (d : e = least) (hw : IntKind.u64.wrap (m : Int) = (m : Int)) (f : I < m) :
    Calls Tryz.prog 85 #[.int .u64 (m : Nat), .int .i64 e, .int .i64 (p : Nat), .int .i64 least, .int .u64 (I : Nat)] w fun e w' => e = .returned (.int .u64 ((I : Nat))) ∧ w' = w := by
  subst d
  go_enter Tryz.func85, Tryz.ntmps85
  go_wp2_with fail
  refine (length_at m L _ lm.out hL.out).mono ?_
  rintro e w' ⟨rfl, rfl⟩
  go_wp2
  go_ret
  exact ⟨rfl, rfl⟩

set_option maxHeartbeats 2000000 in
theorem smloeqs (m p I L : Nat) (e least un : Int) (w : World) (z : ((m : Int) == 0) = false) (lm : Hid (m < 18446744073709551616)) (hL : Hid (bl m = L)) (L1 : (L : Int) ≤ 64) (p1 : (p : Int) ≤ 60) (e0 : -5000 < e) (e1 : e < 5000) (l0 : -5000 < least) (l1 : least < 5000) (hun : (L : Int) + e - ((p : Int) + 1) = un) (c : un < least) (d : e = least) (hw : IntKind.u64.wrap (m : Int) = (m : Int)) (f : ¬ I < m) :
    Calls Tryz.prog 85 #[.int .u64 (m : Nat), .int .i64 e, .int .i64 (p : Nat), .int .i64 least, .int .u64 (I : Nat)] w fun e w' => e = .returned (.int .u64 ((m : Nat))) ∧ w' = w := by
  subst d
  go_enter Tryz.func85, Tryz.ntmps85
  go_wp2_with fail
  refine (length_at m L _ lm.out hL.out).mono ?_
  rintro e w' ⟨rfl, rfl⟩
  go_wp2
  go_ret
  exact ⟨rfl, rfl⟩

set_option maxHeartbeats 2000000 in
theorem smhigtg (m p I L : Nat) (e least un : Int) (w : World) (z : ((m : Int) == 0) = false) (lm : Hid (m < 18446744073709551616)) (hL : Hid (bl m = L)) (L1 : (L : Int) ≤ 64) (p1 : (p : Int) ≤ 60) (e0 : -5000 < e) (e1 : e < 5000) (_l0 : -5000 < least) (_l1 : least < 5000) (hun : (L : Int) + e - ((p : Int) + 1) = un) (_c : ¬ un < least) (d : un < e) (d2 : e - un < 64) (k : Nat) (hk : IntKind.u64.wrap ((m : Int) * 2 ^ (e - un).toNat) = (k : Int)) (u : Int) (v b : Nat) (hu : un - least = u) (u0 : 0 ≤ u) (u1 : u < 5000) (hv : IntKind.u64.wrap (u * 2 ^ p) = (v : Int)) (hb : IntKind.u64.wrap ((v : Int) + (k : Int)) = (b : Int)) (f : I < b) :
    Calls Tryz.prog 85 #[.int .u64 (m : Nat), .int .i64 e, .int .i64 (p : Nat), .int .i64 least, .int .u64 (I : Nat)] w fun e w' => e = .returned (.int .u64 ((I : Nat))) ∧ w' = w := by
  go_enter Tryz.func85, Tryz.ntmps85
  go_wp2_with fail
  refine (length_at m L _ lm.out hL.out).mono ?_
  rintro e w' ⟨rfl, rfl⟩
  go_wp2
  go_ret
  exact ⟨rfl, rfl⟩

set_option maxHeartbeats 2000000 in
theorem smhigts (m p I L : Nat) (e least un : Int) (w : World) (z : ((m : Int) == 0) = false) (lm : Hid (m < 18446744073709551616)) (hL : Hid (bl m = L)) (L1 : (L : Int) ≤ 64) (p1 : (p : Int) ≤ 60) (e0 : -5000 < e) (e1 : e < 5000) (_l0 : -5000 < least) (_l1 : least < 5000) (hun : (L : Int) + e - ((p : Int) + 1) = un) (_c : ¬ un < least) (d : un < e) (d2 : e - un < 64) (k : Nat) (hk : IntKind.u64.wrap ((m : Int) * 2 ^ (e - un).toNat) = (k : Int)) (u : Int) (v b : Nat) (hu : un - least = u) (u0 : 0 ≤ u) (u1 : u < 5000) (hv : IntKind.u64.wrap (u * 2 ^ p) = (v : Int)) (hb : IntKind.u64.wrap ((v : Int) + (k : Int)) = (b : Int)) (f : ¬ I < b) :
    Calls Tryz.prog 85 #[.int .u64 (m : Nat), .int .i64 e, .int .i64 (p : Nat), .int .i64 least, .int .u64 (I : Nat)] w fun e w' => e = .returned (.int .u64 ((b : Nat))) ∧ w' = w := by
  go_enter Tryz.func85, Tryz.ntmps85
  go_wp2_with fail
  refine (length_at m L _ lm.out hL.out).mono ?_
  rintro e w' ⟨rfl, rfl⟩
  go_wp2
  go_ret
  exact ⟨rfl, rfl⟩

set_option maxHeartbeats 2000000 in
theorem smhiltg (m p I L : Nat) (e least un : Int) (w : World) (z : ((m : Int) == 0) = false) (lm : Hid (m < 18446744073709551616)) (hL : Hid (bl m = L)) (L1 : (L : Int) ≤ 64) (p1 : (p : Int) ≤ 60) (e0 : -5000 < e) (e1 : e < 5000) (l0 : -5000 < least) (l1 : least < 5000) (hun : (L : Int) + e - ((p : Int) + 1) = un) (_c : ¬ un < least) (d : e < un) (j : Nat) (j1 : 1 ≤ j) (dj : un - e = (j : Int)) (lm2 : Hid (okm m j)) (k : Nat) (hk : Hid (rne m (2 ^ j) = k)) (u : Int) (v b : Nat) (hu : un - least = u) (u0 : 0 ≤ u) (u1 : u < 5000) (hv : IntKind.u64.wrap (u * 2 ^ p) = (v : Int)) (hb : IntKind.u64.wrap ((v : Int) + (k : Int)) = (b : Int)) (f : I < b) :
    Calls Tryz.prog 85 #[.int .u64 (m : Nat), .int .i64 e, .int .i64 (p : Nat), .int .i64 least, .int .u64 (I : Nat)] w fun e w' => e = .returned (.int .u64 ((I : Nat))) ∧ w' = w := by
  go_enter Tryz.func85, Tryz.ntmps85
  go_wp2_with fail
  refine (length_at m L _ lm.out hL.out).mono ?_
  rintro e w' ⟨rfl, rfl⟩
  go_wp2_with fail
  refine (near_at m j k _ lm2.out j1 hk.out).mono ?_
  rintro e w' ⟨rfl, rfl⟩
  go_wp2
  go_ret
  exact ⟨rfl, rfl⟩

set_option maxHeartbeats 2000000 in
theorem smhilts (m p I L : Nat) (e least un : Int) (w : World) (z : ((m : Int) == 0) = false) (lm : Hid (m < 18446744073709551616)) (hL : Hid (bl m = L)) (L1 : (L : Int) ≤ 64) (p1 : (p : Int) ≤ 60) (e0 : -5000 < e) (e1 : e < 5000) (l0 : -5000 < least) (l1 : least < 5000) (hun : (L : Int) + e - ((p : Int) + 1) = un) (_c : ¬ un < least) (d : e < un) (j : Nat) (j1 : 1 ≤ j) (dj : un - e = (j : Int)) (lm2 : Hid (okm m j)) (k : Nat) (hk : Hid (rne m (2 ^ j) = k)) (u : Int) (v b : Nat) (hu : un - least = u) (u0 : 0 ≤ u) (u1 : u < 5000) (hv : IntKind.u64.wrap (u * 2 ^ p) = (v : Int)) (hb : IntKind.u64.wrap ((v : Int) + (k : Int)) = (b : Int)) (f : ¬ I < b) :
    Calls Tryz.prog 85 #[.int .u64 (m : Nat), .int .i64 e, .int .i64 (p : Nat), .int .i64 least, .int .u64 (I : Nat)] w fun e w' => e = .returned (.int .u64 ((b : Nat))) ∧ w' = w := by
  go_enter Tryz.func85, Tryz.ntmps85
  go_wp2_with fail
  refine (length_at m L _ lm.out hL.out).mono ?_
  rintro e w' ⟨rfl, rfl⟩
  go_wp2_with fail
  refine (near_at m j k _ lm2.out j1 hk.out).mono ?_
  rintro e w' ⟨rfl, rfl⟩
  go_wp2
  go_ret
  exact ⟨rfl, rfl⟩

set_option maxHeartbeats 2000000 in
theorem smhieqg (m p I L : Nat) (e least un : Int) (w : World) (z : ((m : Int) == 0) = false) (lm : Hid (m < 18446744073709551616)) (hL : Hid (bl m = L)) (_L1 : (L : Int) ≤ 64) (p1 : (p : Int) ≤ 60) (e0 : -5000 < e) (e1 : e < 5000) (_l0 : -5000 < least) (_l1 : least < 5000) (hun : (L : Int) + e - ((p : Int) + 1) = un) (c : ¬ un < least) (d : e = un) (u : Int) (v b : Nat) (hu : un - least = u) (u0 : 0 ≤ u) (u1 : u < 5000) (hv : IntKind.u64.wrap (u * 2 ^ p) = (v : Int)) (hb : IntKind.u64.wrap ((v : Int) + (m : Int)) = (b : Int)) (f : I < b) :
    Calls Tryz.prog 85 #[.int .u64 (m : Nat), .int .i64 e, .int .i64 (p : Nat), .int .i64 least, .int .u64 (I : Nat)] w fun e w' => e = .returned (.int .u64 ((I : Nat))) ∧ w' = w := by
  subst d
  go_enter Tryz.func85, Tryz.ntmps85
  go_wp2_with fail
  refine (length_at m L _ lm.out hL.out).mono ?_
  rintro e w' ⟨rfl, rfl⟩
  go_wp2
  go_ret
  exact ⟨rfl, rfl⟩

set_option maxHeartbeats 2000000 in
theorem smhieqs (m p I L : Nat) (e least un : Int) (w : World) (z : ((m : Int) == 0) = false) (lm : Hid (m < 18446744073709551616)) (hL : Hid (bl m = L)) (_L1 : (L : Int) ≤ 64) (p1 : (p : Int) ≤ 60) (e0 : -5000 < e) (e1 : e < 5000) (_l0 : -5000 < least) (_l1 : least < 5000) (hun : (L : Int) + e - ((p : Int) + 1) = un) (c : ¬ un < least) (d : e = un) (u : Int) (v b : Nat) (hu : un - least = u) (u0 : 0 ≤ u) (u1 : u < 5000) (hv : IntKind.u64.wrap (u * 2 ^ p) = (v : Int)) (hb : IntKind.u64.wrap ((v : Int) + (m : Int)) = (b : Int)) (f : ¬ I < b) :
    Calls Tryz.prog 85 #[.int .u64 (m : Nat), .int .i64 e, .int .i64 (p : Nat), .int .i64 least, .int .u64 (I : Nat)] w fun e w' => e = .returned (.int .u64 ((b : Nat))) ∧ w' = w := by
  subst d
  go_enter Tryz.func85, Tryz.ntmps85
  go_wp2_with fail
  refine (length_at m L _ lm.out hL.out).mono ?_
  rintro e w' ⟨rfl, rfl⟩
  go_wp2
  go_ret
  exact ⟨rfl, rfl⟩

end Go.Proofs.YtdgkmaamjdglmaaGreatDoor.Ref2

/-
  The reference's rounding to a float of fewer bits is the nearest rung: the walk's answer by plain numbers.
-/
namespace Go.Proofs.YtdgkmaamjdglmaaGreatDoor.Ref2
open Go.RowKit Tf
attribute [local go_sem] run_bits run_from raw_feq raw_fne raw_flt raw_fgt run_neg

set_option maxHeartbeats 1000000 in
theorem small_0 (e p least : Int) (I : Nat) (w : World) :
    Calls Tryz.prog 85 #[.int .u64 0, .int .i64 e, .int .i64 p, .int .i64 least, .int .u64 (I : Nat)] w fun e w' => e = .returned (.int .u64 0) ∧ w' = w := by
  go_enter Tryz.func85, Tryz.ntmps85
  go_wp2
  go_ret
  exact ⟨rfl, rfl⟩
theorem rung_none (p d : Nat) : rung p d 0 = 0 := by unfold rung rne; simp
theorem rne_up (m t d : Nat) : rne (m * 2 ^ (d + t)) (2 ^ d) = m * 2 ^ t := by
  rw [Nat.add_comm, Nat.pow_add, ← Nat.mul_assoc, rne_mul _ _ (pow_pos d)]
theorem rne_dn (m j E : Nat) : rne (m * 2 ^ E) (2 ^ (j + E)) = rne m (2 ^ j) := by
  rw [Nat.pow_add, rne_scale _ _ _ (pow_pos E)]
theorem rne_top (m j p : Nat) (h : m < 2 ^ (p + 1 + j)) : rne m (2 ^ j) ≤ 2 ^ (p + 1) := by
  have h1 := rne_mono (2 ^ j) (show m ≤ 2 ^ (p + 1) * 2 ^ j by rw [← Nat.pow_add]; omega)
  rwa [rne_mul _ _ (pow_pos j)] at h1

theorem small_at (m p I : Nat) (e least : Int) (r : Nat) (w : World) (hm : m ≤ 9223372036854775808) (hm2 : m < 9223372036854775808 ∨ least ≤ e) (hp : p ≤ 52) (e0 : -1100 ≤ e) (e1 : e ≤ 1100) (l0 : -1100 ≤ least) (l1 : least ≤ 0)
    (HB : ∀ u : Nat, (u : Int) ≤ 64 + e - least → u * 2 ^ p < 9223372036854775808) (hr : min (rung p (least - e).toNat (m * 2 ^ (e - least).toNat)) I = r) :
    Calls Tryz.prog 85 #[.int .u64 (m : Nat), .int .i64 e, .int .i64 (p : Nat), .int .i64 least, .int .u64 (I : Nat)] w fun e w' => e = .returned (.int .u64 (r : Nat)) ∧ w' = w := by
  by_cases z : m = 0
  · subst z
    rw [Nat.zero_mul, rung_none, Nat.zero_min] at hr
    subst hr
    exact small_0 e p least I w
  · have zb : ((m : Int) == 0) = false := by simp; omega
    obtain ⟨g, hg⟩ : ∃ g, m.log2 = g := ⟨_, rfl⟩
    have hb : bl m = g + 1 := by unfold bl; rw [if_neg z, hg]
    have g63 : g ≤ 63 := by
      have := log2_small (k := 63) (show m < 2 ^ (63 + 1) by omega)
      omega
    have hlo : 2 ^ g ≤ m := by rw [← hg]; exact Nat.log2_self_le z
    have hhi : m < 2 ^ (g + 1) := by rw [← hg]; exact Nat.lt_log2_self
    obtain ⟨E, hE⟩ : ∃ E, (e - least).toNat = E := ⟨_, rfl⟩
    obtain ⟨Dd, hD⟩ : ∃ Dd, (least - e).toNat = Dd := ⟨_, rfl⟩
    have hlogN : (m * 2 ^ E).log2 = g + E := by rw [log2_mul_pow m E z, hg]
    rw [hE, hD] at hr
    have hrung : rung p Dd (m * 2 ^ E) = (g + E - (p + Dd)) * 2 ^ p + rne (m * 2 ^ E) (2 ^ (g + E - (p + Dd) + Dd)) := by unfold rung; rw [hlogN]
    rw [hrung] at hr
    have hp53 : 2 ^ (p + 1) ≤ 2 ^ 53 := Nat.pow_le_pow_right (by omega) (by omega)
    have hun : ((g + 1 : Nat) : Int) + e - ((p : Int) + 1) = (g : Int) + e - p := by omega
    have wid : ∀ a : Nat, a < 18446744073709551616 → IntKind.u64.wrap (a : Int) = (a : Int) := fun a h => by rw [wrap_id] <;> omega
    -- what is kept, in each of the three ways; 'u': the band; 't': how far up
    have kup : ∀ u t : Nat, g + E - (p + Dd) = u → E = u + Dd + t → g + t ≤ p → rne (m * 2 ^ E) (2 ^ (u + Dd)) = m * 2 ^ t ∧ m * 2 ^ t ≤ 2 ^ (p + 1) := by
      intro u t _ h2 h3
      refine ⟨by rw [h2]; exact rne_up m t (u + Dd), ?_⟩
      have h4 : m * 2 ^ t ≤ 2 ^ (g + 1) * 2 ^ t := Nat.mul_le_mul_right _ (by omega)
      rw [← Nat.pow_add] at h4
      exact Nat.le_trans h4 (Nat.pow_le_pow_right (by omega) (by omega))
    have kdn : ∀ u j : Nat, u + Dd = j + E → g ≤ p + j → rne (m * 2 ^ E) (2 ^ (u + Dd)) = rne m (2 ^ j) ∧ rne m (2 ^ j) ≤ 2 ^ (p + 1) := by
      intro u j h2 h3
      refine ⟨by rw [h2]; exact rne_dn m j E, rne_top m j p ?_⟩
      exact Nat.lt_of_lt_of_le hhi (Nat.pow_le_pow_right (by omega) (by omega))
    have fin : ∀ b : Nat, min b I = r → (I < b → r = I) ∧ (¬ I < b → r = b) := by intro b h; omega
    by_cases c : (g : Int) + e - p < least
    · have u0 : g + E - (p + Dd) = 0 := by omega
      rw [u0, Nat.zero_mul, Nat.zero_add, Nat.zero_add] at hr
      by_cases d : least < e
      · obtain ⟨k1, k2⟩ := kup 0 E u0 (by omega) (by omega)
        rw [Nat.zero_add] at k1
        rw [k1] at hr
        have hw : IntKind.u64.wrap ((m : Int) * 2 ^ (e - least).toNat) = ((m * 2 ^ E : Nat) : Int) := by rw [hE]; exact wrap_pow _ _ _ rfl (by omega)
        have hw2 := wid (m * 2 ^ E) (by omega)
        generalize m * 2 ^ E = k at *
        by_cases f : I < k
        · rw [(fin k hr).1 f]
          exact smlogtg m p I (g + 1) e least _ w zb (show _ < _ by omega) hb (by omega) (by omega) (by omega) (by omega) (by omega) (by omega) hun c d (by omega) k hw hw2 f
        · rw [(fin k hr).2 f]
          exact smlogts m p I (g + 1) e least _ w zb (show _ < _ by omega) hb (by omega) (by omega) (by omega) (by omega) (by omega) (by omega) hun c d (by omega) k hw hw2 f
      · by_cases d2 : e < least
        · obtain ⟨k1, k2⟩ := kdn 0 Dd (by omega) (by omega)
          rw [Nat.zero_add] at k1
          rw [k1] at hr
          obtain ⟨k, hk⟩ : ∃ k, rne m (2 ^ Dd) = k := ⟨_, rfl⟩
          rw [hk] at hr k2
          have hw2 := wid k (by omega)
          have ok : okm m Dd := okm_of _ _ (by omega)
          by_cases f : I < k
          · rw [(fin k hr).1 f]
            exact smloltg m p I (g + 1) e least _ w zb (show _ < _ by omega) hb (by omega) (by omega) (by omega) (by omega) (by omega) (by omega) hun c d2 Dd (by omega) (by omega) ok k hk hw2 f
          · rw [(fin k hr).2 f]
            exact smlolts m p I (g + 1) e least _ w zb (show _ < _ by omega) hb (by omega) (by omega) (by omega) (by omega) (by omega) (by omega) hun c d2 Dd (by omega) (by omega) ok k hk hw2 f
        · have de : e = least := by omega
          obtain ⟨k1, k2⟩ := kup 0 0 u0 (by omega) (by omega)
          rw [Nat.zero_add, Nat.pow_zero, Nat.mul_one] at k1
          rw [k1] at hr
          have hw2 := wid m (by omega)
          by_cases f : I < m
          · rw [(fin m hr).1 f]
            exact smloeqg m p I (g + 1) e least _ w zb (show _ < _ by omega) hb (by omega) (by omega) (by omega) (by omega) (by omega) (by omega) hun c de hw2 f
          · rw [(fin m hr).2 f]
            exact smloeqs m p I (g + 1) e least _ w zb (show _ < _ by omega) hb (by omega) (by omega) (by omega) (by omega) (by omega) (by omega) hun c de hw2 f
    · obtain ⟨u, hu⟩ : ∃ u, g + E - (p + Dd) = u := ⟨_, rfl⟩
      have hui : (g : Int) + e - p - least = (u : Int) := by omega
      rw [hu] at hr
      have hv := HB u (by omega)
      have hv2 : IntKind.u64.wrap ((u : Int) * 2 ^ p) = ((u * 2 ^ p : Nat) : Int) := wrap_pow _ _ _ rfl (by omega)
      generalize u * 2 ^ p = v at *
      by_cases d : (g : Int) + e - p < e
      · obtain ⟨t, ht⟩ : ∃ t : Nat, (e - ((g : Int) + e - p)).toNat = t := ⟨_, rfl⟩
        obtain ⟨k1, k2⟩ := kup u t hu (by omega) (by omega)
        rw [k1] at hr
        have hw : IntKind.u64.wrap ((m : Int) * 2 ^ (e - ((g : Int) + e - p)).toNat) = ((m * 2 ^ t : Nat) : Int) := by rw [ht]; exact wrap_pow _ _ _ rfl (by omega)
        generalize m * 2 ^ t = k at *
        have hs := wid (v + k) (by omega)
        rw [Int.natCast_add] at hs
        by_cases f : I < v + k
        · rw [(fin _ hr).1 f]
          exact smhigtg m p I (g + 1) e least _ w zb (show _ < _ by omega) hb (by omega) (by omega) (by omega) (by omega) (by omega) (by omega) hun c d (by omega) k hw u v (v + k) hui (by omega) (by omega) hv2 hs f
        · rw [(fin _ hr).2 f]
          exact smhigts m p I (g + 1) e least _ w zb (show _ < _ by omega) hb (by omega) (by omega) (by omega) (by omega) (by omega) (by omega) hun c d (by omega) k hw u v (v + k) hui (by omega) (by omega) hv2 hs f
      · by_cases d2 : e < (g : Int) + e - p
        · obtain ⟨j, hj⟩ : ∃ j : Nat, (g : Int) + e - p - e = (j : Int) := ⟨g - p, by omega⟩
          obtain ⟨k1, k2⟩ := kdn u j (by omega) (by omega)
          rw [k1] at hr
          obtain ⟨k, hk⟩ : ∃ k, rne m (2 ^ j) = k := ⟨_, rfl⟩
          rw [hk] at hr k2
          have ok : okm m j := ⟨hm, fun h => by omega⟩
          have hs := wid (v + k) (by omega)
          rw [Int.natCast_add] at hs
          by_cases f : I < v + k
          · rw [(fin _ hr).1 f]
            exact smhiltg m p I (g + 1) e least _ w zb (show _ < _ by omega) hb (by omega) (by omega) (by omega) (by omega) (by omega) (by omega) hun c d2 j (by omega) hj ok k hk u v (v + k) hui (by omega) (by omega) hv2 hs f
          · rw [(fin _ hr).2 f]
            exact smhilts m p I (g + 1) e least _ w zb (show _ < _ by omega) hb (by omega) (by omega) (by omega) (by omega) (by omega) (by omega) hun c d2 j (by omega) hj ok k hk u v (v + k) hui (by omega) (by omega) hv2 hs f
        · have de : e = (g : Int) + e - p := by omega
          obtain ⟨k1, k2⟩ := kup u 0 hu (by omega) (by omega)
          rw [Nat.pow_zero, Nat.mul_one] at k1 k2
          rw [k1] at hr
          have hs := wid (v + m) (by omega)
          rw [Int.natCast_add] at hs
          by_cases f : I < v + m
          · rw [(fin _ hr).1 f]
            exact smhieqg m p I (g + 1) e least _ w zb (show _ < _ by omega) hb (by omega) (by omega) (by omega) (by omega) (by omega) (by omega) hun c de u v (v + m) hui (by omega) (by omega) hv2 hs f
          · rw [(fin _ hr).2 f]
            exact smhieqs m p I (g + 1) e least _ w zb (show _ < _ by omega) hb (by omega) (by omega) (by omega) (by omega) (by omega) (by omega) hun c de u v (v + m) hui (by omega) (by omega) hv2 hs f
end Go.Proofs.YtdgkmaamjdglmaaGreatDoor.Ref2

/-
  FromInt, To32, To16, From32 and From16 of the reference of layer 2 answer what the code's do: walks over the program.
-/
namespace Go.Proofs.YtdgkmaamjdglmaaGreatDoor.Ref2
open Go.RowKit Tf
attribute [local go_sem] run_bits run_from raw_feq raw_fne raw_flt raw_fgt run_neg

theorem rung_units (p m : Nat) (e least : Int) (he : -1074 ≤ e) (hl : -1074 ≤ least) : rung p (least + 1074).toNat (m * 2 ^ (e + 1074).toNat) = rung p (least - e).toNat (m * 2 ^ (e - least).toNat) := by
  obtain ⟨c, hc⟩ : ∃ c : Nat, min e least + 1074 = (c : Int) := ⟨(min e least + 1074).toNat, by omega⟩
  have h1 : (least + 1074).toNat = (least - e).toNat + c := by omega
  have h2 : (e + 1074).toNat = (e - least).toNat + c := by omega
  rw [h1, h2, Nat.pow_add, ← Nat.mul_assoc, rung_scale]

theorem small52 (m : Nat) (e : Int) (r : Nat) (w : World) (hm : m ≤ 9223372036854775808) (e0 : -1074 ≤ e) (e1 : e ≤ 900) (hr : min (rung 52 0 (m * 2 ^ (e + 1074).toNat)) 9218868437227405312 = r) :
    Calls Tryz.prog 85 #[.int .u64 (m : Nat), .int .i64 e, .int .i64 52, .int .i64 (-1074), .int .u64 9218868437227405312] w fun e w' => e = .returned (.int .u64 (r : Nat)) ∧ w' = w := by
  refine small_at m 52 9218868437227405312 e (-1074) r w hm (.inr e0) (by decide) (by omega) (by omega) (by decide) (by decide) (fun u hu => by omega) ?_
  have h1 : ((-1074 : Int) - e).toNat = 0 := by omega
  have h2 : (e - (-1074)).toNat = (e + 1074).toNat := by omega
  rw [h1, h2]; exact hr
theorem small23 (m : Nat) (e : Int) (r : Nat) (w : World) (hm : m < 9007199254740992) (e0 : -1074 ≤ e) (e1 : e ≤ 971) (hr : min (rung 23 K2 (m * 2 ^ (e + 1074).toNat)) 2139095040 = r) :
    Calls Tryz.prog 85 #[.int .u64 (m : Nat), .int .i64 e, .int .i64 23, .int .i64 (-149), .int .u64 2139095040] w fun e w' => e = .returned (.int .u64 (r : Nat)) ∧ w' = w := by
  refine small_at m 23 2139095040 e (-149) r w (by omega) (.inl (by omega)) (by decide) (by omega) (by omega) (by decide) (by decide) (fun u hu => by omega) ?_
  have h := rung_units 23 m e (-149) e0 (by decide)
  have h1 : ((-149 : Int) + 1074).toNat = K2 := by rw [K2_eq]; decide
  rw [h1] at h
  rw [← h]; exact hr
theorem small10 (m : Nat) (e : Int) (r : Nat) (w : World) (hm : m < 9007199254740992) (e0 : -1074 ≤ e) (e1 : e ≤ 971) (hr : min (rung 10 H2 (m * 2 ^ (e + 1074).toNat)) 31744 = r) :
    Calls Tryz.prog 85 #[.int .u64 (m : Nat), .int .i64 e, .int .i64 10, .int .i64 (-24), .int .u64 31744] w fun e w' => e = .returned (.int .u64 (r : Nat)) ∧ w' = w := by
  refine small_at m 10 31744 e (-24) r w (by omega) (.inl (by omega)) (by decide) (by omega) (by omega) (by decide) (by decide) (fun u hu => by omega) ?_
  have h := rung_units 10 m e (-24) e0 (by decide)
  have h1 : ((-24 : Int) + 1074).toNat = H2 := by rw [H2_eq]; decide
  rw [h1] at h
  rw [← h]; exact hr

set_option maxHeartbeats 1000000 in
theorem fi_pos (i : Int) (m r : Nat) (w : World) (h : ¬ i < 0) (hi : IntKind.u64.wrap i = (m : Int)) (hw : IntKind.u64.wrap (r : Int) = (r : Int)) (S : Hid (∀ w, Calls Tryz.prog 85 #[.int .u64 (m : Nat), .int .i64 0, .int .i64 52, .int .i64 (-1074), .int .u64 9218868437227405312] w fun e w' => e = .returned (.int .u64 (r : Nat)) ∧ w' = w)) :
    Calls Tryz.prog 47 #[.int .i64 i] w fun e w' => e = .returned (.float .f64 r) ∧ w' = w := by
  go_enter Tryz.func47, Tryz.ntmps47
  go_wp2_with fail
  refine (S.out _).mono ?_
  rintro e w' ⟨rfl, rfl⟩
  go_wp2_with fail
  refine (from_at (r : Int) r _ (by omega)).mono ?_
  rintro e w' ⟨rfl, rfl⟩
  go_wp2
  go_ret
  exact ⟨rfl, rfl⟩

set_option maxHeartbeats 1000000 in
theorem fi_neg (i : Int) (a m r s : Nat) (w : World) (h : i < 0) (hi : IntKind.u64.wrap i = (a : Int)) (ha : IntKind.u64.wrap (-(a : Int)) = (m : Int)) (hw : IntKind.u64.wrap (9223372036854775808 + (r : Int)) = (s : Int)) (S : Hid (∀ w, Calls Tryz.prog 85 #[.int .u64 (m : Nat), .int .i64 0, .int .i64 52, .int .i64 (-1074), .int .u64 9218868437227405312] w fun e w' => e = .returned (.int .u64 (r : Nat)) ∧ w' = w)) :
    Calls Tryz.prog 47 #[.int .i64 i] w fun e w' => e = .returned (.float .f64 s) ∧ w' = w := by
  go_enter Tryz.func47, Tryz.ntmps47
  go_wp2_with fail
  refine (S.out _).mono ?_
  rintro e w' ⟨rfl, rfl⟩
  go_wp2_with fail
  refine (from_at (s : Int) s _ (by omega)).mono ?_
  rintro e w' ⟨rfl, rfl⟩
  go_wp2
  go_ret
  exact ⟨rfl, rfl⟩

theorem refFromInt_at (i : Int) (r : Nat) (w : World) (i0 : -9223372036854775808 ≤ i) (i1 : i ≤ 9223372036854775807) (hr : rn false (i * one) = r) :
    Calls Tryz.prog 47 #[.int .i64 i] w fun e w' => e = .returned (.float .f64 r) ∧ w' = w := by
  have hK : (1074 : Nat) = K := rfl
  have hab : (i * (one : Int)).natAbs = i.natAbs * one := by rw [Int.natAbs_mul, Int.natAbs_natCast]
  have ho : ((0 : Int) + 1074).toNat = K := by rw [K_eq]; decide
  have hs := fun w => small52 i.natAbs 0 _ w (by omega) (by decide) (by decide) rfl
  rw [ho, ← one_pow] at hs
  have hlt : min (rung 52 0 (i.natAbs * one)) 9218868437227405312 ≤ 9218868437227405312 := Nat.min_le_right _ _
  have hp := onep
  have hrn : rn false (i * one) = if i < 0 then 9223372036854775808 + min (rung 52 0 (i.natAbs * one)) 9218868437227405312 else min (rung 52 0 (i.natAbs * one)) 9218868437227405312 := by
    unfold rn
    rw [hab]
    have h2 : (if i * (one : Int) = 0 then false else decide (i * (one : Int) < 0)) = decide (i < 0) := by
      by_cases c : i = 0
      · subst c; simp
      · have c' : ¬ i * (one : Int) = 0 := by rw [Int.mul_eq_zero]; omega
        rw [if_neg c']
        have : i * (one : Int) < 0 ↔ i < 0 := by
          have : i * (one : Int) < 0 * (one : Int) ↔ i < 0 := Int.mul_lt_mul_right hp
          rwa [Int.zero_mul] at this
        exact decide_eq_decide.2 this
    rw [h2]
    by_cases c : i < 0
    · rw [decide_eq_true c, if_pos rfl, if_pos c]
    · rw [decide_eq_false c, if_neg (by decide), if_neg c]
  rw [hrn] at hr
  generalize min (rung 52 0 (i.natAbs * one)) 9218868437227405312 = q at *
  by_cases c : i < 0
  · rw [if_pos c] at hr
    subst hr
    have w1 : IntKind.u64.wrap i = ((18446744073709551616 - i.natAbs : Nat) : Int) := by
      simp [IntKind.wrap, IntKind.bits, IntKind.signed]; omega
    have w2 : IntKind.u64.wrap (-((18446744073709551616 - i.natAbs : Nat) : Int)) = (i.natAbs : Int) := by
      simp [IntKind.wrap, IntKind.bits, IntKind.signed]; omega
    exact fi_neg i _ _ q (9223372036854775808 + q) w c w1 w2 (by rw [wrap_id] <;> omega) hs
  · rw [if_neg c] at hr
    subst hr
    exact fi_pos i i.natAbs q w c (by rw [wrap_id] <;> omega) (by rw [wrap_id] <;> omega) hs
end Go.Proofs.YtdgkmaamjdglmaaGreatDoor.Ref2

/-
  The reference's points, corners and middles: walks over it.
-/
namespace Go.Proofs.YtdgkmaamjdglmaaGreatDoor
open Go.RowKit Tf Cu
attribute [local go_sem] run_bits run_from raw_feq raw_fne raw_flt raw_fgt run_neg run_store_float
def fC (f : Nat) : Int := [1, 2, -1, -2, 3, -3].getD f 0
def fR (f : Nat) : Int := [2, -1, -2, 1, 2, 2].getD f 0
def fU (f : Nat) : Int := [3, 3, 3, 3, -1, 1].getD f 0
set_option maxHeartbeats 4000000 in
theorem rframe8_at (f : Nat) (w : World) (hf : f < 6) :
    Calls Tryz.prog 82 #[.int .i64 f] w fun e w' => e = .returned (.tuple #[.int .i64 (fC f), .int .i64 (fR f), .int .i64 (fU f)]) ∧ Below w.heap.size w w' := by
  rcases six hf with rfl | rfl | rfl | rfl | rfl | rfl
  all_goals
    go_enter Tryz.func82, Tryz.ntmps82
    go_wp2
    go_quiet (fail)
    go_wp2
    refine bodyPost_ret (by simp [results, Tryz.results82, go_sem]; exact ⟨rfl, rfl, rfl⟩) rfl ⟨rfl, ?_⟩
    exact Ab.drewN (bl3 w _ _ _) _
def alV (a b : Int) (x : Nat) : Nat := if a = b then x else if a = -b then negB x else 0
def alO (a b : Int) : Bool := decide (a = b) || decide (a = -b)
set_option maxHeartbeats 2000000 in
theorem ralong8_at (a b : Int) (x : Nat) (w : World) (hx : x < 18446744073709551616) (ha : -3 ≤ a ∧ a ≤ 3) (hb : -3 ≤ b ∧ b ≤ 3) :
    Calls Tryz.prog 83 #[.int .i64 a, .int .i64 b, .float .f64 x] w fun e w' => e = .returned (.tuple #[.float .f64 (alV a b x), .bool (alO a b)]) ∧ w' = w := by
  have n0 := negFloat_eq x hx
  clear hx
  by_cases h1 : a = b
  · have e1 : alV a b x = x := by unfold alV; rw [if_pos h1]
    have e2 : alO a b = true := by unfold alO; rw [decide_eq_true h1]; rfl
    rw [e1, e2]
    clear e1 e2
    go_enter Tryz.func83, Tryz.ntmps83
    go_wp2
    go_ret2
    exact ⟨rfl, rfl⟩
  · by_cases h2 : a = -b
    · have e1 : alV a b x = negB x := by unfold alV; rw [if_neg h1, if_pos h2]
      have e2 : alO a b = true := by unfold alO; rw [decide_eq_true h2, Bool.or_true]
      rw [e1, e2]
      clear e1 e2
      go_enter Tryz.func83, Tryz.ntmps83
      go_wp2
      go_ret2
      exact ⟨rfl, rfl⟩
    · have e1 : alV a b x = 0 := by unfold alV; rw [if_neg h1, if_neg h2]
      have e2 : alO a b = false := by unfold alO; rw [decide_eq_false h1, decide_eq_false h2]; rfl
      rw [e1, e2]
      clear e1 e2
      go_enter Tryz.func83, Tryz.ntmps83
      go_wp2
      go_ret2
      exact ⟨rfl, rfl⟩
theorem alV_lt {a b : Int} {x : Nat} (hx : x < 18446744073709551616) : alV a b x < 18446744073709551616 := by
  unfold alV
  split
  · exact hx
  · split
    · exact negB_lt' hx
    · omega
/-- what lies along an axis -/
def cmp (f : Nat) (b : Int) (p q : Nat) : Nat := if alO (fC f) b then alV (fC f) b 4607182418800017408 else if alO (fR f) b then alV (fR f) b p else alV (fU f) b q
theorem cmp_oc {f : Nat} (hf : f < 6) (p q : Nat) : cmp f 1 p q = (oc f p q).1 ∧ cmp f 2 p q = (oc f p q).2.1 ∧ cmp f 3 p q = (oc f p q).2.2 := by
  rcases six hf with rfl | rfl | rfl | rfl | rfl | rfl <;> simp [cmp, alO, alV, fC, fR, fU, oc] <;> decide
theorem fr_le {f : Nat} (hf : f < 6) : (-3 ≤ fC f ∧ fC f ≤ 3) ∧ (-3 ≤ fR f ∧ fR f ≤ 3) ∧ (-3 ≤ fU f ∧ fU f ≤ 3) := by
  rcases six hf with rfl | rfl | rfl | rfl | rfl | rfl <;> decide
set_option maxHeartbeats 4000000 in
theorem rcomp8_at (f : Nat) (b : Int) (p q : Nat) (w : World) (hf : f < 6) (hb : -3 ≤ b ∧ b ≤ 3) (hp : p < 18446744073709551616) (hq : q < 18446744073709551616) :
    Calls Tryz.prog 46 #[.int .i64 f, .int .i64 b, .float .f64 p, .float .f64 q] w fun e w' => e = .returned (.float .f64 (canonB (cmp f b p q))) ∧ Below w.heap.size w w' := by
  obtain ⟨k1, k2, k3⟩ := fr_le hf
  have FR := hid (fun u => rframe8_at f u hf)
  have A1 := hid (fun u => ralong8_at (fC f) b 4607182418800017408 u (by omega) k1 hb)
  have A2 := hid (fun u => ralong8_at (fR f) b p u hp k2 hb)
  have A3 := hid (fun u => ralong8_at (fU f) b q u hq k3 hb)
  have C1 := hid (fun u => rcanon_any (alV (fC f) b 4607182418800017408) u)
  have C2 := hid (fun u => rcanon_any (alV (fR f) b p) u)
  have C3 := hid (fun u => rcanon_any (alV (fU f) b q) u)
  unfold cmp
  generalize alV (fC f) b 4607182418800017408 = x1 at *
  generalize alV (fR f) b p = x2 at *
  generalize alV (fU f) b q = x3 at *
  generalize alO (fC f) b = o1 at *
  generalize alO (fR f) b = o2 at *
  generalize alO (fU f) b = o3 at *
  generalize fC f = c at *
  generalize fR f = r at *
  generalize fU f = u at *
  clear hf hb hp hq k1 k2 k3
  cases o1 with
  | true =>
    rw [if_pos rfl]
    go_enter Tryz.func46, Tryz.ntmps46
    go_wp2_with fail
    refine (FR.out _).mono ?_
    rintro e v ⟨rfl, b1⟩
    go_wp2_with fail
    refine (A1.out _).mono ?_
    rintro e v2 ⟨rfl, rfl⟩
    go_wp2_with fail
    refine (C1.out _).mono ?_
    rintro e v3 ⟨rfl, rfl⟩
    go_wp2
    go_ret
    exact ⟨rfl, b1⟩
  | false =>
    rw [if_neg Bool.false_ne_true]
    cases o2 with
    | true =>
      rw [if_pos rfl]
      go_enter Tryz.func46, Tryz.ntmps46
      go_wp2_with fail
      refine (FR.out _).mono ?_
      rintro e v ⟨rfl, b1⟩
      go_wp2_with fail
      refine (A1.out _).mono ?_
      rintro e v2 ⟨rfl, rfl⟩
      go_wp2_with fail
      refine (A2.out _).mono ?_
      rintro e v3 ⟨rfl, rfl⟩
      go_wp2_with fail
      refine (C2.out _).mono ?_
      rintro e v4 ⟨rfl, rfl⟩
      go_wp2
      go_ret
      exact ⟨rfl, b1⟩
    | false =>
      rw [if_neg Bool.false_ne_true]
      go_enter Tryz.func46, Tryz.ntmps46
      go_wp2_with fail
      refine (FR.out _).mono ?_
      rintro e v ⟨rfl, b1⟩
      go_wp2_with fail
      refine (A1.out _).mono ?_
      rintro e v2 ⟨rfl, rfl⟩
      go_wp2_with fail
      refine (A2.out _).mono ?_
      rintro e v3 ⟨rfl, rfl⟩
      go_wp2_with fail
      refine (A3.out _).mono ?_
      rintro e v4 ⟨rfl, rfl⟩
      go_wp2_with fail
      refine (C3.out _).mono ?_
      rintro e v5 ⟨rfl, rfl⟩
      go_wp2
      go_ret
      exact ⟨rfl, b1⟩
set_option maxHeartbeats 2000000 in
theorem rratio_at (k n : Int) (w : World) (hk : -1000 ≤ k ∧ k ≤ 1000) (hn : -1000 ≤ n ∧ n ≤ 1000) :
    Calls Tryz.prog 22 #[.int .i64 k, .int .i64 n] w fun e w' => ∃ r m, e = .returned (.float .f64 r) ∧ w' = w.drewN m ∧ Hid (IsC r (dvB (fB k) (fB n))) := by
  have F1 : Hid (∀ w, Calls Tryz.prog 47 #[.int .i64 k] w fun e w' => e = .returned (.float .f64 (fB k)) ∧ w' = w) := fun w => Ref2.refFromInt_at k _ w (by omega) (by omega) rfl
  have F2 : Hid (∀ w, Calls Tryz.prog 47 #[.int .i64 n] w fun e w' => e = .returned (.float .f64 (fB n)) ∧ w' = w) := fun w => Ref2.refFromInt_at n _ w (by omega) (by omega) rfl
  obtain ⟨r, m, hr, hc⟩ := div_any (P := Tryz.prog) w (fB k) (fB n)
  have HC := hid hc
  generalize dvB (fB k) (fB n) = d at *
  generalize fB k = x at *
  generalize fB n = y at *
  clear hc hk hn
  go_enter Tryz.func22, Tryz.ntmps22
  go_wp2_with fail
  refine (F1.out _).mono ?_
  rintro e v2 ⟨rfl, rfl⟩
  go_wp2_with fail
  refine (F2.out _).mono ?_
  rintro e v3 ⟨rfl, rfl⟩
  go_wp2
  go_ret
  exact ⟨r, m, rfl, rfl, HC⟩
end Go.Proofs.YtdgkmaamjdglmaaGreatDoor

/-
  Points of the reference cube: contracts.
-/
namespace Go.Proofs.YtdgkmaamjdglmaaGreatDoor
open Go.RowKit Cu
set_option maxHeartbeats 1000000 in
theorem rplus_ex (p : P3) (k : Int) (q : P3) (w : World) (hp : Sm p) (hr : Sm (sc k q)) :
    Calls Tryz.prog 72 #[.agg #[.int .i64 p.1, .int .i64 p.2.1, .int .i64 p.2.2], .int .i64 k, .agg #[.int .i64 q.1, .int .i64 q.2.1, .int .i64 q.2.2]] w fun e w' => e = .returned (.agg #[.int .i64 (pl p (sc k q)).1, .int .i64 (pl p (sc k q)).2.1, .int .i64 (pl p (sc k q)).2.2]) ∧ w' = ((w.alloc (.cells #[.int .i64 p.1, .int .i64 p.2.1, .int .i64 p.2.2] 83)).alloc (.cells #[.int .i64 q.1, .int .i64 q.2.1, .int .i64 q.2.2] 83)).alloc (.cells #[.int .i64 (pl p (sc k q)).1, .int .i64 (pl p (sc k q)).2.1, .int .i64 (pl p (sc k q)).2.2] 83) := by
  obtain ⟨x, y, z⟩ := p
  obtain ⟨a, b, c⟩ := q
  obtain ⟨hx, hy, hz⟩ := hp
  obtain ⟨ha, hb, hc⟩ := hr
  simp only [pl, sc] at *
  go_enter Tryz.func72, Tryz.ntmps72
  go_wp2
  refine bodyPost_ret ?_ rfl ⟨rfl, rfl⟩
  exact results_cell_row Tryz.results72 _ _ (w.heap.size + 2) _ _ (0, 0) _ rfl (heap_alloc3_new _ _ _ _) Tryz.underlying83 rfl (by kernel_rfl)
theorem rplus_at (p : P3) (k : Int) (q : P3) (w : World) (hp : Sm p) (hr : Sm (sc k q)) :
    Calls Tryz.prog 72 #[.agg #[.int .i64 p.1, .int .i64 p.2.1, .int .i64 p.2.2], .int .i64 k, .agg #[.int .i64 q.1, .int .i64 q.2.1, .int .i64 q.2.2]] w fun e w' => e = .returned (.agg #[.int .i64 (pl p (sc k q)).1, .int .i64 (pl p (sc k q)).2.1, .int .i64 (pl p (sc k q)).2.2]) ∧ Below w.heap.size w w' :=
  (rplus_ex p k q w hp hr).mono fun _ _ ⟨he, hw⟩ => ⟨he, hw ▸ bl3 _ _ _ _⟩
set_option maxHeartbeats 1000000 in
theorem rdot_at (p q : P3) (w : World) (hp : Sm p) (hq : Un q) :
    Calls Tryz.prog 76 #[.agg #[.int .i64 p.1, .int .i64 p.2.1, .int .i64 p.2.2], .agg #[.int .i64 q.1, .int .i64 q.2.1, .int .i64 q.2.2]] w fun e w' => e = .returned (.int .i64 (dt p q)) ∧ Below w.heap.size w w' := by
  obtain ⟨x, y, z⟩ := p
  obtain ⟨a, b, c⟩ := q
  have hx := (mul_un hq.1 10000 hp.1).1
  have hy := (mul_un hq.2.1 10000 hp.2.1).1
  have hz := (mul_un hq.2.2 10000 hp.2.2).1
  clear hp hq
  simp only [dt] at *
  go_enter Tryz.func76, Tryz.ntmps76
  go_wp2
  go_ret
  exact ⟨rfl, bl2 _ _ _⟩
theorem results_cell3 {P : Program} {fn : Func} {p q r : Tmp} {ty : TypeId} (h : fn.results = #[.cell p ty, .cell q ty, .cell r ty]) (tmps : Array Value) (w : World) (g0 g1 g2 : Nat) (t : TypeId) (c0 c1 c2 : Array Value) (d : TypeDesc)
    (hp : tmps.getD p undef = .pointer (some ⟨g0, 0, none⟩)) (hq : tmps.getD q undef = .pointer (some ⟨g1, 0, none⟩)) (hr : tmps.getD r undef = .pointer (some ⟨g2, 0, none⟩))
    (h0 : w.heap[g0]? = some (.cells c0 t)) (h1 : w.heap[g1]? = some (.cells c1 t)) (h2 : w.heap[g2]? = some (.cells c2 t))
    (hu : P.underlying ty = some d) (hd : (match d with | .struct _ | .array _ _ => true | _ => false) = true) (i0 : (P.info? ty).map (·.size) = some c0.size) (i1 : (P.info? ty).map (·.size) = some c1.size) (i2 : (P.info? ty).map (·.size) = some c2.size) :
    (results fn tmps).run P w = .ok (.tuple #[.agg c0, .agg c1, .agg c2]) w := by
  have hp' : tmps[p]?.getD undef = .pointer (some ⟨g0, 0, none⟩) := by simpa using hp
  have hq' : tmps[q]?.getD undef = .pointer (some ⟨g1, 0, none⟩) := by simpa using hq
  have hr' : tmps[r]?.getD undef = .pointer (some ⟨g2, 0, none⟩) := by simpa using hr
  simp [results, h, hp', hq', hr', asAddr, run_loadVar_row w g0 t ty c0 (0, 0) d h0 hu hd i0, run_loadVar_row w g1 t ty c1 (0, 0) d h1 hu hd i1, run_loadVar_row w g2 t ty c2 (0, 0) d h2 hu hd i2]
/-- as Ab, but for the three blocks from g on, which are points -/
def A3 (W : World) (g : Nat) (w : World) : Prop :=
  (w.os = W.os ∧ w.tape = W.tape ∧ w.output = W.output ∧ W.heap.size ≤ w.heap.size ∧ ∀ k, k < W.heap.size → (k < g ∨ g + 3 ≤ k) → w.heap[k]? = W.heap[k]?) ∧
  ∀ j, j < 3 → ∃ a b c : Value, w.heap[g + j]? = some (.cells #[a, b, c] 83)
theorem Ab.a3 {W w : World} (h : Ab W w) {g : Nat} (hg : ∀ j, j < 3 → ∃ a b c : Value, W.heap[g + j]? = some (.cells #[a, b, c] 83)) : A3 W g w :=
  ⟨⟨Below.os h, Below.tape h, Below.output h, Below.size h, fun k hk _ => Below.block h k hk⟩, fun j hj => by obtain ⟨a, b, c, e⟩ := hg j hj; exact ⟨a, b, c, h.heap e⟩⟩
theorem A3.drew {W w : World} {g : Nat} (a : A3 W g w) : A3 W g w.drew := a
theorem A3.call {W u w : World} {g : Nat} (a : A3 W g u) (b : Below u.heap.size u w) : A3 W g w := by
  obtain ⟨⟨h1, h2, h3, h4, h5⟩, h6⟩ := a
  refine ⟨⟨b.os.trans h1, b.tape.trans h2, b.output.trans h3, Nat.le_trans h4 b.size, fun k hk hne => (b.block k (by omega)).trans (h5 k hk hne)⟩, fun j hj => ?_⟩
  obtain ⟨x, y, z, e⟩ := h6 j hj
  exact ⟨x, y, z, (b.block _ (lt_of_block e)).trans e⟩
theorem A3.set {W w : World} {g : Nat} (a : A3 W g w) (i : Nat) (hi : i < 3) (k : Nat) (v : Value) : A3 W g (w.setCell ⟨g + i, k, none⟩ v) := by
  obtain ⟨⟨h1, h2, h3, h4, h5⟩, h6⟩ := a
  refine ⟨⟨h1, h2, h3, by simpa [World.setCell] using h4, fun l hl hne => (Below.heap_setCell _ _ _ _ (by show l ≠ g + i; omega)).trans (h5 l hl hne)⟩, fun j hj => ?_⟩
  obtain ⟨x, y, z, e⟩ := h6 j hj
  by_cases hji : j = i
  · subst hji
    obtain ⟨p, q, r, e2⟩ := set_k (a := x) (b := y) (c := z) (v := v) k
    have o := one_set (k := k) (v := v) e
    rw [e2] at o
    exact ⟨p, q, r, o⟩
  · exact ⟨x, y, z, (Below.heap_setCell _ _ _ _ (by show g + j ≠ g + i; omega)).trans e⟩
theorem A3.heap {W w : World} {g k : Nat} {o : Obj} (a : A3 W g w) (n1 : k < g ∨ g + 3 ≤ k) (hk : W.heap[k]? = some o) : w.heap[k]? = some o := by
  have hlt : k < W.heap.size := by
    rcases Nat.lt_or_ge k W.heap.size with h1 | h1
    · exact h1
    · rw [Array.getElem?_eq_none h1] at hk; cases hk
  exact (a.1.2.2.2.2 k hlt n1).trans hk
theorem A3.ab {w0 W w : World} {g : Nat} (a : A3 W g w) (b : Ab w0 W) (hg : w0.heap.size ≤ g) : Ab w0 w := by
  obtain ⟨⟨h1, h2, h3, h4, h5⟩, _⟩ := a
  exact ⟨h1.trans b.os, h2.trans b.tape, h3.trans b.output, Nat.le_trans (Below.size b) h4, fun k hk => (h5 k (Nat.lt_of_lt_of_le hk (Below.size b)) (by omega)).trans (b.block k hk)⟩
theorem A3.facts {W w : World} {g : Nat} (a : A3 W g w) (j : Nat) (hj : j < 3) : (w.frozen? ⟨g + j, 0, none⟩ = false ∧ w.frozen? ⟨g + j, 1, none⟩ = false ∧ w.frozen? ⟨g + j, 2, none⟩ = false) ∧ w.cell? ⟨g + j, 0, none⟩ = some (rv w (g + j) 0) ∧ w.cell? ⟨g + j, 1, none⟩ = some (rv w (g + j) 1) ∧ w.cell? ⟨g + j, 2, none⟩ = some (rv w (g + j) 2) := by
  obtain ⟨x, y, z, hg⟩ := a.2 j hj
  have e : ∀ k, w.cell? ⟨g + j, k, none⟩ = #[x, y, z][k]? := fun k => cell_of_row _ _ k _ _ _ hg
  refine ⟨⟨free_row hg 0, free_row hg 1, free_row hg 2⟩, ?_, ?_, ?_⟩ <;> simp [rv, e]
end Go.Proofs.YtdgkmaamjdglmaaGreatDoor
