/-
  Some of the texts of this proof, one behind the other.
-/
import Derived.Test.YtgeipbegpflkhaaGreatDoorZ17
import Derived.Test.YtgeipbegpflkhaaGreatDoorZ07
import Derived.Test.YtgeipbegpflkhaaGreatDoorZ15
import Derived.Test.YtgeipbegpflkhaaGreatDoorZ03
/-
  What the reference's rounding to a float of fewer bits returns: walks over the program.
-/
namespace Go.Proofs.YtgeipbegpflkhaaGreatDoor.Ref2
open Go.RowKit Tf
attribute [local go_sem] run_bits run_from raw_feq raw_fne raw_flt raw_fgt run_neg

set_option maxHeartbeats 1000000 in
theorem length_w (S : Nat → Nat) (L : Nat) (w : World) (hS : ∀ j, (S j : Int) / 2 = (S (j + 1) : Int)) (hL : ∀ j, j < L ↔ 0 < S j) (hW : ∀ j, IntKind.u64.wrap (S j : Int) = (S j : Int)) (l : (L : Int) ≤ 64) :
    Calls Tryz.prog 132 #[.int .u64 (S 0 : Nat)] w fun e w' => e = .returned (.int .i64 (L : Nat)) ∧ w' = w := by
  have HL := hid hL
  have HS := hid hS
  have HW := hid hW
  clear hL hS hW
  go_enter Tryz.func132, Tryz.ntmps132
  go_wp2
  go_loop [0, 3] (fun a b => ∃ j : Nat, j ≤ L ∧ a = .int .u64 (S j : Nat) ∧ b = .int .i64 (j : Nat)) (fun _ b => L - (intOf b).toNat)
  case atStart => exact ⟨0, Nat.zero_le _, rfl, rfl⟩
  case round =>
    obtain ⟨j, hj, rfl, rfl⟩ := hrel
    by_cases hlt : j < L
    · have h1 : 0 < S j := (HL.out j).1 hlt
      have h2 := HS.out j
      have h3 := HW.out (j + 1)
      go_wp2
      go_round
      case rel => exact ⟨j + 1, by omega, rfl, by go_num⟩
      case measure => simp [intOf]; omega
    · have e : j = L := by omega
      subst e
      have h1 : ¬ 0 < S j := fun h => hlt ((HL.out j).2 h)
      go_wp2
      go_ret
      exact ⟨rfl, rfl⟩
/-- how many bits -/
def bl (m : Nat) : Nat := if m = 0 then 0 else m.log2 + 1
theorem length_at (m L : Nat) (w : World) (hm : m < 18446744073709551616) (hL : bl m = L) :
    Calls Tryz.prog 132 #[.int .u64 (m : Nat)] w fun e w' => e = .returned (.int .i64 (L : Nat)) ∧ w' = w := by
  subst hL
  have h0 : m = m / 2 ^ 0 := by simp
  have := length_w (fun j => m / 2 ^ j) (bl m) w ?_ ?_ ?_ ?_
  · simpa using this
  · intro j
    show ((m / 2 ^ j : Nat) : Int) / 2 = ((m / 2 ^ (j + 1) : Nat) : Int)
    rw [Nat.pow_succ, ← Nat.div_div_eq_div_mul]; omega
  · intro j
    show j < bl m ↔ 0 < m / 2 ^ j
    unfold bl
    by_cases z : m = 0
    · subst z; simp
    · rw [if_neg z, Nat.div_pos_iff]
      constructor
      · intro h
        refine ⟨pow_pos j, Nat.le_trans (Nat.pow_le_pow_right (by omega) (by omega)) (Nat.log2_self_le z)⟩
      · intro h
        have h2 : m < 2 ^ (m.log2 + 1) := Nat.lt_log2_self
        by_cases c : j < m.log2 + 1
        · exact c
        · exfalso
          have : 2 ^ (m.log2 + 1) ≤ 2 ^ j := Nat.pow_le_pow_right (by omega) (by omega)
          omega
  · intro j
    have : m / 2 ^ j ≤ m := Nat.div_le_self ..
    show IntKind.u64.wrap ((m / 2 ^ j : Nat) : Int) = _
    generalize m / 2 ^ j = q at *
    rw [wrap_id] <;> omega
  · unfold bl
    by_cases z : m = 0
    · rw [if_pos z]; decide
    · rw [if_neg z]
      have := log2_small (k := 63) (show m < 2 ^ (63 + 1) by omega)
      omega
set_option maxHeartbeats 2000000 in
theorem smlogtg (m p I L : Nat) (e least un : Int) (w : World) (z : ((m : Int) == 0) = false) (lm : Hid (m < 18446744073709551616)) (hL : Hid (bl m = L)) (L1 : (L : Int) ≤ 64) (p1 : (p : Int) ≤ 60) (_e0 : -5000 < e) (_e1 : e < 5000) (l0 : -5000 < least) (l1 : least < 5000) (hun : (L : Int) + e - ((p : Int) + 1) = un) (c : un < least) (d : least < e) (d2 : e - least < 64) (k : Nat) (hk : IntKind.u64.wrap ((m : Int) * 2 ^ (e - least).toNat) = (k : Int)) (hw : IntKind.u64.wrap (k : Int) = (k : Int)) (f : I < k) :
    Calls Tryz.prog 103 #[.int .u64 (m : Nat), .int .i64 e, .int .i64 (p : Nat), .int .i64 least, .int .u64 (I : Nat)] w fun e w' => e = .returned (.int .u64 ((I : Nat))) ∧ w' = w := by
  go_enter Tryz.func103, Tryz.ntmps103
  go_wp2_with fail
  refine (length_at m L _ lm.out hL.out).mono ?_
  rintro e w' ⟨rfl, rfl⟩
  go_wp2
  go_ret
  exact ⟨rfl, rfl⟩

set_option maxHeartbeats 2000000 in
theorem smlogts (m p I L : Nat) (e least un : Int) (w : World) (z : ((m : Int) == 0) = false) (lm : Hid (m < 18446744073709551616)) (hL : Hid (bl m = L)) (L1 : (L : Int) ≤ 64) (p1 : (p : Int) ≤ 60) (_e0 : -5000 < e) (_e1 : e < 5000) (l0 : -5000 < least) (l1 : least < 5000) (hun : (L : Int) + e - ((p : Int) + 1) = un) (c : un < least) (d : least < e) (d2 : e - least < 64) (k : Nat) (hk : IntKind.u64.wrap ((m : Int) * 2 ^ (e - least).toNat) = (k : Int)) (hw : IntKind.u64.wrap (k : Int) = (k : Int)) (f : ¬ I < k) :
    Calls Tryz.prog 103 #[.int .u64 (m : Nat), .int .i64 e, .int .i64 (p : Nat), .int .i64 least, .int .u64 (I : Nat)] w fun e w' => e = .returned (.int .u64 ((k : Nat))) ∧ w' = w := by
  go_enter Tryz.func103, Tryz.ntmps103
  go_wp2_with fail
  refine (length_at m L _ lm.out hL.out).mono ?_
  rintro e w' ⟨rfl, rfl⟩
  go_wp2
  go_ret
  exact ⟨rfl, rfl⟩

set_option maxHeartbeats 2000000 in
theorem smloltg (m p I L : Nat) (e least un : Int) (w : World) (z : ((m : Int) == 0) = false) (lm : Hid (m < 18446744073709551616)) (hL : Hid (bl m = L)) (L1 : (L : Int) ≤ 64) (p1 : (p : Int) ≤ 60) (e0 : -5000 < e) (e1 : e < 5000) (l0 : -5000 < least) (l1 : least < 5000) (hun : (L : Int) + e - ((p : Int) + 1) = un) (c : un < least) (d : e < least) (j : Nat) (j1 : 1 ≤ j) (dj : least - e = (j : Int)) (lm2 : Hid (okm m j)) (k : Nat) (hk : Hid (rne m (2 ^ j) = k)) (hw : IntKind.u64.wrap (k : Int) = (k : Int)) (f : I < k) :
    Calls Tryz.prog 103 #[.int .u64 (m : Nat), .int .i64 e, .int .i64 (p : Nat), .int .i64 least, .int .u64 (I : Nat)] w fun e w' => e = .returned (.int .u64 ((I : Nat))) ∧ w' = w := by
  go_enter Tryz.func103, Tryz.ntmps103
  go_wp2_with fail
  refine (length_at m L _ lm.out hL.out).mono ?_
  rintro e w' ⟨rfl, rfl⟩
  go_wp2_with fail
  refine (near_at m j k _ lm2.out j1 hk.out).mono ?_
  rintro e w' ⟨rfl, rfl⟩
  go_wp2
  go_ret
  exact ⟨rfl, rfl⟩

set_option maxHeartbeats 2000000 in
theorem smlolts (m p I L : Nat) (e least un : Int) (w : World) (z : ((m : Int) == 0) = false) (lm : Hid (m < 18446744073709551616)) (hL : Hid (bl m = L)) (L1 : (L : Int) ≤ 64) (p1 : (p : Int) ≤ 60) (e0 : -5000 < e) (e1 : e < 5000) (l0 : -5000 < least) (l1 : least < 5000) (hun : (L : Int) + e - ((p : Int) + 1) = un) (c : un < least) (d : e < least) (j : Nat) (j1 : 1 ≤ j) (dj : least - e = (j : Int)) (lm2 : Hid (okm m j)) (k : Nat) (hk : Hid (rne m (2 ^ j) = k)) (hw : IntKind.u64.wrap (k : Int) = (k : Int)) (f : ¬ I < k) :
    Calls Tryz.prog 103 #[.int .u64 (m : Nat), .int .i64 e, .int .i64 (p : Nat), .int .i64 least, .int .u64 (I : Nat)] w fun e w' => e = .returned (.int .u64 ((k : Nat))) ∧ w' = w := by
  go_enter Tryz.func103, Tryz.ntmps103
  go_wp2_with fail
  refine (length_at m L _ lm.out hL.out).mono ?_
  rintro e w' ⟨rfl, rfl⟩
  go_wp2_with fail
  refine (near_at m j k _ lm2.out j1 hk.out).mono ?_
  rintro e w' ⟨rfl, rfl⟩
  go_wp2
  go_ret
  exact ⟨rfl, rfl⟩

set_option maxHeartbeats 2000000 in
theorem smloeqg (m p I L : Nat) (e least un : Int) (w : World) (z : ((m : Int) == 0) = false) (lm : Hid (m < 18446744073709551616)) (hL : Hid (bl m = L)) (L1 : (L : Int) ≤ 64) (p1 : (p : Int) ≤ 60) (e0 : -5000 < e) (e1 : e < 5000) (l0 : -5000 < least) (l1 : least < 5000) (hun : (L : Int) + e - ((p : Int) + 1) = un) (c : un < least) (d : e = least) (hw : IntKind.u64.wrap (m : Int) = (m : Int)) (f : I < m) :
    Calls Tryz.prog 103 #[.int .u64 (m : Nat), .int .i64 e, .int .i64 (p : Nat), .int .i64 least, .int .u64 (I : Nat)] w fun e w' => e = .returned (.int .u64 ((I : Nat))) ∧ w' = w := by
  subst d
  go_enter Tryz.func103, Tryz.ntmps103
  go_wp2_with fail
  refine (length_at m L _ lm.out hL.out).mono ?_
  rintro e w' ⟨rfl, rfl⟩
  go_wp2
  go_ret
  exact ⟨rfl, rfl⟩

set_option maxHeartbeats 2000000 in
theorem smloeqs (m p I L : Nat) (e least un : Int) (w : World) (z : ((m : Int) == 0) = false) (lm : Hid (m < 18446744073709551616)) (hL : Hid (bl m = L)) (L1 : (L : Int) ≤ 64) (p1 : (p : Int) ≤ 60) (e0 : -5000 < e) (e1 : e < 5000) (l0 : -5000 < least) (l1 : least < 5000) (hun : (L : Int) + e - ((p : Int) + 1) = un) (c : un < least) (d : e = least) (hw : IntKind.u64.wrap (m : Int) = (m : Int)) (f : ¬ I < m) :
    Calls Tryz.prog 103 #[.int .u64 (m : Nat), .int .i64 e, .int .i64 (p : Nat), .int .i64 least, .int .u64 (I : Nat)] w fun e w' => e = .returned (.int .u64 ((m : Nat))) ∧ w' = w := by
  subst d
  go_enter Tryz.func103, Tryz.ntmps103
  go_wp2_with fail
  refine (length_at m L _ lm.out hL.out).mono ?_
  rintro e w' ⟨rfl, rfl⟩
  go_wp2
  go_ret
  exact ⟨rfl, rfl⟩

set_option maxHeartbeats 2000000 in
theorem smhigtg (m p I L : Nat) (e least un : Int) (w : World) (z : ((m : Int) == 0) = false) (lm : Hid (m < 18446744073709551616)) (hL : Hid (bl m = L)) (L1 : (L : Int) ≤ 64) (p1 : (p : Int) ≤ 60) (e0 : -5000 < e) (e1 : e < 5000) (_l0 : -5000 < least) (_l1 : least < 5000) (hun : (L : Int) + e - ((p : Int) + 1) = un) (_c : ¬ un < least) (d : un < e) (d2 : e - un < 64) (k : Nat) (hk : IntKind.u64.wrap ((m : Int) * 2 ^ (e - un).toNat) = (k : Int)) (u : Int) (v b : Nat) (hu : un - least = u) (u0 : 0 ≤ u) (u1 : u < 5000) (hv : IntKind.u64.wrap (u * 2 ^ p) = (v : Int)) (hb : IntKind.u64.wrap ((v : Int) + (k : Int)) = (b : Int)) (f : I < b) :
    Calls Tryz.prog 103 #[.int .u64 (m : Nat), .int .i64 e, .int .i64 (p : Nat), .int .i64 least, .int .u64 (I : Nat)] w fun e w' => e = .returned (.int .u64 ((I : Nat))) ∧ w' = w := by
  go_enter Tryz.func103, Tryz.ntmps103
  go_wp2_with fail
  refine (length_at m L _ lm.out hL.out).mono ?_
  rintro e w' ⟨rfl, rfl⟩
  go_wp2
  go_ret
  exact ⟨rfl, rfl⟩

set_option maxHeartbeats 2000000 in
theorem smhigts (m p I L : Nat) (e least un : Int) (w : World) (z : ((m : Int) == 0) = false) (lm : Hid (m < 18446744073709551616)) (hL : Hid (bl m = L)) (L1 : (L : Int) ≤ 64) (p1 : (p : Int) ≤ 60) (e0 : -5000 < e) (e1 : e < 5000) (_l0 : -5000 < least) (_l1 : least < 5000) (hun : (L : Int) + e - ((p : Int) + 1) = un) (_c : ¬ un < least) (d : un < e) (d2 : e - un < 64) (k : Nat) (hk : IntKind.u64.wrap ((m : Int) * 2 ^ (e - un).toNat) = (k : Int)) (u : Int) (v b : Nat) (hu : un - least = u) (u0 : 0 ≤ u) (u1 : u < 5000) (hv : IntKind.u64.wrap (u * 2 ^ p) = (v : Int)) (hb : IntKind.u64.wrap ((v : Int) + (k : Int)) = (b : Int)) (f : ¬ I < b) :
    Calls Tryz.prog 103 #[.int .u64 (m : Nat), .int .i64 e, .int .i64 (p : Nat), .int .i64 least, .int .u64 (I : Nat)] w fun e w' => e = .returned (.int .u64 ((b : Nat))) ∧ w' = w := by
  go_enter Tryz.func103, Tryz.ntmps103
  go_wp2_with fail
  refine (length_at m L _ lm.out hL.out).mono ?_
  rintro e w' ⟨rfl, rfl⟩
  go_wp2
  go_ret
  exact ⟨rfl, rfl⟩

set_option maxHeartbeats 2000000 in
theorem smhiltg (m p I L : Nat) (e least un : Int) (w : World) (z : ((m : Int) == 0) = false) (lm : Hid (m < 18446744073709551616)) (hL : Hid (bl m = L)) (L1 : (L : Int) ≤ 64) (p1 : (p : Int) ≤ 60) (e0 : -5000 < e) (e1 : e < 5000) (l0 : -5000 < least) (l1 : least < 5000) (hun : (L : Int) + e - ((p : Int) + 1) = un) (_c : ¬ un < least) (d : e < un) (j : Nat) (j1 : 1 ≤ j) (dj : un - e = (j : Int)) (lm2 : Hid (okm m j)) (k : Nat) (hk : Hid (rne m (2 ^ j) = k)) (u : Int) (v b : Nat) (hu : un - least = u) (u0 : 0 ≤ u) (u1 : u < 5000) (hv : IntKind.u64.wrap (u * 2 ^ p) = (v : Int)) (hb : IntKind.u64.wrap ((v : Int) + (k : Int)) = (b : Int)) (f : I < b) :
    Calls Tryz.prog 103 #[.int .u64 (m : Nat), .int .i64 e, .int .i64 (p : Nat), .int .i64 least, .int .u64 (I : Nat)] w fun e w' => e = .returned (.int .u64 ((I : Nat))) ∧ w' = w := by
  go_enter Tryz.func103, Tryz.ntmps103
  go_wp2_with fail
  refine (length_at m L _ lm.out hL.out).mono ?_
  rintro e w' ⟨rfl, rfl⟩
  go_wp2_with fail
  refine (near_at m j k _ lm2.out j1 hk.out).mono ?_
  rintro e w' ⟨rfl, rfl⟩
  go_wp2
  go_ret
  exact ⟨rfl, rfl⟩

set_option maxHeartbeats 2000000 in
theorem smhilts (m p I L : Nat) (e least un : Int) (w : World) (z : ((m : Int) == 0) = false) (lm : Hid (m < 18446744073709551616)) (hL : Hid (bl m = L)) (L1 : (L : Int) ≤ 64) (p1 : (p : Int) ≤ 60) (e0 : -5000 < e) (e1 : e < 5000) (l0 : -5000 < least) (l1 : least < 5000) (hun : (L : Int) + e - ((p : Int) + 1) = un) (_c : ¬ un < least) (d : e < un) (j : Nat) (j1 : 1 ≤ j) (dj : un - e = (j : Int)) (lm2 : Hid (okm m j)) (k : Nat) (hk : Hid (rne m (2 ^ j) = k)) (u : Int) (v b : Nat) (hu : un - least = u) (u0 : 0 ≤ u) (u1 : u < 5000) (hv : IntKind.u64.wrap (u * 2 ^ p) = (v : Int)) (hb : IntKind.u64.wrap ((v : Int) + (k : Int)) = (b : Int)) (f : ¬ I < b) :
    Calls Tryz.prog 103 #[.int .u64 (m : Nat), .int .i64 e, .int .i64 (p : Nat), .int .i64 least, .int .u64 (I : Nat)] w fun e w' => e = .returned (.int .u64 ((b : Nat))) ∧ w' = w := by
  go_enter Tryz.func103, Tryz.ntmps103
  go_wp2_with fail
  refine (length_at m L _ lm.out hL.out).mono ?_
  rintro e w' ⟨rfl, rfl⟩
  go_wp2_with fail
  refine (near_at m j k _ lm2.out j1 hk.out).mono ?_
  rintro e w' ⟨rfl, rfl⟩
  go_wp2
  go_ret
  exact ⟨rfl, rfl⟩

set_option maxHeartbeats 2000000 in
theorem smhieqg (m p I L : Nat) (e least un : Int) (w : World) (z : ((m : Int) == 0) = false) (lm : Hid (m < 18446744073709551616)) (hL : Hid (bl m = L)) (_L1 : (L : Int) ≤ 64) (p1 : (p : Int) ≤ 60) (e0 : -5000 < e) (e1 : e < 5000) (_l0 : -5000 < least) (_l1 : least < 5000) (hun : (L : Int) + e - ((p : Int) + 1) = un) (c : ¬ un < least) (d : e = un) (u : Int) (v b : Nat) (hu : un - least = u) (u0 : 0 ≤ u) (u1 : u < 5000) (hv : IntKind.u64.wrap (u * 2 ^ p) = (v : Int)) (hb : IntKind.u64.wrap ((v : Int) + (m : Int)) = (b : Int)) (f : I < b) :
    Calls Tryz.prog 103 #[.int .u64 (m : Nat), .int .i64 e, .int .i64 (p : Nat), .int .i64 least, .int .u64 (I : Nat)] w fun e w' => e = .returned (.int .u64 ((I : Nat))) ∧ w' = w := by
  subst d
  go_enter Tryz.func103, Tryz.ntmps103
  go_wp2_with fail
  refine (length_at m L _ lm.out hL.out).mono ?_
  rintro e w' ⟨rfl, rfl⟩
  go_wp2
  go_ret
  exact ⟨rfl, rfl⟩

set_option maxHeartbeats 2000000 in
theorem smhieqs (m p I L : Nat) (e least un : Int) (w : World) (z : ((m : Int) == 0) = false) (lm : Hid (m < 18446744073709551616)) (hL : Hid (bl m = L)) (_L1 : (L : Int) ≤ 64) (p1 : (p : Int) ≤ 60) (e0 : -5000 < e) (e1 : e < 5000) (_l0 : -5000 < least) (_l1 : least < 5000) (hun : (L : Int) + e - ((p : Int) + 1) = un) (c : ¬ un < least) (d : e = un) (u : Int) (v b : Nat) (hu : un - least = u) (u0 : 0 ≤ u) (u1 : u < 5000) (hv : IntKind.u64.wrap (u * 2 ^ p) = (v : Int)) (hb : IntKind.u64.wrap ((v : Int) + (m : Int)) = (b : Int)) (f : ¬ I < b) :
    Calls Tryz.prog 103 #[.int .u64 (m : Nat), .int .i64 e, .int .i64 (p : Nat), .int .i64 least, .int .u64 (I : Nat)] w fun e w' => e = .returned (.int .u64 ((b : Nat))) ∧ w' = w := by
  subst d
  go_enter Tryz.func103, Tryz.ntmps103
  go_wp2_with fail
  refine (length_at m L _ lm.out hL.out).mono ?_
  rintro e w' ⟨rfl, rfl⟩
  go_wp2
  go_ret
  exact ⟨rfl, rfl⟩

end Go.Proofs.YtgeipbegpflkhaaGreatDoor.Ref2

/-
  The reference's rounding to a float of fewer bits is the nearest rung: the walk's answer by plain numbers.
-/
namespace Go.Proofs.YtgeipbegpflkhaaGreatDoor.Ref2
open Go.RowKit Tf
attribute [local go_sem] run_bits run_from raw_feq raw_fne raw_flt raw_fgt run_neg

set_option maxHeartbeats 1000000 in
theorem small_0 (e p least : Int) (I : Nat) (w : World) :
    Calls Tryz.prog 103 #[.int .u64 0, .int .i64 e, .int .i64 p, .int .i64 least, .int .u64 (I : Nat)] w fun e w' => e = .returned (.int .u64 0) ∧ w' = w := by
  go_enter Tryz.func103, Tryz.ntmps103
  go_wp2
  go_ret
  exact ⟨rfl, rfl⟩
theorem rung_none (p d : Nat) : rung p d 0 = 0 := by unfold rung rne; simp
theorem rne_up (m t d : Nat) : rne (m * 2 ^ (d + t)) (2 ^ d) = m * 2 ^ t := by
  rw [Nat.add_comm, Nat.pow_add, ← Nat.mul_assoc, rne_mul _ _ (pow_pos d)]
theorem rne_dn (m j E : Nat) : rne (m * 2 ^ E) (2 ^ (j + E)) = rne m (2 ^ j) := by
  rw [Nat.pow_add, rne_scale _ _ _ (pow_pos E)]
theorem rne_top (m j p : Nat) (h : m < 2 ^ (p + 1 + j)) : rne m (2 ^ j) ≤ 2 ^ (p + 1) := by
  have h1 := rne_mono (2 ^ j) (show m ≤ 2 ^ (p + 1) * 2 ^ j by rw [← Nat.pow_add]; omega)
  rwa [rne_mul _ _ (pow_pos j)] at h1

theorem small_at (m p I : Nat) (e least : Int) (r : Nat) (w : World) (hm : m ≤ 9223372036854775808) (hm2 : m < 9223372036854775808 ∨ least ≤ e) (hp : p ≤ 52) (e0 : -1100 ≤ e) (e1 : e ≤ 1100) (l0 : -1100 ≤ least) (l1 : least ≤ 0)
    (HB : ∀ u : Nat, (u : Int) ≤ 64 + e - least → u * 2 ^ p < 9223372036854775808) (hr : min (rung p (least - e).toNat (m * 2 ^ (e - least).toNat)) I = r) :
    Calls Tryz.prog 103 #[.int .u64 (m : Nat), .int .i64 e, .int .i64 (p : Nat), .int .i64 least, .int .u64 (I : Nat)] w fun e w' => e = .returned (.int .u64 (r : Nat)) ∧ w' = w := by
  by_cases z : m = 0
  · subst z
    rw [Nat.zero_mul, rung_none, Nat.zero_min] at hr
    subst hr
    exact small_0 e p least I w
  · have zb : ((m : Int) == 0) = false := by simp; omega
    obtain ⟨g, hg⟩ : ∃ g, m.log2 = g := ⟨_, rfl⟩
    have hb : bl m = g + 1 := by unfold bl; rw [if_neg z, hg]
    have g63 : g ≤ 63 := by
      have := log2_small (k := 63) (show m < 2 ^ (63 + 1) by omega)
      omega
    have hlo : 2 ^ g ≤ m := by rw [← hg]; exact Nat.log2_self_le z
    have hhi : m < 2 ^ (g + 1) := by rw [← hg]; exact Nat.lt_log2_self
    obtain ⟨E, hE⟩ : ∃ E, (e - least).toNat = E := ⟨_, rfl⟩
    obtain ⟨Dd, hD⟩ : ∃ Dd, (least - e).toNat = Dd := ⟨_, rfl⟩
    have hlogN : (m * 2 ^ E).log2 = g + E := by rw [log2_mul_pow m E z, hg]
    rw [hE, hD] at hr
    have hrung : rung p Dd (m * 2 ^ E) = (g + E - (p + Dd)) * 2 ^ p + rne (m * 2 ^ E) (2 ^ (g + E - (p + Dd) + Dd)) := by unfold rung; rw [hlogN]
    rw [hrung] at hr
    have hp53 : 2 ^ (p + 1) ≤ 2 ^ 53 := Nat.pow_le_pow_right (by omega) (by omega)
    have hun : ((g + 1 : Nat) : Int) + e - ((p : Int) + 1) = (g : Int) + e - p := by omega
    have wid : ∀ a : Nat, a < 18446744073709551616 → IntKind.u64.wrap (a : Int) = (a : Int) := fun a h => by rw [wrap_id] <;> omega
    -- what is kept, in each of the three ways; 'u': the band; 't': how far up
    have kup : ∀ u t : Nat, g + E - (p + Dd) = u → E = u + Dd + t → g + t ≤ p → rne (m * 2 ^ E) (2 ^ (u + Dd)) = m * 2 ^ t ∧ m * 2 ^ t ≤ 2 ^ (p + 1) := by
      intro u t _ h2 h3
      refine ⟨by rw [h2]; exact rne_up m t (u + Dd), ?_⟩
      have h4 : m * 2 ^ t ≤ 2 ^ (g + 1) * 2 ^ t := Nat.mul_le_mul_right _ (by omega)
      rw [← Nat.pow_add] at h4
      exact Nat.le_trans h4 (Nat.pow_le_pow_right (by omega) (by omega))
    have kdn : ∀ u j : Nat, u + Dd = j + E → g ≤ p + j → rne (m * 2 ^ E) (2 ^ (u + Dd)) = rne m (2 ^ j) ∧ rne m (2 ^ j) ≤ 2 ^ (p + 1) := by
      intro u j h2 h3
      refine ⟨by rw [h2]; exact rne_dn m j E, rne_top m j p ?_⟩
      exact Nat.lt_of_lt_of_le hhi (Nat.pow_le_pow_right (by omega) (by omega))
    have fin : ∀ b : Nat, min b I = r → (I < b → r = I) ∧ (¬ I < b → r = b) := by intro b h; omega
    by_cases c : (g : Int) + e - p < least
    · have u0 : g + E - (p + Dd) = 0 := by omega
      rw [u0, Nat.zero_mul, Nat.zero_add, Nat.zero_add] at hr
      by_cases d : least < e
      · obtain ⟨k1, k2⟩ := kup 0 E u0 (by omega) (by omega)
        rw [Nat.zero_add] at k1
        rw [k1] at hr
        have hw : IntKind.u64.wrap ((m : Int) * 2 ^ (e - least).toNat) = ((m * 2 ^ E : Nat) : Int) := by rw [hE]; exact wrap_pow _ _ _ rfl (by omega)
        have hw2 := wid (m * 2 ^ E) (by omega)
        generalize m * 2 ^ E = k at *
        by_cases f : I < k
        · rw [(fin k hr).1 f]
          exact smlogtg m p I (g + 1) e least _ w zb (show _ < _ by omega) hb (by omega) (by omega) (by omega) (by omega) (by omega) (by omega) hun c d (by omega) k hw hw2 f
        · rw [(fin k hr).2 f]
          exact smlogts m p I (g + 1) e least _ w zb (show _ < _ by omega) hb (by omega) (by omega) (by omega) (by omega) (by omega) (by omega) hun c d (by omega) k hw hw2 f
      · by_cases d2 : e < least
        · obtain ⟨k1, k2⟩ := kdn 0 Dd (by omega) (by omega)
          rw [Nat.zero_add] at k1
          rw [k1] at hr
          obtain ⟨k, hk⟩ : ∃ k, rne m (2 ^ Dd) = k := ⟨_, rfl⟩
          rw [hk] at hr k2
          have hw2 := wid k (by omega)
          have ok : okm m Dd := okm_of _ _ (by omega)
          by_cases f : I < k
          · rw [(fin k hr).1 f]
            exact smloltg m p I (g + 1) e least _ w zb (show _ < _ by omega) hb (by omega) (by omega) (by omega) (by omega) (by omega) (by omega) hun c d2 Dd (by omega) (by omega) ok k hk hw2 f
          · rw [(fin k hr).2 f]
            exact smlolts m p I (g + 1) e least _ w zb (show _ < _ by omega) hb (by omega) (by omega) (by omega) (by omega) (by omega) (by omega) hun c d2 Dd (by omega) (by omega) ok k hk hw2 f
        · have de : e = least := by omega
          obtain ⟨k1, k2⟩ := kup 0 0 u0 (by omega) (by omega)
          rw [Nat.zero_add, Nat.pow_zero, Nat.mul_one] at k1
          rw [k1] at hr
          have hw2 := wid m (by omega)
          by_cases f : I < m
          · rw [(fin m hr).1 f]
            exact smloeqg m p I (g + 1) e least _ w zb (show _ < _ by omega) hb (by omega) (by omega) (by omega) (by omega) (by omega) (by omega) hun c de hw2 f
          · rw [(fin m hr).2 f]
            exact smloeqs m p I (g + 1) e least _ w zb (show _ < _ by omega) hb (by omega) (by omega) (by omega) (by omega) (by omega) (by omega) hun c de hw2 f
    · obtain ⟨u, hu⟩ : ∃ u, g + E - (p + Dd) = u := ⟨_, rfl⟩
      have hui : (g : Int) + e - p - least = (u : Int) := by omega
      rw [hu] at hr
      have hv := HB u (by omega)
      have hv2 : IntKind.u64.wrap ((u : Int) * 2 ^ p) = ((u * 2 ^ p : Nat) : Int) := wrap_pow _ _ _ rfl (by omega)
      generalize u * 2 ^ p = v at *
      by_cases d : (g : Int) + e - p < e
      · obtain ⟨t, ht⟩ : ∃ t : Nat, (e - ((g : Int) + e - p)).toNat = t := ⟨_, rfl⟩
        obtain ⟨k1, k2⟩ := kup u t hu (by omega) (by omega)
        rw [k1] at hr
        have hw : IntKind.u64.wrap ((m : Int) * 2 ^ (e - ((g : Int) + e - p)).toNat) = ((m * 2 ^ t : Nat) : Int) := by rw [ht]; exact wrap_pow _ _ _ rfl (by omega)
        generalize m * 2 ^ t = k at *
        have hs := wid (v + k) (by omega)
        rw [Int.natCast_add] at hs
        by_cases f : I < v + k
        · rw [(fin _ hr).1 f]
          exact smhigtg m p I (g + 1) e least _ w zb (show _ < _ by omega) hb (by omega) (by omega) (by omega) (by omega) (by omega) (by omega) hun c d (by omega) k hw u v (v + k) hui (by omega) (by omega) hv2 hs f
        · rw [(fin _ hr).2 f]
          exact smhigts m p I (g + 1) e least _ w zb (show _ < _ by omega) hb (by omega) (by omega) (by omega) (by omega) (by omega) (by omega) hun c d (by omega) k hw u v (v + k) hui (by omega) (by omega) hv2 hs f
      · by_cases d2 : e < (g : Int) + e - p
        · obtain ⟨j, hj⟩ : ∃ j : Nat, (g : Int) + e - p - e = (j : Int) := ⟨g - p, by omega⟩
          obtain ⟨k1, k2⟩ := kdn u j (by omega) (by omega)
          rw [k1] at hr
          obtain ⟨k, hk⟩ : ∃ k, rne m (2 ^ j) = k := ⟨_, rfl⟩
          rw [hk] at hr k2
          have ok : okm m j := ⟨hm, fun h => by omega⟩
          have hs := wid (v + k) (by omega)
          rw [Int.natCast_add] at hs
          by_cases f : I < v + k
          · rw [(fin _ hr).1 f]
            exact smhiltg m p I (g + 1) e least _ w zb (show _ < _ by omega) hb (by omega) (by omega) (by omega) (by omega) (by omega) (by omega) hun c d2 j (by omega) hj ok k hk u v (v + k) hui (by omega) (by omega) hv2 hs f
          · rw [(fin _ hr).2 f]
            exact smhilts m p I (g + 1) e least _ w zb (show _ < _ by omega) hb (by omega) (by omega) (by omega) (by omega) (by omega) (by omega) hun c d2 j (by omega) hj ok k hk u v (v + k) hui (by omega) (by omega) hv2 hs f
        · have de : e = (g : Int) + e - p := by omega
          obtain ⟨k1, k2⟩ := kup u 0 hu (by omega) (by omega)
          rw [Nat.pow_zero, Nat.mul_one] at k1 k2
          rw [k1] at hr
          have hs := wid (v + m) (by omega)
          rw [Int.natCast_add] at hs
          by_cases f : I < v + m
          · rw [(fin _ hr).1 f]
            exact smhieqg m p I (g + 1) e least _ w zb (show _ < _ by omega) hb (by omega) (by omega) (by omega) (by omega) (by omega) (by omega) hun c de u v (v + m) hui (by omega) (by omega) hv2 hs f
          · rw [(fin _ hr).2 f]
            exact smhieqs m p I (g + 1) e least _ w zb (show _ < _ by omega) hb (by omega) (by omega) (by omega) (by omega) (by omega) (by omega) hun c de u v (v + m) hui (by omega) (by omega) hv2 hs f
end Go.Proofs.YtgeipbegpflkhaaGreatDoor.Ref2

/-
  FromInt, To32, To16, From32 and From16 of the reference of layer 2 answer what the code's do: walks over the program.
-/
namespace Go.Proofs.YtgeipbegpflkhaaGreatDoor.Ref2
open Go.RowKit Tf
attribute [local go_sem] run_bits run_from raw_feq raw_fne raw_flt raw_fgt run_neg

theorem rung_units (p m : Nat) (e least : Int) (he : -1074 ≤ e) (hl : -1074 ≤ least) : rung p (least + 1074).toNat (m * 2 ^ (e + 1074).toNat) = rung p (least - e).toNat (m * 2 ^ (e - least).toNat) := by
  obtain ⟨c, hc⟩ : ∃ c : Nat, min e least + 1074 = (c : Int) := ⟨(min e least + 1074).toNat, by omega⟩
  have h1 : (least + 1074).toNat = (least - e).toNat + c := by omega
  have h2 : (e + 1074).toNat = (e - least).toNat + c := by omega
  rw [h1, h2, Nat.pow_add, ← Nat.mul_assoc, rung_scale]

theorem small52 (m : Nat) (e : Int) (r : Nat) (w : World) (hm : m ≤ 9223372036854775808) (e0 : -1074 ≤ e) (e1 : e ≤ 900) (hr : min (rung 52 0 (m * 2 ^ (e + 1074).toNat)) 9218868437227405312 = r) :
    Calls Tryz.prog 103 #[.int .u64 (m : Nat), .int .i64 e, .int .i64 52, .int .i64 (-1074), .int .u64 9218868437227405312] w fun e w' => e = .returned (.int .u64 (r : Nat)) ∧ w' = w := by
  refine small_at m 52 9218868437227405312 e (-1074) r w hm (.inr e0) (by decide) (by omega) (by omega) (by decide) (by decide) (fun u hu => by omega) ?_
  have h1 : ((-1074 : Int) - e).toNat = 0 := by omega
  have h2 : (e - (-1074)).toNat = (e + 1074).toNat := by omega
  rw [h1, h2]; exact hr
theorem small23 (m : Nat) (e : Int) (r : Nat) (w : World) (hm : m < 9007199254740992) (e0 : -1074 ≤ e) (e1 : e ≤ 971) (hr : min (rung 23 K2 (m * 2 ^ (e + 1074).toNat)) 2139095040 = r) :
    Calls Tryz.prog 103 #[.int .u64 (m : Nat), .int .i64 e, .int .i64 23, .int .i64 (-149), .int .u64 2139095040] w fun e w' => e = .returned (.int .u64 (r : Nat)) ∧ w' = w := by
  refine small_at m 23 2139095040 e (-149) r w (by omega) (.inl (by omega)) (by decide) (by omega) (by omega) (by decide) (by decide) (fun u hu => by omega) ?_
  have h := rung_units 23 m e (-149) e0 (by decide)
  have h1 : ((-149 : Int) + 1074).toNat = K2 := by rw [K2_eq]; decide
  rw [h1] at h
  rw [← h]; exact hr
theorem small10 (m : Nat) (e : Int) (r : Nat) (w : World) (hm : m < 9007199254740992) (e0 : -1074 ≤ e) (e1 : e ≤ 971) (hr : min (rung 10 H2 (m * 2 ^ (e + 1074).toNat)) 31744 = r) :
    Calls Tryz.prog 103 #[.int .u64 (m : Nat), .int .i64 e, .int .i64 10, .int .i64 (-24), .int .u64 31744] w fun e w' => e = .returned (.int .u64 (r : Nat)) ∧ w' = w := by
  refine small_at m 10 31744 e (-24) r w (by omega) (.inl (by omega)) (by decide) (by omega) (by omega) (by decide) (by decide) (fun u hu => by omega) ?_
  have h := rung_units 10 m e (-24) e0 (by decide)
  have h1 : ((-24 : Int) + 1074).toNat = H2 := by rw [H2_eq]; decide
  rw [h1] at h
  rw [← h]; exact hr

set_option maxHeartbeats 1000000 in
theorem fi_pos (i : Int) (m r : Nat) (w : World) (h : ¬ i < 0) (hi : IntKind.u64.wrap i = (m : Int)) (hw : IntKind.u64.wrap (r : Int) = (r : Int)) (S : Hid (∀ w, Calls Tryz.prog 103 #[.int .u64 (m : Nat), .int .i64 0, .int .i64 52, .int .i64 (-1074), .int .u64 9218868437227405312] w fun e w' => e = .returned (.int .u64 (r : Nat)) ∧ w' = w)) :
    Calls Tryz.prog 70 #[.int .i64 i] w fun e w' => e = .returned (.float .f64 r) ∧ w' = w := by
  go_enter Tryz.func70, Tryz.ntmps70
  go_wp2_with fail
  refine (S.out _).mono ?_
  rintro e w' ⟨rfl, rfl⟩
  go_wp2_with fail
  refine (from_at (r : Int) r _ (by omega)).mono ?_
  rintro e w' ⟨rfl, rfl⟩
  go_wp2
  go_ret
  exact ⟨rfl, rfl⟩

set_option maxHeartbeats 1000000 in
theorem fi_neg (i : Int) (a m r s : Nat) (w : World) (h : i < 0) (hi : IntKind.u64.wrap i = (a : Int)) (ha : IntKind.u64.wrap (-(a : Int)) = (m : Int)) (hw : IntKind.u64.wrap (9223372036854775808 + (r : Int)) = (s : Int)) (S : Hid (∀ w, Calls Tryz.prog 103 #[.int .u64 (m : Nat), .int .i64 0, .int .i64 52, .int .i64 (-1074), .int .u64 9218868437227405312] w fun e w' => e = .returned (.int .u64 (r : Nat)) ∧ w' = w)) :
    Calls Tryz.prog 70 #[.int .i64 i] w fun e w' => e = .returned (.float .f64 s) ∧ w' = w := by
  go_enter Tryz.func70, Tryz.ntmps70
  go_wp2_with fail
  refine (S.out _).mono ?_
  rintro e w' ⟨rfl, rfl⟩
  go_wp2_with fail
  refine (from_at (s : Int) s _ (by omega)).mono ?_
  rintro e w' ⟨rfl, rfl⟩
  go_wp2
  go_ret
  exact ⟨rfl, rfl⟩

theorem refFromInt_at (i : Int) (r : Nat) (w : World) (i0 : -9223372036854775808 ≤ i) (i1 : i ≤ 9223372036854775807) (hr : rn false (i * one) = r) :
    Calls Tryz.prog 70 #[.int .i64 i] w fun e w' => e = .returned (.float .f64 r) ∧ w' = w := by
  have hK : (1074 : Nat) = K := rfl
  have hab : (i * (one : Int)).natAbs = i.natAbs * one := by rw [Int.natAbs_mul, Int.natAbs_natCast]
  have ho : ((0 : Int) + 1074).toNat = K := by rw [K_eq]; decide
  have hs := fun w => small52 i.natAbs 0 _ w (by omega) (by decide) (by decide) rfl
  rw [ho, ← one_pow] at hs
  have hlt : min (rung 52 0 (i.natAbs * one)) 9218868437227405312 ≤ 9218868437227405312 := Nat.min_le_right _ _
  have hp := onep
  have hrn : rn false (i * one) = if i < 0 then 9223372036854775808 + min (rung 52 0 (i.natAbs * one)) 9218868437227405312 else min (rung 52 0 (i.natAbs * one)) 9218868437227405312 := by
    unfold rn
    rw [hab]
    have h2 : (if i * (one : Int) = 0 then false else decide (i * (one : Int) < 0)) = decide (i < 0) := by
      by_cases c : i = 0
      · subst c; simp
      · have c' : ¬ i * (one : Int) = 0 := by rw [Int.mul_eq_zero]; omega
        rw [if_neg c']
        have : i * (one : Int) < 0 ↔ i < 0 := by
          have : i * (one : Int) < 0 * (one : Int) ↔ i < 0 := Int.mul_lt_mul_right hp
          rwa [Int.zero_mul] at this
        exact decide_eq_decide.2 this
    rw [h2]
    by_cases c : i < 0
    · rw [decide_eq_true c, if_pos rfl, if_pos c]
    · rw [decide_eq_false c, if_neg (by decide), if_neg c]
  rw [hrn] at hr
  generalize min (rung 52 0 (i.natAbs * one)) 9218868437227405312 = q at *
  by_cases c : i < 0
  · rw [if_pos c] at hr
    subst hr
    have w1 : IntKind.u64.wrap i = ((18446744073709551616 - i.natAbs : Nat) : Int) := by
      simp [IntKind.wrap, IntKind.bits, IntKind.signed]; omega
    have w2 : IntKind.u64.wrap (-((18446744073709551616 - i.natAbs : Nat) : Int)) = (i.natAbs : Int) := by
      simp [IntKind.wrap, IntKind.bits, IntKind.signed]; omega
    exact fi_neg i _ _ q (9223372036854775808 + q) w c w1 w2 (by rw [wrap_id] <;> omega) hs
  · rw [if_neg c] at hr
    subst hr
    exact fi_pos i i.natAbs q w c (by rw [wrap_id] <;> omega) (by rw [wrap_id] <;> omega) hs
end Go.Proofs.YtgeipbegpflkhaaGreatDoor.Ref2

/-
  Depths, levels and fills of the reference: what it returns (walks).
-/
namespace Go.Proofs.YtgeipbegpflkhaaGreatDoor
open Go.RowKit Tf
attribute [local go_sem] run_bits run_from raw_feq raw_fne raw_flt raw_fgt run_neg
theorem rdepth_no11 (n a : Int) (w : World) (h : n < 1 ∨ a < 1) :
    Calls Tryz.prog 36 #[.int .i64 n, .int .i64 a] w fun e w' => e = .returned (.float .f64 0) ∧ w' = w := by
  by_cases c : n < 1
  · go_enter Tryz.func36, Tryz.ntmps36
    go_wp2
    go_ret
    exact ⟨rfl, rfl⟩
  · have d : a < 1 := by omega
    clear h
    go_enter Tryz.func36, Tryz.ntmps36
    go_wp2
    go_ret
    exact ⟨rfl, rfl⟩
theorem rdepth_yes11 (n a : Int) (w : World) (h1 : 1 ≤ n) (h2 : 1 ≤ a) (n2 : n ≤ 9223372036854775807) (a2 : a ≤ 9223372036854775807) :
    Calls Tryz.prog 36 #[.int .i64 n, .int .i64 a] w fun e w' => e = .returned (.float .f64 (dpB n a)) ∧ ∃ k, w' = w.drewN k := by
  obtain ⟨r, k, hr, hc⟩ := div_any (P := Tryz.prog) w (fw n) (fw a)
  have e := isC_eq hc (by rw [← dp_of h1 h2]; have := dp_in h1 h2 n2 a2; omega) (by rw [← dp_of h1 h2]; have := dp_in h1 h2 n2 a2; omega)
  rw [dp_of h1 h2, ← e]
  clear e hc
  have F1 := hid (Ref2.refFromInt_at n _ w (by omega) n2 rfl)
  have F2 := hid (Ref2.refFromInt_at a _ w (by omega) a2 rfl)
  rw [show rn false (n * one) = fw n from rfl] at F1
  rw [show rn false (a * one) = fw a from rfl] at F2
  generalize fw n = x at *
  generalize fw a = y at *
  go_enter Tryz.func36, Tryz.ntmps36
  go_wp2_with fail
  refine F1.out.mono ?_
  rintro e w' ⟨rfl, rfl⟩
  go_wp2_with fail
  refine F2.out.mono ?_
  rintro e w' ⟨rfl, rfl⟩
  go_wp2
  go_ret
  exact ⟨rfl, k, rfl⟩
theorem rdepth_at11 (n a : Int) (w : World) (n2 : n ≤ 9223372036854775807) (a2 : a ≤ 9223372036854775807) :
    Calls Tryz.prog 36 #[.int .i64 n, .int .i64 a] w fun e w' => e = .returned (.float .f64 (dpB n a)) ∧ ∃ k, w' = w.drewN k := by
  by_cases c : n < 1 ∨ a < 1
  · rw [dp_zero c]
    exact (rdepth_no11 n a w c).mono fun _ _ h => ⟨h.1, 0, h.2⟩
  · exact rdepth_yes11 n a w (by omega) (by omega) n2 a2
theorem rlevel_at11 (b : Nat) (n a : Int) (w : World) (hb : b < 18446744073709551616) (n2 : n ≤ 9223372036854775807) (a2 : a ≤ 9223372036854775807) :
    Calls Tryz.prog 39 #[.float .f64 b, .int .i64 n, .int .i64 a] w fun e w' => e = .returned (.float .f64 (lvl b n a)) ∧ ∃ k, w' = w.drewN k := by
  have D := hid (rdepth_at11 n a w n2 a2)
  have e0 : lvl b n a = addB b (dpB n a) := rfl
  rw [e0]
  have hd : dpB n a < 18446744073709551616 := by have := dp_le n2 a2; omega
  clear e0
  generalize dpB n a = d at *
  have AD : Hid (∀ k : Nat, ∃ r m, (∀ t, (binOp .add t (.float .f64 b) (.float .f64 d)).run Tryz.prog (w.drewN k) = .ok (.float .f64 r) ((w.drewN k).drewN m)) ∧ IsC r (addB b d)) := fun k => add_can _ b d hb hd
  generalize addB b d = y at *
  go_enter Tryz.func39, Tryz.ntmps39
  go_wp2_with fail
  refine D.out.mono ?_
  rintro e w' ⟨rfl, k, rfl⟩
  obtain ⟨r, m, hr, hc⟩ := AD.out k
  have C := hid (refCanon_any r (w.drewN (k + m)))
  rw [hc.2] at C
  go_wp2_with fail
  refine C.out.mono ?_
  rintro e w' ⟨rfl, rfl⟩
  go_wp2
  go_ret
  exact ⟨rfl, k + m, rfl⟩
end Go.Proofs.YtgeipbegpflkhaaGreatDoor

/-
  Package limit: walks over the program.
-/
namespace Go.Proofs.YtgeipbegpflkhaaGreatDoor
open Go.RowKit Tf
attribute [local go_sem] run_bits run_from raw_feq raw_fne raw_flt raw_fgt run_neg
theorem run_min_f {P : Program} (w : World) (ts : Array TypeId) (t : TypeId) {a b : Nat} (ha : a ≤ 9218868437227405312) (hb : b ≤ 9218868437227405312) :
    (Builtin.min_ ts t #[.float .f64 a, .float .f64 b]).run P w = .ok (.float .f64 (min a b)) w := by
  have h : FloatKind.f64.format.order a b = _ := order_pp ha hb
  by_cases c : a < b
  · rw [if_pos c] at h
    simp [Builtin.min_, Builtin.min2, h]
    omega
  · rw [if_neg c] at h
    by_cases d : b < a
    · rw [if_pos d] at h
      simp [Builtin.min_, Builtin.min2, h]
      omega
    · rw [if_neg d] at h
      have e : a = b := by omega
      subst e
      simp [Builtin.min_, Builtin.min2, h]
theorem run_max_f {P : Program} (w : World) (ts : Array TypeId) (t : TypeId) {a b : Nat} (ha : a ≤ 9218868437227405312) (hb : b ≤ 9218868437227405312) :
    (Builtin.max_ ts t #[.float .f64 a, .float .f64 b]).run P w = .ok (.float .f64 (max a b)) w := by
  have h : FloatKind.f64.format.order a b = _ := order_pp ha hb
  by_cases c : a < b
  · rw [if_pos c] at h
    simp [Builtin.max_, Builtin.max2, h]
    omega
  · rw [if_neg c] at h
    by_cases d : b < a
    · rw [if_pos d] at h
      simp [Builtin.max_, Builtin.max2, h]
      omega
    · rw [if_neg d] at h
      have e : a = b := by omega
      subst e
      simp [Builtin.max_, Builtin.max2, h]
theorem plain_at (a b : Nat) (w : World) : Calls Tryz.prog 114 #[.float .f64 a, .float .f64 b] w fun e w' => e = .returned (.float .f64 0) ∧ w' = w := by
  go_enter Tryz.func114, Tryz.ntmps114
  go_wp2
  go_ret
  exact ⟨rfl, rfl⟩
theorem minmod_at (a b : Nat) (w : World) (ha : a ≤ 9218868437227405312) (hb : b ≤ 9218868437227405312) : Calls Tryz.prog 115 #[.float .f64 a, .float .f64 b] w fun e w' => e = .returned (.float .f64 (min a b)) ∧ w' = w := by
  have h : ∀ ts t, (Builtin.min_ ts t #[.float .f64 a, .float .f64 b]).run Tryz.prog w = .ok (.float .f64 (min a b)) w := fun ts t => run_min_f w ts t ha hb
  generalize e : min a b = m at h ⊢
  clear e ha hb
  go_enter Tryz.func115, Tryz.ntmps115
  go_wp2
  go_ret
  exact ⟨rfl, rfl⟩
set_option maxHeartbeats 1000000 in
theorem superbee_at (a b : Nat) (w : World) (ha : ps a = true) (hb : ps b = true) : Calls Tryz.prog 116 #[.float .f64 a, .float .f64 b] w fun e w' => e = .returned (.float .f64 (sbee a b)) ∧ w' = w := by
  obtain ⟨a0, a1⟩ := ps_iff.1 ha
  obtain ⟨b0, b1⟩ := ps_iff.1 hb
  have fa := (d2_facts a1).1
  have fb := (d2_facts b1).1
  have h1 : ∀ t, (binOp .mul t (.float .f64 4611686018427387904) (.float .f64 a)).run Tryz.prog w = .ok (.float .f64 (mlB 4611686018427387904 a)) w := fun t => run_float_arith w .mul t .f64 _ _ _ (mul_pp (by decide) a1 (by decide) a0)
  have h2 : ∀ t, (binOp .mul t (.float .f64 4611686018427387904) (.float .f64 b)).run Tryz.prog w = .ok (.float .f64 (mlB 4611686018427387904 b)) w := fun t => run_float_arith w .mul t .f64 _ _ _ (mul_pp (by decide) b1 (by decide) b0)
  have h3 : ∀ ts t, (Builtin.min_ ts t #[.float .f64 (mlB 4611686018427387904 a), .float .f64 b]).run Tryz.prog w = .ok (.float .f64 (min (mlB 4611686018427387904 a) b)) w := fun ts t => run_min_f w ts t fa b1
  have h4 : ∀ ts t, (Builtin.min_ ts t #[.float .f64 a, .float .f64 (mlB 4611686018427387904 b)]).run Tryz.prog w = .ok (.float .f64 (min a (mlB 4611686018427387904 b))) w := fun ts t => run_min_f w ts t a1 fb
  have h5 : ∀ ts t, (Builtin.max_ ts t #[.float .f64 (min (mlB 4611686018427387904 a) b), .float .f64 (min a (mlB 4611686018427387904 b))]).run Tryz.prog w = .ok (.float .f64 (sbee a b)) w := fun ts t => run_max_f w ts t (by omega) (by omega)
  generalize mlB 4611686018427387904 a = p at *
  generalize mlB 4611686018427387904 b = q at *
  generalize min p b = u at *
  generalize min a q = v at *
  generalize sbee a b = s at *
  clear a0 a1 b0 b1 fa fb ha hb
  go_enter Tryz.func116, Tryz.ntmps116
  go_wp2
  go_ret
  exact ⟨rfl, rfl⟩
set_option maxHeartbeats 1000000 in
theorem leer_at (a b : Nat) (w : World) (ha : ps a = true) (hb : ps b = true) : Calls Tryz.prog 117 #[.float .f64 a, .float .f64 b] w fun e w' => ∃ r, e = .returned (.float .f64 r) ∧ (∃ n, w' = w.drewN n) ∧ IsC r (lr a b) := by
  obtain ⟨a0, a1⟩ := ps_iff.1 ha
  obtain ⟨b0, b1⟩ := ps_iff.1 hb
  have fa := d2_facts a1
  have L := leer_nn a1 b1 a0 b0
  have h1 : ∀ t, (binOp .mul t (.float .f64 4611686018427387904) (.float .f64 a)).run Tryz.prog w = .ok (.float .f64 (mlB 4611686018427387904 a)) w := fun t => run_float_arith w .mul t .f64 _ _ _ (mul_pp (by decide) a1 (by decide) a0)
  have h2 : ∀ t, (binOp .mul t (.float .f64 (mlB 4611686018427387904 a)) (.float .f64 b)).run Tryz.prog w = .ok (.float .f64 (mlB (mlB 4611686018427387904 a) b)) w := fun t => run_float_arith w .mul t .f64 _ _ _ (mul_pp fa.1 b1 (by omega) b0)
  have h3 : ∀ t, (binOp .add t (.float .f64 a) (.float .f64 b)).run Tryz.prog w = .ok (.float .f64 (plB a b)) w := fun t => run_float_arith w .add t .f64 _ _ _ (add_pp a1 b1)
  obtain ⟨r, n, h4, hc⟩ := div_any (P := Tryz.prog) w (mlB (mlB 4611686018427387904 a) b) (plB a b)
  have hc : IsC r (leer a b) := hc
  obtain ⟨k1, k2⟩ := lr_le_of hc L
  have HL := lr_le a b
  by_cases c : leer a b < 9218868437227405312
  · have e : lr a b = leer a b := by unfold lr; rw [if_pos c]
    rw [decide_eq_true c] at k1
    have HC : Hid (IsC r (lr a b)) := by rw [e]; exact hc
    generalize mlB (mlB 4611686018427387904 a) b = q at *
    generalize mlB 4611686018427387904 a = p at *
    generalize plB a b = s at *
    clear e k2 c L fa a0 a1 b0 b1 ha hb HL
    clear hc
    go_enter Tryz.func117, Tryz.ntmps117
    go_wp2
    go_ret
    exact ⟨r, rfl, ⟨n, rfl⟩, HC.out⟩
  · have e : lr a b = 0 := by unfold lr; rw [if_neg c]
    rw [decide_eq_false c] at k1
    have HC : Hid (IsC 0 (lr a b)) := by rw [e]; exact ⟨by decide, by decide⟩
    generalize mlB (mlB 4611686018427387904 a) b = q at *
    generalize mlB 4611686018427387904 a = p at *
    generalize plB a b = s at *
    clear e k2 c L fa a0 a1 b0 b1 ha hb HL
    clear hc
    go_enter Tryz.func117, Tryz.ntmps117
    go_wp2
    go_ret
    exact ⟨0, rfl, ⟨n, rfl⟩, HC.out⟩
theorem run_store_func {P : Program} {w : World} {a : Addr} {m : Mode} (f : Fn) (x y : Array Value) : (store a (.func f x y) m).run P w = stored P w a (.func f x y) m := run_store P w a _ m rfl
attribute [local go_sem] run_store_func
set_option maxHeartbeats 1000000 in
theorem limiters_at (w : World) : Calls Tryz.prog 77 #[] w fun e w' => e = .returned (.agg #[.func (.func 114) #[] #[], .func (.func 115) #[] #[], .func (.func 116) #[] #[], .func (.func 117) #[] #[]]) ∧ Below w.heap.size w w' := by
  go_enter Tryz.func77, Tryz.ntmps77
  go_wp2
  refine bodyPost_ret ?_ rfl ⟨rfl, ?_⟩
  · exact results_cell_row Tryz.results77 _ _ w.heap.size _ _ (0, 0) _ rfl (heap_alloc_new w _) Tryz.underlying111 rfl (by kernel_rfl)
  · exact bl1 w _
set_option maxHeartbeats 1000000 in
theorem valid_at (k : Int) (w : World) : Calls Tryz.prog 43 #[.int .i64 k] w fun e w' => e = .returned (.bool (decide (0 ≤ k ∧ k ≤ 3))) ∧ Below w.heap.size w w' := by
  have L := hid (limiters_at w)
  by_cases c : 0 ≤ k
  · have e : decide (0 ≤ k ∧ k ≤ 3) = decide (k < 4) := by by_cases d : k < 4 <;> simp [d] <;> omega
    rw [e]
    clear e
    go_enter Tryz.func43, Tryz.ntmps43
    go_wp2_with fail
    refine L.out.mono ?_
    rintro e w1 ⟨rfl, b1⟩
    go_wp2
    go_ret
    exact ⟨rfl, b1⟩
  · have e : decide (0 ≤ k ∧ k ≤ 3) = false := decide_eq_false (by omega)
    rw [e]
    clear e
    go_enter Tryz.func43, Tryz.ntmps43
    go_wp2
    go_ret
    exact ⟨rfl, Below.refl _ _⟩
end Go.Proofs.YtgeipbegpflkhaaGreatDoor
