/-
  The statement on every sum of every list: a walk over the program.
-/
import Derived.Test.YtflkbjcaajchjaaSf
import Derived.Test.YtflkbjcaajchjaaSg
import Derived.Test.YtflkbjcaajchjaaSq
namespace Go.Proofs.Ytflkbjcaajchjaa
open Go.RowKit Tf
attribute [local go_sem] run_bits run_from raw_feq raw_fne raw_flt raw_fgt run_neg

set_option maxHeartbeats 8000000 in
set_option maxRecDepth 100000 in
theorem all_v1 (xs : Nat → Nat) (w : World) 
    (HL : Hid (∀ k wr, k ≤ 0 → Below w.heap.size w wr → Calls Try.prog 11 #[.slice none k 0] wr fun e w' => e = .returned (.float .f64 (leftB xs k)) ∧ Hid (Below w.heap.size w w')))
    (HRL : Hid (∀ k wr, k ≤ 0 → Below w.heap.size w wr → Calls Try.prog 12 #[.slice none k 0] wr fun e w' => e = .returned (.float .f64 (leftB xs k)) ∧ Hid (Below w.heap.size w w')))
    (HP : Hid (∀ k wr, k ≤ 0 → Below w.heap.size w wr → Calls Try.prog 13 #[.slice none k 0] wr fun e w' => e = .returned (.float .f64 (prB xs 0 k)) ∧ Hid (Below w.heap.size w w')))
    (HRP : Hid (∀ k wr, k ≤ 0 → Below w.heap.size w wr → Calls Try.prog 14 #[.slice none k 0] wr fun e w' => e = .returned (.float .f64 (prB xs 0 k)) ∧ Hid (Below w.heap.size w w')))
    (HC : Hid (∀ k wr, k ≤ 0 → Below w.heap.size w wr → Calls Try.prog 15 #[.slice none k 0] wr fun e w' => e = .returned (.float .f64 (careB xs k)) ∧ Hid (Below w.heap.size w w')))
    (HRC : Hid (∀ k wr, k ≤ 0 → Below w.heap.size w wr → Calls Try.prog 16 #[.slice none k 0] wr fun e w' => e = .returned (.float .f64 (careB xs k)) ∧ Hid (Below w.heap.size w w'))) :
    Calls Try.prog 3 #[.slice none 0 0] w fun e w' => e = .returned (.bool true) ∧ Below w.heap.size w w' := by
  have S := hid same5_self
  go_enter Try.func3, Try.ntmps3
  go_wp2_with fail
  refine (lives_any _).mono ?_
  rintro e w0 ⟨rfl, b0⟩
  go_wp2
  go_loopw [3] (fun nv wr => ∃ k : Nat, k ≤ 0 + 1 ∧ k ≤ 65 ∧ nv = .int .i64 (k : Nat) ∧ Hid (Below w.heap.size w wr)) (fun nv _ => 65 - (intOf nv).toNat)
  case atStart => exact ⟨0, by omega, by omega, rfl, b0⟩
  case round =>
    obtain ⟨k, k1, k2, rfl, hb⟩ := hrel
    by_cases hgo : k ≤ 0
    · obtain rfl : k = 0 := by omega
      have g1 : (0 : Int) ≤ (0 : Nat) := by omega
      have g2 : (0 : Int) ≤ 64 := by omega
      have KK : Hid (0 ≤ 0 ∧ 0 ≤ 64) := ⟨by omega, by omega⟩
      have HLk := hid (fun wr => HL.out 0 wr KK.out.1)
      have HRLk := hid (fun wr => HRL.out 0 wr KK.out.1)
      have HPk := hid (fun wr => HP.out 0 wr KK.out.1)
      have HRPk := hid (fun wr => HRP.out 0 wr KK.out.1)
      have HCk := hid (fun wr => HC.out 0 wr KK.out.1)
      have HRCk := hid (fun wr => HRC.out 0 wr KK.out.1)
      obtain ⟨l, hl⟩ : ∃ l, leftB xs 0 = l := ⟨_, rfl⟩
      obtain ⟨p, hp⟩ : ∃ l, prB xs 0 0 = l := ⟨_, rfl⟩
      obtain ⟨c, hc⟩ : ∃ l, careB xs 0 = l := ⟨_, rfl⟩
      rw [hl] at HLk HRLk
      rw [hp] at HPk HRPk
      rw [hc] at HCk HRCk
      clear hl hp hc hgo k1 k2 HL HRL HP HRP HC HRC
      go_wp2_with fail
      refine (HLk.out _ hb.out).mono ?_
      rintro e rw0 ⟨rfl, rb0⟩
      go_wp2_with fail
      refine (HRLk.out _ rb0.out).mono ?_
      rintro e rw1 ⟨rfl, rb1⟩
      go_wp2_with fail
      refine (S.out _ _).mono ?_
      rintro e w' ⟨rfl, rfl⟩
      go_wp2_with fail
      refine (HPk.out _ rb1.out).mono ?_
      rintro e rw2 ⟨rfl, rb2⟩
      go_wp2_with fail
      refine (HRPk.out _ rb2.out).mono ?_
      rintro e rw3 ⟨rfl, rb3⟩
      go_wp2_with fail
      refine (S.out _ _).mono ?_
      rintro e w' ⟨rfl, rfl⟩
      go_wp2_with fail
      refine (HCk.out _ rb3.out).mono ?_
      rintro e rw4 ⟨rfl, rb4⟩
      go_wp2_with fail
      refine (HRCk.out _ rb4.out).mono ?_
      rintro e rw5 ⟨rfl, rb5⟩
      go_wp2_with fail
      refine (S.out _ _).mono ?_
      rintro e w' ⟨rfl, rfl⟩
      go_wp2
      refine ⟨⟨0 + 1, ?_, ?_, by simp, rb5⟩, ?_⟩
      · have := KK.out; omega
      · have := KK.out; omega
      · have := KK.out; simp [intOf]; try omega
    · obtain rfl : k = 1 := by omega
      clear hgo k1 k2
      go_wp2
      go_loopw [5] (fun nv wr => ∃ i : Nat, i ≤ 0 ∧ nv = .int .i64 (i : Nat) ∧ Hid (Below w.heap.size w wr)) (fun nv _ => 0 - (intOf nv).toNat)
      case atStart => exact ⟨0, by omega, rfl, hb⟩
      case round =>
        obtain ⟨i, i1, rfl, hb2⟩ := hrel
        obtain rfl : i = 0 := by omega
        have HLk := hid (fun wr => HL.out 0 wr (Nat.le_refl _))
        have HRLk := hid (fun wr => HRL.out 0 wr (Nat.le_refl _))
        have HPk := hid (fun wr => HP.out 0 wr (Nat.le_refl _))
        have HRPk := hid (fun wr => HRP.out 0 wr (Nat.le_refl _))
        have HCk := hid (fun wr => HC.out 0 wr (Nat.le_refl _))
        have HRCk := hid (fun wr => HRC.out 0 wr (Nat.le_refl _))
        obtain ⟨l, hl⟩ : ∃ l, leftB xs 0 = l := ⟨_, rfl⟩
        obtain ⟨p, hp⟩ : ∃ l, prB xs 0 0 = l := ⟨_, rfl⟩
        obtain ⟨c, hc⟩ : ∃ l, careB xs 0 = l := ⟨_, rfl⟩
        rw [hl] at HLk HRLk
        rw [hp] at HPk HRPk
        rw [hc] at HCk HRCk
        clear hl hp hc i1 HL HRL HP HRP HC HRC
        go_wp2_with fail
        refine (HLk.out _ hb2.out).mono ?_
        rintro e sw0 ⟨rfl, sb0⟩
        go_wp2_with fail
        refine (HRLk.out _ sb0.out).mono ?_
        rintro e sw1 ⟨rfl, sb1⟩
        go_wp2_with fail
        refine (S.out _ _).mono ?_
        rintro e w' ⟨rfl, rfl⟩
        go_wp2_with fail
        refine (HPk.out _ sb1.out).mono ?_
        rintro e sw2 ⟨rfl, sb2⟩
        go_wp2_with fail
        refine (HRPk.out _ sb2.out).mono ?_
        rintro e sw3 ⟨rfl, sb3⟩
        go_wp2_with fail
        refine (S.out _ _).mono ?_
        rintro e w' ⟨rfl, rfl⟩
        go_wp2_with fail
        refine (HCk.out _ sb3.out).mono ?_
        rintro e sw4 ⟨rfl, sb4⟩
        go_wp2_with fail
        refine (HRCk.out _ sb4.out).mono ?_
        rintro e sw5 ⟨rfl, sb5⟩
        go_wp2_with fail
        refine (S.out _ _).mono ?_
        rintro e w' ⟨rfl, rfl⟩
        go_wp2
        go_ret
        exact ⟨rfl, sb5.out⟩
set_option maxHeartbeats 8000000 in
set_option maxRecDepth 100000 in
theorem all_v2 (xs : Nat → Nat) (a : Addr) (w : World) 
    (HL : Hid (∀ k wr, k ≤ 0 → Below w.heap.size w wr → Calls Try.prog 11 #[.slice (some a) k 0] wr fun e w' => e = .returned (.float .f64 (leftB xs k)) ∧ Hid (Below w.heap.size w w')))
    (HRL : Hid (∀ k wr, k ≤ 0 → Below w.heap.size w wr → Calls Try.prog 12 #[.slice (some a) k 0] wr fun e w' => e = .returned (.float .f64 (leftB xs k)) ∧ Hid (Below w.heap.size w w')))
    (HP : Hid (∀ k wr, k ≤ 0 → Below w.heap.size w wr → Calls Try.prog 13 #[.slice (some a) k 0] wr fun e w' => e = .returned (.float .f64 (prB xs 0 k)) ∧ Hid (Below w.heap.size w w')))
    (HRP : Hid (∀ k wr, k ≤ 0 → Below w.heap.size w wr → Calls Try.prog 14 #[.slice (some a) k 0] wr fun e w' => e = .returned (.float .f64 (prB xs 0 k)) ∧ Hid (Below w.heap.size w w')))
    (HC : Hid (∀ k wr, k ≤ 0 → Below w.heap.size w wr → Calls Try.prog 15 #[.slice (some a) k 0] wr fun e w' => e = .returned (.float .f64 (careB xs k)) ∧ Hid (Below w.heap.size w w')))
    (HRC : Hid (∀ k wr, k ≤ 0 → Below w.heap.size w wr → Calls Try.prog 16 #[.slice (some a) k 0] wr fun e w' => e = .returned (.float .f64 (careB xs k)) ∧ Hid (Below w.heap.size w w'))) :
    Calls Try.prog 3 #[.slice (some a) 0 0] w fun e w' => e = .returned (.bool true) ∧ Below w.heap.size w w' := by
  have S := hid same5_self
  go_enter Try.func3, Try.ntmps3
  go_wp2_with fail
  refine (lives_any _).mono ?_
  rintro e w0 ⟨rfl, b0⟩
  go_wp2
  go_loopw [3] (fun nv wr => ∃ k : Nat, k ≤ 0 + 1 ∧ k ≤ 65 ∧ nv = .int .i64 (k : Nat) ∧ Hid (Below w.heap.size w wr)) (fun nv _ => 65 - (intOf nv).toNat)
  case atStart => exact ⟨0, by omega, by omega, rfl, b0⟩
  case round =>
    obtain ⟨k, k1, k2, rfl, hb⟩ := hrel
    by_cases hgo : k ≤ 0
    · obtain rfl : k = 0 := by omega
      have g1 : (0 : Int) ≤ (0 : Nat) := by omega
      have g2 : (0 : Int) ≤ 64 := by omega
      have KK : Hid (0 ≤ 0 ∧ 0 ≤ 64) := ⟨by omega, by omega⟩
      have HLk := hid (fun wr => HL.out 0 wr KK.out.1)
      have HRLk := hid (fun wr => HRL.out 0 wr KK.out.1)
      have HPk := hid (fun wr => HP.out 0 wr KK.out.1)
      have HRPk := hid (fun wr => HRP.out 0 wr KK.out.1)
      have HCk := hid (fun wr => HC.out 0 wr KK.out.1)
      have HRCk := hid (fun wr => HRC.out 0 wr KK.out.1)
      obtain ⟨l, hl⟩ : ∃ l, leftB xs 0 = l := ⟨_, rfl⟩
      obtain ⟨p, hp⟩ : ∃ l, prB xs 0 0 = l := ⟨_, rfl⟩
      obtain ⟨c, hc⟩ : ∃ l, careB xs 0 = l := ⟨_, rfl⟩
      rw [hl] at HLk HRLk
      rw [hp] at HPk HRPk
      rw [hc] at HCk HRCk
      clear hl hp hc hgo k1 k2 HL HRL HP HRP HC HRC
      go_wp2_with fail
      refine (HLk.out _ hb.out).mono ?_
      rintro e rw0 ⟨rfl, rb0⟩
      go_wp2_with fail
      refine (HRLk.out _ rb0.out).mono ?_
      rintro e rw1 ⟨rfl, rb1⟩
      go_wp2_with fail
      refine (S.out _ _).mono ?_
      rintro e w' ⟨rfl, rfl⟩
      go_wp2_with fail
      refine (HPk.out _ rb1.out).mono ?_
      rintro e rw2 ⟨rfl, rb2⟩
      go_wp2_with fail
      refine (HRPk.out _ rb2.out).mono ?_
      rintro e rw3 ⟨rfl, rb3⟩
      go_wp2_with fail
      refine (S.out _ _).mono ?_
      rintro e w' ⟨rfl, rfl⟩
      go_wp2_with fail
      refine (HCk.out _ rb3.out).mono ?_
      rintro e rw4 ⟨rfl, rb4⟩
      go_wp2_with fail
      refine (HRCk.out _ rb4.out).mono ?_
      rintro e rw5 ⟨rfl, rb5⟩
      go_wp2_with fail
      refine (S.out _ _).mono ?_
      rintro e w' ⟨rfl, rfl⟩
      go_wp2
      refine ⟨⟨0 + 1, ?_, ?_, by simp, rb5⟩, ?_⟩
      · have := KK.out; omega
      · have := KK.out; omega
      · have := KK.out; simp [intOf]; try omega
    · obtain rfl : k = 1 := by omega
      clear hgo k1 k2
      go_wp2
      go_loopw [5] (fun nv wr => ∃ i : Nat, i ≤ 0 ∧ nv = .int .i64 (i : Nat) ∧ Hid (Below w.heap.size w wr)) (fun nv _ => 0 - (intOf nv).toNat)
      case atStart => exact ⟨0, by omega, rfl, hb⟩
      case round =>
        obtain ⟨i, i1, rfl, hb2⟩ := hrel
        obtain rfl : i = 0 := by omega
        have HLk := hid (fun wr => HL.out 0 wr (Nat.le_refl _))
        have HRLk := hid (fun wr => HRL.out 0 wr (Nat.le_refl _))
        have HPk := hid (fun wr => HP.out 0 wr (Nat.le_refl _))
        have HRPk := hid (fun wr => HRP.out 0 wr (Nat.le_refl _))
        have HCk := hid (fun wr => HC.out 0 wr (Nat.le_refl _))
        have HRCk := hid (fun wr => HRC.out 0 wr (Nat.le_refl _))
        obtain ⟨l, hl⟩ : ∃ l, leftB xs 0 = l := ⟨_, rfl⟩
        obtain ⟨p, hp⟩ : ∃ l, prB xs 0 0 = l := ⟨_, rfl⟩
        obtain ⟨c, hc⟩ : ∃ l, careB xs 0 = l := ⟨_, rfl⟩
        rw [hl] at HLk HRLk
        rw [hp] at HPk HRPk
        rw [hc] at HCk HRCk
        clear hl hp hc i1 HL HRL HP HRP HC HRC
        go_wp2_with fail
        refine (HLk.out _ hb2.out).mono ?_
        rintro e sw0 ⟨rfl, sb0⟩
        go_wp2_with fail
        refine (HRLk.out _ sb0.out).mono ?_
        rintro e sw1 ⟨rfl, sb1⟩
        go_wp2_with fail
        refine (S.out _ _).mono ?_
        rintro e w' ⟨rfl, rfl⟩
        go_wp2_with fail
        refine (HPk.out _ sb1.out).mono ?_
        rintro e sw2 ⟨rfl, sb2⟩
        go_wp2_with fail
        refine (HRPk.out _ sb2.out).mono ?_
        rintro e sw3 ⟨rfl, sb3⟩
        go_wp2_with fail
        refine (S.out _ _).mono ?_
        rintro e w' ⟨rfl, rfl⟩
        go_wp2_with fail
        refine (HCk.out _ sb3.out).mono ?_
        rintro e sw4 ⟨rfl, sb4⟩
        go_wp2_with fail
        refine (HRCk.out _ sb4.out).mono ?_
        rintro e sw5 ⟨rfl, sb5⟩
        go_wp2_with fail
        refine (S.out _ _).mono ?_
        rintro e w' ⟨rfl, rfl⟩
        go_wp2
        go_ret
        exact ⟨rfl, sb5.out⟩
set_option maxHeartbeats 8000000 in
set_option maxRecDepth 100000 in
theorem all_v5 (xs : Nat → Nat) (a : Addr) (cap : Nat) (w : World) (hc0 : ¬ cap = 0)
    (HL : Hid (∀ k wr, k ≤ 0 → Below w.heap.size w wr → Calls Try.prog 11 #[.slice (some a) k cap] wr fun e w' => e = .returned (.float .f64 (leftB xs k)) ∧ Hid (Below w.heap.size w w')))
    (HRL : Hid (∀ k wr, k ≤ 0 → Below w.heap.size w wr → Calls Try.prog 12 #[.slice (some a) k cap] wr fun e w' => e = .returned (.float .f64 (leftB xs k)) ∧ Hid (Below w.heap.size w w')))
    (HP : Hid (∀ k wr, k ≤ 0 → Below w.heap.size w wr → Calls Try.prog 13 #[.slice (some a) k cap] wr fun e w' => e = .returned (.float .f64 (prB xs 0 k)) ∧ Hid (Below w.heap.size w w')))
    (HRP : Hid (∀ k wr, k ≤ 0 → Below w.heap.size w wr → Calls Try.prog 14 #[.slice (some a) k cap] wr fun e w' => e = .returned (.float .f64 (prB xs 0 k)) ∧ Hid (Below w.heap.size w w')))
    (HC : Hid (∀ k wr, k ≤ 0 → Below w.heap.size w wr → Calls Try.prog 15 #[.slice (some a) k cap] wr fun e w' => e = .returned (.float .f64 (careB xs k)) ∧ Hid (Below w.heap.size w w')))
    (HRC : Hid (∀ k wr, k ≤ 0 → Below w.heap.size w wr → Calls Try.prog 16 #[.slice (some a) k cap] wr fun e w' => e = .returned (.float .f64 (careB xs k)) ∧ Hid (Below w.heap.size w w'))) :
    Calls Try.prog 3 #[.slice (some a) 0 cap] w fun e w' => e = .returned (.bool true) ∧ Below w.heap.size w w' := by
  have S := hid same5_self
  go_enter Try.func3, Try.ntmps3
  go_wp2_with fail
  refine (lives_any _).mono ?_
  rintro e w0 ⟨rfl, b0⟩
  go_wp2
  go_loopw [3] (fun nv wr => ∃ k : Nat, k ≤ 0 + 1 ∧ k ≤ 65 ∧ nv = .int .i64 (k : Nat) ∧ Hid (Below w.heap.size w wr)) (fun nv _ => 65 - (intOf nv).toNat)
  case atStart => exact ⟨0, by omega, by omega, rfl, b0⟩
  case round =>
    obtain ⟨k, k1, k2, rfl, hb⟩ := hrel
    by_cases hgo : k ≤ 0
    · obtain rfl : k = 0 := by omega
      have g1 : (0 : Int) ≤ (0 : Nat) := by omega
      have g2 : (0 : Int) ≤ 64 := by omega
      have KK : Hid (0 ≤ 0 ∧ 0 ≤ 64) := ⟨by omega, by omega⟩
      have HLk := hid (fun wr => HL.out 0 wr KK.out.1)
      have HRLk := hid (fun wr => HRL.out 0 wr KK.out.1)
      have HPk := hid (fun wr => HP.out 0 wr KK.out.1)
      have HRPk := hid (fun wr => HRP.out 0 wr KK.out.1)
      have HCk := hid (fun wr => HC.out 0 wr KK.out.1)
      have HRCk := hid (fun wr => HRC.out 0 wr KK.out.1)
      obtain ⟨l, hl⟩ : ∃ l, leftB xs 0 = l := ⟨_, rfl⟩
      obtain ⟨p, hp⟩ : ∃ l, prB xs 0 0 = l := ⟨_, rfl⟩
      obtain ⟨c, hc⟩ : ∃ l, careB xs 0 = l := ⟨_, rfl⟩
      rw [hl] at HLk HRLk
      rw [hp] at HPk HRPk
      rw [hc] at HCk HRCk
      clear hl hp hc hgo k1 k2 HL HRL HP HRP HC HRC
      go_wp2_with fail
      refine (HLk.out _ hb.out).mono ?_
      rintro e rw0 ⟨rfl, rb0⟩
      go_wp2_with fail
      refine (HRLk.out _ rb0.out).mono ?_
      rintro e rw1 ⟨rfl, rb1⟩
      go_wp2_with fail
      refine (S.out _ _).mono ?_
      rintro e w' ⟨rfl, rfl⟩
      go_wp2_with fail
      refine (HPk.out _ rb1.out).mono ?_
      rintro e rw2 ⟨rfl, rb2⟩
      go_wp2_with fail
      refine (HRPk.out _ rb2.out).mono ?_
      rintro e rw3 ⟨rfl, rb3⟩
      go_wp2_with fail
      refine (S.out _ _).mono ?_
      rintro e w' ⟨rfl, rfl⟩
      go_wp2_with fail
      refine (HCk.out _ rb3.out).mono ?_
      rintro e rw4 ⟨rfl, rb4⟩
      go_wp2_with fail
      refine (HRCk.out _ rb4.out).mono ?_
      rintro e rw5 ⟨rfl, rb5⟩
      go_wp2_with fail
      refine (S.out _ _).mono ?_
      rintro e w' ⟨rfl, rfl⟩
      go_wp2
      refine ⟨⟨0 + 1, ?_, ?_, by simp, rb5⟩, ?_⟩
      · have := KK.out; omega
      · have := KK.out; omega
      · have := KK.out; simp [intOf]; try omega
    · obtain rfl : k = 1 := by omega
      clear hgo k1 k2
      go_wp2
      go_loopw [5] (fun nv wr => ∃ i : Nat, i ≤ 0 ∧ nv = .int .i64 (i : Nat) ∧ Hid (Below w.heap.size w wr)) (fun nv _ => 0 - (intOf nv).toNat)
      case atStart => exact ⟨0, by omega, rfl, hb⟩
      case round =>
        obtain ⟨i, i1, rfl, hb2⟩ := hrel
        obtain rfl : i = 0 := by omega
        have HLk := hid (fun wr => HL.out 0 wr (Nat.le_refl _))
        have HRLk := hid (fun wr => HRL.out 0 wr (Nat.le_refl _))
        have HPk := hid (fun wr => HP.out 0 wr (Nat.le_refl _))
        have HRPk := hid (fun wr => HRP.out 0 wr (Nat.le_refl _))
        have HCk := hid (fun wr => HC.out 0 wr (Nat.le_refl _))
        have HRCk := hid (fun wr => HRC.out 0 wr (Nat.le_refl _))
        obtain ⟨l, hl⟩ : ∃ l, leftB xs 0 = l := ⟨_, rfl⟩
        obtain ⟨p, hp⟩ : ∃ l, prB xs 0 0 = l := ⟨_, rfl⟩
        obtain ⟨c, hc⟩ : ∃ l, careB xs 0 = l := ⟨_, rfl⟩
        rw [hl] at HLk HRLk
        rw [hp] at HPk HRPk
        rw [hc] at HCk HRCk
        clear hl hp hc i1 HL HRL HP HRP HC HRC
        go_wp2_with fail
        refine (HLk.out _ hb2.out).mono ?_
        rintro e sw0 ⟨rfl, sb0⟩
        go_wp2_with fail
        refine (HRLk.out _ sb0.out).mono ?_
        rintro e sw1 ⟨rfl, sb1⟩
        go_wp2_with fail
        refine (S.out _ _).mono ?_
        rintro e w' ⟨rfl, rfl⟩
        go_wp2_with fail
        refine (HPk.out _ sb1.out).mono ?_
        rintro e sw2 ⟨rfl, sb2⟩
        go_wp2_with fail
        refine (HRPk.out _ sb2.out).mono ?_
        rintro e sw3 ⟨rfl, sb3⟩
        go_wp2_with fail
        refine (S.out _ _).mono ?_
        rintro e w' ⟨rfl, rfl⟩
        go_wp2_with fail
        refine (HCk.out _ sb3.out).mono ?_
        rintro e sw4 ⟨rfl, sb4⟩
        go_wp2_with fail
        refine (HRCk.out _ sb4.out).mono ?_
        rintro e sw5 ⟨rfl, sb5⟩
        go_wp2_with fail
        refine (S.out _ _).mono ?_
        rintro e w' ⟨rfl, rfl⟩
        go_wp2
        go_ret
        exact ⟨rfl, sb5.out⟩
set_option maxHeartbeats 8000000 in
set_option maxRecDepth 100000 in
theorem all_v3 (xs : Nat → Nat) (a : Addr) (len cap : Nat) (w : World) (hcap : (len : Int) ≤ cap) (hmax : (cap : Int) ≤ 17592186044416) (hc0 : ¬ cap = 0) (hlen : (len : Int) ≤ 64)
    (HL : Hid (∀ k wr, k ≤ len → Below w.heap.size w wr → Calls Try.prog 11 #[.slice (some a) k cap] wr fun e w' => e = .returned (.float .f64 (leftB xs k)) ∧ Hid (Below w.heap.size w w')))
    (HRL : Hid (∀ k wr, k ≤ len → Below w.heap.size w wr → Calls Try.prog 12 #[.slice (some a) k cap] wr fun e w' => e = .returned (.float .f64 (leftB xs k)) ∧ Hid (Below w.heap.size w w')))
    (HP : Hid (∀ k wr, k ≤ len → Below w.heap.size w wr → Calls Try.prog 13 #[.slice (some a) k cap] wr fun e w' => e = .returned (.float .f64 (prB xs 0 k)) ∧ Hid (Below w.heap.size w w')))
    (HRP : Hid (∀ k wr, k ≤ len → Below w.heap.size w wr → Calls Try.prog 14 #[.slice (some a) k cap] wr fun e w' => e = .returned (.float .f64 (prB xs 0 k)) ∧ Hid (Below w.heap.size w w')))
    (HC : Hid (∀ k wr, k ≤ len → Below w.heap.size w wr → Calls Try.prog 15 #[.slice (some a) k cap] wr fun e w' => e = .returned (.float .f64 (careB xs k)) ∧ Hid (Below w.heap.size w w')))
    (HRC : Hid (∀ k wr, k ≤ len → Below w.heap.size w wr → Calls Try.prog 16 #[.slice (some a) k cap] wr fun e w' => e = .returned (.float .f64 (careB xs k)) ∧ Hid (Below w.heap.size w w')))
    (H3 : Hid (∀ i wr, i + 2 < len → Below w.heap.size w wr → Calls Try.prog 17 #[.float .f64 (xs i), .float .f64 (xs (i + 1)), .float .f64 (xs (i + 2))] wr fun e w' => e = .returned (.float .f64 (thB (xs i) (xs (i + 1)) (xs (i + 2)))) ∧ Hid (Below w.heap.size w w')))
    (HR3 : Hid (∀ i wr, i + 2 < len → Below w.heap.size w wr → Calls Try.prog 18 #[.float .f64 (xs i), .float .f64 (xs (i + 1)), .float .f64 (xs (i + 2))] wr fun e w' => e = .returned (.float .f64 (thB (xs i) (xs (i + 1)) (xs (i + 2)))) ∧ Hid (Below w.heap.size w w')))
    (HX : Hid (∀ i wr, i < len → Below w.heap.size w wr → ∃ b o, a = ⟨b, o, none⟩ ∧ wr.cell? ⟨b, o + i, none⟩ = some (.float .f64 (xs i)))) :
    Calls Try.prog 3 #[.slice (some a) len cap] w fun e w' => e = .returned (.bool true) ∧ Below w.heap.size w w' := by
  have S := hid same5_self
  go_enter Try.func3, Try.ntmps3
  go_wp2_with fail
  refine (lives_any _).mono ?_
  rintro e w0 ⟨rfl, b0⟩
  go_wp2
  go_loopw [3] (fun nv wr => ∃ k : Nat, k ≤ len + 1 ∧ k ≤ 65 ∧ nv = .int .i64 (k : Nat) ∧ Hid (Below w.heap.size w wr)) (fun nv _ => 65 - (intOf nv).toNat)
  case atStart => exact ⟨0, by omega, by omega, rfl, b0⟩
  case round =>
    obtain ⟨k, k1, k2, rfl, hb⟩ := hrel
    by_cases hgo : k ≤ len
    · have g1 : (k : Int) ≤ (len : Nat) := by omega
      have g2 : (k : Int) ≤ 64 := by omega
      have KK : Hid (k ≤ len ∧ k ≤ 64) := ⟨by omega, by omega⟩
      have kc : (k : Int) ≤ cap := by omega
      have HLk := hid (fun wr => HL.out k wr KK.out.1)
      have HRLk := hid (fun wr => HRL.out k wr KK.out.1)
      have HPk := hid (fun wr => HP.out k wr KK.out.1)
      have HRPk := hid (fun wr => HRP.out k wr KK.out.1)
      have HCk := hid (fun wr => HC.out k wr KK.out.1)
      have HRCk := hid (fun wr => HRC.out k wr KK.out.1)
      obtain ⟨l, hl⟩ : ∃ l, leftB xs k = l := ⟨_, rfl⟩
      obtain ⟨p, hp⟩ : ∃ l, prB xs 0 k = l := ⟨_, rfl⟩
      obtain ⟨c, hc⟩ : ∃ l, careB xs k = l := ⟨_, rfl⟩
      rw [hl] at HLk HRLk
      rw [hp] at HPk HRPk
      rw [hc] at HCk HRCk
      clear hl hp hc hgo k1 k2 HL HRL HP HRP HC HRC
      clear H3 HR3 HX
      go_wp2_with fail
      refine (HLk.out _ hb.out).mono ?_
      rintro e rw0 ⟨rfl, rb0⟩
      go_wp2_with fail
      refine (HRLk.out _ rb0.out).mono ?_
      rintro e rw1 ⟨rfl, rb1⟩
      go_wp2_with fail
      refine (S.out _ _).mono ?_
      rintro e w' ⟨rfl, rfl⟩
      go_wp2_with fail
      refine (HPk.out _ rb1.out).mono ?_
      rintro e rw2 ⟨rfl, rb2⟩
      go_wp2_with fail
      refine (HRPk.out _ rb2.out).mono ?_
      rintro e rw3 ⟨rfl, rb3⟩
      go_wp2_with fail
      refine (S.out _ _).mono ?_
      rintro e w' ⟨rfl, rfl⟩
      go_wp2_with fail
      refine (HCk.out _ rb3.out).mono ?_
      rintro e rw4 ⟨rfl, rb4⟩
      go_wp2_with fail
      refine (HRCk.out _ rb4.out).mono ?_
      rintro e rw5 ⟨rfl, rb5⟩
      go_wp2_with fail
      refine (S.out _ _).mono ?_
      rintro e w' ⟨rfl, rfl⟩
      go_wp2
      refine ⟨⟨k + 1, ?_, ?_, by simp, rb5⟩, ?_⟩
      · have := KK.out; omega
      · have := KK.out; omega
      · have := KK.out; simp [intOf]; try omega
    · have g1 : decide ((k : Int) ≤ (len : Nat)) = false := by simp; omega
      have g1' : decide (k ≤ (len : Nat)) = false := by simp; omega
      clear hgo k1 k2
      go_wp2
      go_loopw [5] (fun nv wr => ∃ i : Nat, i ≤ len ∧ nv = .int .i64 (i : Nat) ∧ Hid (Below w.heap.size w wr)) (fun nv _ => len - (intOf nv).toNat)
      case atStart => exact ⟨0, by omega, rfl, hb⟩
      case round =>
        obtain ⟨i, i1, rfl, hb2⟩ := hrel
        by_cases hgo2 : i + 2 < len
        · obtain ⟨U, F, hne, hF1, hF2⟩ := cls w w.heap.size
          obtain ⟨b, o, ha, _⟩ := HX.out i w (by omega) (Below.refl _ _)
          subst ha
          have c0 : ∀ u, (F u).cell? ⟨b, o + i, none⟩ = some (.float .f64 (xs i)) := by
            intro u; obtain ⟨b', o', e, h⟩ := HX.out i (F u) (by omega) (hF1 u); cases e; exact h
          have c1 : ∀ u, (F u).cell? ⟨b, o + (i + 1), none⟩ = some (.float .f64 (xs (i + 1))) := by
            intro u; obtain ⟨b', o', e, h⟩ := HX.out (i + 1) (F u) (by omega) (hF1 u); cases e; exact h
          have c2 : ∀ u, (F u).cell? ⟨b, o + (i + 2), none⟩ = some (.float .f64 (xs (i + 2))) := by
            intro u; obtain ⟨b', o', e, h⟩ := HX.out (i + 2) (F u) (by omega) (hF1 u); cases e; exact h
          have T := hid (fun u => H3.out i (F u) hgo2 (hF1 u))
          have RT := hid (fun u => HR3.out i (F u) hgo2 (hF1 u))
          have HF := hid hF2
          have HF1 := hid hF1
          have KK : Hid (i + 2 < len) := hgo2
          have g5 : (i : Int) + 2 < (len : Nat) := by omega
          have g6 : (i : Int) + 2 < (cap : Nat) := by omega
          obtain ⟨t, ht⟩ : ∃ t, thB (xs i) (xs (i + 1)) (xs (i + 2)) = t := ⟨_, rfl⟩
          rw [ht] at T RT
          obtain ⟨x0, h0⟩ : ∃ x, xs i = x := ⟨_, rfl⟩
          obtain ⟨x1, h1⟩ : ∃ x, xs (i + 1) = x := ⟨_, rfl⟩
          obtain ⟨x2, h2⟩ : ∃ x, xs (i + 2) = x := ⟨_, rfl⟩
          rw [h0] at T RT c0
          rw [h1] at T RT c1
          rw [h2] at T RT c2
          have D := HF.out _ hb2.out.drew
          clear ht h0 h1 h2 hgo2 i1 H3 HR3 HX HL HRL HP HRP HC HRC hF1 hF2 g1 g1'
          go_wp2_with fail
          refine region_cls F (by kernel_rfl) (by kernel_rfl) D ?_
          repeat (go_big_quiet_step (first
            | (go_at_call 17; exact calls_cls HF (T.out _))
            | (go_at_call 18; exact calls_cls HF (RT.out _))
            | (go_at_call 10; exact (S.out _ _).mono (fun _ _ ⟨he, hw⟩ => ⟨he, _, hw⟩))))
          refine wpQuiet_nil ?_
          intro wz hwz
          obtain ⟨u, rfl⟩ := hwz
          have HB := hid (HF1.out u)
          go_wp2
          refine ⟨⟨i + 1, by have := KK.out; omega, by simp, HB⟩, by have := KK.out; simp [intOf]; omega⟩
        · have g5 : decide ((i : Int) + 2 < (len : Nat)) = false := by simp; omega
          have g5' : decide (i + 2 < len) = false := by simp; omega
          have g7 : (i : Int) ≤ 17592186044416 := by omega
          clear hgo2
          have HLk := hid (fun wr => HL.out len wr (Nat.le_refl _))
          have HRLk := hid (fun wr => HRL.out len wr (Nat.le_refl _))
          have HPk := hid (fun wr => HP.out len wr (Nat.le_refl _))
          have HRPk := hid (fun wr => HRP.out len wr (Nat.le_refl _))
          have HCk := hid (fun wr => HC.out len wr (Nat.le_refl _))
          have HRCk := hid (fun wr => HRC.out len wr (Nat.le_refl _))
          obtain ⟨l, hl⟩ : ∃ l, leftB xs len = l := ⟨_, rfl⟩
          obtain ⟨p, hp⟩ : ∃ l, prB xs 0 len = l := ⟨_, rfl⟩
          obtain ⟨c, hc⟩ : ∃ l, careB xs len = l := ⟨_, rfl⟩
          rw [hl] at HLk HRLk
          rw [hp] at HPk HRPk
          rw [hc] at HCk HRCk
          clear hl hp hc i1 HL HRL HP HRP HC HRC
          clear H3 HR3 HX
          go_wp2_with fail
          refine (HLk.out _ hb2.out).mono ?_
          rintro e sw0 ⟨rfl, sb0⟩
          go_wp2_with fail
          refine (HRLk.out _ sb0.out).mono ?_
          rintro e sw1 ⟨rfl, sb1⟩
          go_wp2_with fail
          refine (S.out _ _).mono ?_
          rintro e w' ⟨rfl, rfl⟩
          go_wp2_with fail
          refine (HPk.out _ sb1.out).mono ?_
          rintro e sw2 ⟨rfl, sb2⟩
          go_wp2_with fail
          refine (HRPk.out _ sb2.out).mono ?_
          rintro e sw3 ⟨rfl, sb3⟩
          go_wp2_with fail
          refine (S.out _ _).mono ?_
          rintro e w' ⟨rfl, rfl⟩
          go_wp2_with fail
          refine (HCk.out _ sb3.out).mono ?_
          rintro e sw4 ⟨rfl, sb4⟩
          go_wp2_with fail
          refine (HRCk.out _ sb4.out).mono ?_
          rintro e sw5 ⟨rfl, sb5⟩
          go_wp2_with fail
          refine (S.out _ _).mono ?_
          rintro e w' ⟨rfl, rfl⟩
          go_wp2
          go_ret
          exact ⟨rfl, sb5.out⟩
set_option maxHeartbeats 8000000 in
set_option maxRecDepth 100000 in
theorem all_v4 (xs : Nat → Nat) (a : Addr) (len cap : Nat) (w : World) (hcap : (len : Int) ≤ cap) (hmax : (cap : Int) ≤ 17592186044416) (hc0 : ¬ cap = 0) (hlen : (64 : Int) < len)
    (HL : Hid (∀ k wr, k ≤ len → Below w.heap.size w wr → Calls Try.prog 11 #[.slice (some a) k cap] wr fun e w' => e = .returned (.float .f64 (leftB xs k)) ∧ Hid (Below w.heap.size w w')))
    (HRL : Hid (∀ k wr, k ≤ len → Below w.heap.size w wr → Calls Try.prog 12 #[.slice (some a) k cap] wr fun e w' => e = .returned (.float .f64 (leftB xs k)) ∧ Hid (Below w.heap.size w w')))
    (HP : Hid (∀ k wr, k ≤ len → Below w.heap.size w wr → Calls Try.prog 13 #[.slice (some a) k cap] wr fun e w' => e = .returned (.float .f64 (prB xs 0 k)) ∧ Hid (Below w.heap.size w w')))
    (HRP : Hid (∀ k wr, k ≤ len → Below w.heap.size w wr → Calls Try.prog 14 #[.slice (some a) k cap] wr fun e w' => e = .returned (.float .f64 (prB xs 0 k)) ∧ Hid (Below w.heap.size w w')))
    (HC : Hid (∀ k wr, k ≤ len → Below w.heap.size w wr → Calls Try.prog 15 #[.slice (some a) k cap] wr fun e w' => e = .returned (.float .f64 (careB xs k)) ∧ Hid (Below w.heap.size w w')))
    (HRC : Hid (∀ k wr, k ≤ len → Below w.heap.size w wr → Calls Try.prog 16 #[.slice (some a) k cap] wr fun e w' => e = .returned (.float .f64 (careB xs k)) ∧ Hid (Below w.heap.size w w')))
    (H3 : Hid (∀ i wr, i + 2 < len → Below w.heap.size w wr → Calls Try.prog 17 #[.float .f64 (xs i), .float .f64 (xs (i + 1)), .float .f64 (xs (i + 2))] wr fun e w' => e = .returned (.float .f64 (thB (xs i) (xs (i + 1)) (xs (i + 2)))) ∧ Hid (Below w.heap.size w w')))
    (HR3 : Hid (∀ i wr, i + 2 < len → Below w.heap.size w wr → Calls Try.prog 18 #[.float .f64 (xs i), .float .f64 (xs (i + 1)), .float .f64 (xs (i + 2))] wr fun e w' => e = .returned (.float .f64 (thB (xs i) (xs (i + 1)) (xs (i + 2)))) ∧ Hid (Below w.heap.size w w')))
    (HX : Hid (∀ i wr, i < len → Below w.heap.size w wr → ∃ b o, a = ⟨b, o, none⟩ ∧ wr.cell? ⟨b, o + i, none⟩ = some (.float .f64 (xs i)))) :
    Calls Try.prog 3 #[.slice (some a) len cap] w fun e w' => e = .returned (.bool true) ∧ Below w.heap.size w w' := by
  have S := hid same5_self
  go_enter Try.func3, Try.ntmps3
  go_wp2_with fail
  refine (lives_any _).mono ?_
  rintro e w0 ⟨rfl, b0⟩
  go_wp2
  go_loopw [3] (fun nv wr => ∃ k : Nat, k ≤ len + 1 ∧ k ≤ 65 ∧ nv = .int .i64 (k : Nat) ∧ Hid (Below w.heap.size w wr)) (fun nv _ => 65 - (intOf nv).toNat)
  case atStart => exact ⟨0, by omega, by omega, rfl, b0⟩
  case round =>
    obtain ⟨k, k1, k2, rfl, hb⟩ := hrel
    by_cases hgo : k ≤ 64
    · have g1 : (k : Int) ≤ (len : Nat) := by omega
      have g2 : (k : Int) ≤ 64 := by omega
      have KK : Hid (k ≤ len ∧ k ≤ 64) := ⟨by omega, by omega⟩
      have kc : (k : Int) ≤ cap := by omega
      have HLk := hid (fun wr => HL.out k wr KK.out.1)
      have HRLk := hid (fun wr => HRL.out k wr KK.out.1)
      have HPk := hid (fun wr => HP.out k wr KK.out.1)
      have HRPk := hid (fun wr => HRP.out k wr KK.out.1)
      have HCk := hid (fun wr => HC.out k wr KK.out.1)
      have HRCk := hid (fun wr => HRC.out k wr KK.out.1)
      obtain ⟨l, hl⟩ : ∃ l, leftB xs k = l := ⟨_, rfl⟩
      obtain ⟨p, hp⟩ : ∃ l, prB xs 0 k = l := ⟨_, rfl⟩
      obtain ⟨c, hc⟩ : ∃ l, careB xs k = l := ⟨_, rfl⟩
      rw [hl] at HLk HRLk
      rw [hp] at HPk HRPk
      rw [hc] at HCk HRCk
      clear hl hp hc hgo k1 k2 HL HRL HP HRP HC HRC
      clear H3 HR3 HX
      go_wp2_with fail
      refine (HLk.out _ hb.out).mono ?_
      rintro e rw0 ⟨rfl, rb0⟩
      go_wp2_with fail
      refine (HRLk.out _ rb0.out).mono ?_
      rintro e rw1 ⟨rfl, rb1⟩
      go_wp2_with fail
      refine (S.out _ _).mono ?_
      rintro e w' ⟨rfl, rfl⟩
      go_wp2_with fail
      refine (HPk.out _ rb1.out).mono ?_
      rintro e rw2 ⟨rfl, rb2⟩
      go_wp2_with fail
      refine (HRPk.out _ rb2.out).mono ?_
      rintro e rw3 ⟨rfl, rb3⟩
      go_wp2_with fail
      refine (S.out _ _).mono ?_
      rintro e w' ⟨rfl, rfl⟩
      go_wp2_with fail
      refine (HCk.out _ rb3.out).mono ?_
      rintro e rw4 ⟨rfl, rb4⟩
      go_wp2_with fail
      refine (HRCk.out _ rb4.out).mono ?_
      rintro e rw5 ⟨rfl, rb5⟩
      go_wp2_with fail
      refine (S.out _ _).mono ?_
      rintro e w' ⟨rfl, rfl⟩
      go_wp2
      refine ⟨⟨k + 1, ?_, ?_, by simp, rb5⟩, ?_⟩
      · have := KK.out; omega
      · have := KK.out; omega
      · have := KK.out; simp [intOf]; try omega
    · have g1 : decide ((k : Int) ≤ (len : Nat)) = true := by simp; omega
      have g2 : decide ((k : Int) ≤ 64) = false := by simp; omega
      have g3 : (k : Int) ≤ (len : Nat) := by omega
      have g4 : ¬ (k : Int) ≤ 64 := by omega
      clear hgo k1 k2
      go_wp2
      go_loopw [5] (fun nv wr => ∃ i : Nat, i ≤ len ∧ nv = .int .i64 (i : Nat) ∧ Hid (Below w.heap.size w wr)) (fun nv _ => len - (intOf nv).toNat)
      case atStart => exact ⟨0, by omega, rfl, hb⟩
      case round =>
        obtain ⟨i, i1, rfl, hb2⟩ := hrel
        by_cases hgo2 : i + 2 < len
        · obtain ⟨U, F, hne, hF1, hF2⟩ := cls w w.heap.size
          obtain ⟨b, o, ha, _⟩ := HX.out i w (by omega) (Below.refl _ _)
          subst ha
          have c0 : ∀ u, (F u).cell? ⟨b, o + i, none⟩ = some (.float .f64 (xs i)) := by
            intro u; obtain ⟨b', o', e, h⟩ := HX.out i (F u) (by omega) (hF1 u); cases e; exact h
          have c1 : ∀ u, (F u).cell? ⟨b, o + (i + 1), none⟩ = some (.float .f64 (xs (i + 1))) := by
            intro u; obtain ⟨b', o', e, h⟩ := HX.out (i + 1) (F u) (by omega) (hF1 u); cases e; exact h
          have c2 : ∀ u, (F u).cell? ⟨b, o + (i + 2), none⟩ = some (.float .f64 (xs (i + 2))) := by
            intro u; obtain ⟨b', o', e, h⟩ := HX.out (i + 2) (F u) (by omega) (hF1 u); cases e; exact h
          have T := hid (fun u => H3.out i (F u) hgo2 (hF1 u))
          have RT := hid (fun u => HR3.out i (F u) hgo2 (hF1 u))
          have HF := hid hF2
          have HF1 := hid hF1
          have KK : Hid (i + 2 < len) := hgo2
          have g5 : (i : Int) + 2 < (len : Nat) := by omega
          have g6 : (i : Int) + 2 < (cap : Nat) := by omega
          obtain ⟨t, ht⟩ : ∃ t, thB (xs i) (xs (i + 1)) (xs (i + 2)) = t := ⟨_, rfl⟩
          rw [ht] at T RT
          obtain ⟨x0, h0⟩ : ∃ x, xs i = x := ⟨_, rfl⟩
          obtain ⟨x1, h1⟩ : ∃ x, xs (i + 1) = x := ⟨_, rfl⟩
          obtain ⟨x2, h2⟩ : ∃ x, xs (i + 2) = x := ⟨_, rfl⟩
          rw [h0] at T RT c0
          rw [h1] at T RT c1
          rw [h2] at T RT c2
          have D := HF.out _ hb2.out.drew
          clear ht h0 h1 h2 hgo2 i1 H3 HR3 HX HL HRL HP HRP HC HRC hF1 hF2 g1 g2 g3 g4
          go_wp2_with fail
          refine region_cls F (by kernel_rfl) (by kernel_rfl) D ?_
          repeat (go_big_quiet_step (first
            | (go_at_call 17; exact calls_cls HF (T.out _))
            | (go_at_call 18; exact calls_cls HF (RT.out _))
            | (go_at_call 10; exact (S.out _ _).mono (fun _ _ ⟨he, hw⟩ => ⟨he, _, hw⟩))))
          refine wpQuiet_nil ?_
          intro wz hwz
          obtain ⟨u, rfl⟩ := hwz
          have HB := hid (HF1.out u)
          go_wp2
          refine ⟨⟨i + 1, by have := KK.out; omega, by simp, HB⟩, by have := KK.out; simp [intOf]; omega⟩
        · have g5 : decide ((i : Int) + 2 < (len : Nat)) = false := by simp; omega
          have g5' : decide (i + 2 < len) = false := by simp; omega
          have g7 : (i : Int) ≤ 17592186044416 := by omega
          clear hgo2
          have HLk := hid (fun wr => HL.out len wr (Nat.le_refl _))
          have HRLk := hid (fun wr => HRL.out len wr (Nat.le_refl _))
          have HPk := hid (fun wr => HP.out len wr (Nat.le_refl _))
          have HRPk := hid (fun wr => HRP.out len wr (Nat.le_refl _))
          have HCk := hid (fun wr => HC.out len wr (Nat.le_refl _))
          have HRCk := hid (fun wr => HRC.out len wr (Nat.le_refl _))
          obtain ⟨l, hl⟩ : ∃ l, leftB xs len = l := ⟨_, rfl⟩
          obtain ⟨p, hp⟩ : ∃ l, prB xs 0 len = l := ⟨_, rfl⟩
          obtain ⟨c, hc⟩ : ∃ l, careB xs len = l := ⟨_, rfl⟩
          rw [hl] at HLk HRLk
          rw [hp] at HPk HRPk
          rw [hc] at HCk HRCk
          clear hl hp hc i1 HL HRL HP HRP HC HRC
          clear H3 HR3 HX
          go_wp2_with fail
          refine (HLk.out _ hb2.out).mono ?_
          rintro e sw0 ⟨rfl, sb0⟩
          go_wp2_with fail
          refine (HRLk.out _ sb0.out).mono ?_
          rintro e sw1 ⟨rfl, sb1⟩
          go_wp2_with fail
          refine (S.out _ _).mono ?_
          rintro e w' ⟨rfl, rfl⟩
          go_wp2_with fail
          refine (HPk.out _ sb1.out).mono ?_
          rintro e sw2 ⟨rfl, sb2⟩
          go_wp2_with fail
          refine (HRPk.out _ sb2.out).mono ?_
          rintro e sw3 ⟨rfl, sb3⟩
          go_wp2_with fail
          refine (S.out _ _).mono ?_
          rintro e w' ⟨rfl, rfl⟩
          go_wp2_with fail
          refine (HCk.out _ sb3.out).mono ?_
          rintro e sw4 ⟨rfl, sb4⟩
          go_wp2_with fail
          refine (HRCk.out _ sb4.out).mono ?_
          rintro e sw5 ⟨rfl, sb5⟩
          go_wp2_with fail
          refine (S.out _ _).mono ?_
          rintro e w' ⟨rfl, rfl⟩
          go_wp2
          go_ret
          exact ⟨rfl, sb5.out⟩
/-- EVERY SUM OF EVERY LIST -/
theorem all_walk (a0 : Option Addr) (len cap : Nat) (xs : Nat → Nat) (w : World) (hcap : len ≤ cap) (hmax : (cap : Int) ≤ 17592186044416) (hnil : a0 = none → cap = 0) (h : IsFl w a0 len xs) :
    Calls Try.prog 3 #[.slice a0 len cap] w fun e w' => e = .returned (.bool true) ∧ Below w.heap.size w w' := by
  have dn : ∀ (wr w' : World), Below w.heap.size w wr → (∃ k, w' = wr.drewN k) → Hid (Below w.heap.size w w') := by
    rintro wr w' hb ⟨k, rfl⟩; exact below_drewN hb k
  have hf : ∀ k wr, k ≤ len → Below w.heap.size w wr → IsFl wr a0 k xs := fun k wr hk hb j hj => (h.below hb) j (by omega)
  have HL : ∀ k wr, k ≤ len → Below w.heap.size w wr → Calls Try.prog 11 #[.slice a0 k cap] wr fun e w' => e = .returned (.float .f64 (leftB xs k)) ∧ Hid (Below w.heap.size w w') :=
    fun k wr hk hb => (left_at a0 k cap xs wr (by omega) (by omega) (hf k wr hk hb)).mono fun e w' ⟨he, hw⟩ => ⟨he, dn wr w' hb hw⟩
  have HRL : ∀ k wr, k ≤ len → Below w.heap.size w wr → Calls Try.prog 12 #[.slice a0 k cap] wr fun e w' => e = .returned (.float .f64 (leftB xs k)) ∧ Hid (Below w.heap.size w w') :=
    fun k wr hk hb => (rleft_at a0 k cap xs wr (by omega) (by omega) (hf k wr hk hb)).mono fun e w' ⟨he, hw⟩ => ⟨he, dn wr w' hb hw⟩
  have HP : ∀ k wr, k ≤ len → Below w.heap.size w wr → Calls Try.prog 13 #[.slice a0 k cap] wr fun e w' => e = .returned (.float .f64 (prB xs 0 k)) ∧ Hid (Below w.heap.size w w') :=
    fun k wr hk hb => (pairs_at k a0 cap xs wr (by omega) (by omega) (by omega) (hf k wr hk hb)).mono fun e w' ⟨he, hw⟩ => ⟨he, hb.trans (hw.out.mono hb.size)⟩
  have HRP : ∀ k wr, k ≤ len → Below w.heap.size w wr → Calls Try.prog 14 #[.slice a0 k cap] wr fun e w' => e = .returned (.float .f64 (prB xs 0 k)) ∧ Hid (Below w.heap.size w w') :=
    fun k wr hk hb => (rpairs_at a0 k cap xs wr (by omega) (by omega) (by omega) (hf k wr hk hb)).mono fun e w' ⟨he, hw⟩ => ⟨he, dn wr w' hb hw⟩
  have HC : ∀ k wr, k ≤ len → Below w.heap.size w wr → Calls Try.prog 15 #[.slice a0 k cap] wr fun e w' => e = .returned (.float .f64 (careB xs k)) ∧ Hid (Below w.heap.size w w') :=
    fun k wr hk hb => (careful_at a0 k cap xs wr (by omega) (by omega) (hf k wr hk hb)).mono fun e w' ⟨he, hw⟩ => ⟨he, dn wr w' hb hw⟩
  have HRC : ∀ k wr, k ≤ len → Below w.heap.size w wr → Calls Try.prog 16 #[.slice a0 k cap] wr fun e w' => e = .returned (.float .f64 (careB xs k)) ∧ Hid (Below w.heap.size w w') :=
    fun k wr hk hb => (rcareful_at a0 k cap xs wr (by omega) (by omega) (hf k wr hk hb)).mono fun e w' ⟨he, hw⟩ => ⟨he, dn wr w' hb hw⟩
  by_cases h0 : len = 0
  · subst h0
    cases a0 with
    | none =>
      obtain rfl := hnil rfl
      exact all_v1 xs w HL HRL HP HRP HC HRC
    | some a =>
      by_cases hc : cap = 0
      · subst hc; exact all_v2 xs a w HL HRL HP HRP HC HRC
      · exact all_v5 xs a cap w hc HL HRL HP HRP HC HRC
  · obtain ⟨_, b, o, rfl, hb0, _⟩ := h 0 (by omega)
    have hx : ∀ i, i < len → xs i < 18446744073709551616 := fun i hi => (h i hi).1
    have H3 : ∀ i wr, i + 2 < len → Below w.heap.size w wr → Calls Try.prog 17 #[.float .f64 (xs i), .float .f64 (xs (i + 1)), .float .f64 (xs (i + 2))] wr fun e w' => e = .returned (.float .f64 (thB (xs i) (xs (i + 1)) (xs (i + 2)))) ∧ Hid (Below w.heap.size w w') :=
      fun i wr hi hb => (three_at _ _ _ wr (hx _ (by omega)) (hx _ (by omega)) (hx _ (by omega))).mono fun e w' ⟨he, hw⟩ => ⟨he, hb.trans (hw.out.mono hb.size)⟩
    have HR3 : ∀ i wr, i + 2 < len → Below w.heap.size w wr → Calls Try.prog 18 #[.float .f64 (xs i), .float .f64 (xs (i + 1)), .float .f64 (xs (i + 2))] wr fun e w' => e = .returned (.float .f64 (thB (xs i) (xs (i + 1)) (xs (i + 2)))) ∧ Hid (Below w.heap.size w w') :=
      fun i wr hi hb => (rthree_at _ _ _ wr (hx _ (by omega)) (hx _ (by omega)) (hx _ (by omega))).mono fun e w' ⟨he, hw⟩ => ⟨he, dn wr w' hb hw⟩
    have HX : ∀ i wr, i < len → Below w.heap.size w wr → ∃ b' o', (⟨b, o, none⟩ : Addr) = ⟨b', o', none⟩ ∧ wr.cell? ⟨b', o' + i, none⟩ = some (.float .f64 (xs i)) := by
      intro i wr hi hb
      obtain ⟨_, b', o', e, _, hc⟩ := (h.below hb) i hi
      cases e
      exact ⟨b, o, rfl, hc⟩
    by_cases hlen : len ≤ 64
    · exact all_v3 xs ⟨b, o, none⟩ len cap w (by omega) hmax (by omega) (by omega) HL HRL HP HRP HC HRC H3 HR3 HX
    · exact all_v4 xs ⟨b, o, none⟩ len cap w (by omega) hmax (by omega) (by omega) HL HRL HP HRP HC HRC H3 HR3 HX
end Go.Proofs.Ytflkbjcaajchjaa
