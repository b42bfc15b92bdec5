/-
  The reference's Sum of layer 3, at all floats.
-/
import Derived.Test.YtflkbjcaajchjaaTl
namespace Go.Proofs.Ytflkbjcaajchjaa
open Go.RowKit Tf

theorem foi (n : Int) : floatOfInt .f64 n = rn false (n * one) := ofInt_d n
theorem sumE_rd (g h : Nat) (hg : g < 18446744073709551616) (hh : h < 18446744073709551616) (hf : mg (addB g h) < 9218868437227405312) : sumE g h = rn false (sv g + sv h - rd (sv g + sv h)) := by
  unfold sumE
  rw [if_pos hf, (sum_fin_facts g h hg hh hf).1]

theorem rsum_fin_u (g h s r l : Nat) (w : World) (hg : g < 18446744073709551616) (hh : h < 18446744073709551616) (fg : mg g < 9218868437227405312) (fh : mg h < 9218868437227405312) (fs : mg s < 9218868437227405312)
    (hadd : Ieee.double.add g h = some s) (hs : sv s = rd (sv g + sv h)) (ho : mg h ≤ mg g) (hf : mg (addB g h) < 9218868437227405312) (hr : canonB s = r) (hl : sumE g h = l) :
    Calls Try.prog 29 #[.float .f64 g, .float .f64 h] w fun e w' => e = .returned (.tuple #[.float .f64 r, .float .f64 l]) ∧ w' = w := by
  have hE := sumE_rd g h hg hh hf
  rw [hl] at hE
  obtain ⟨_, _, hn, _⟩ := sum_fin_facts g h hg hh hf
  have kg := pk_top _ fg
  have kh := pk_top _ fh
  have ks := pk_top _ fs
  have kle := pk_le (mg h) (mg g) (by omega)
  have MS : Hid (∀ w, Calls Try.prog 39 #[.float .f64 s] w fun e w' => e = .returned (.int .u64 ((mg s : Nat) : Int)) ∧ w' = w) := fun w => refMag_to s _ w rfl
  have MG : Hid (∀ w, Calls Try.prog 39 #[.float .f64 g] w fun e w' => e = .returned (.int .u64 ((mg g : Nat) : Int)) ∧ w' = w) := fun w => refMag_to g _ w rfl
  have MH : Hid (∀ w, Calls Try.prog 39 #[.float .f64 h] w fun e w' => e = .returned (.int .u64 ((mg h : Nat) : Int)) ∧ w' = w) := fun w => refMag_to h _ w rfl
  have PG : Hid (∀ w, Calls Try.prog 41 #[.float .f64 g] w fun e w' => e = .returned (.tuple #[.int .u64 ((pm (mg g) : Nat) : Int), .int .i64 ((pk (mg g) : Int) - 1074)]) ∧ w' = w) := fun w => rparts_at g _ _ w fg rfl rfl
  have PH : Hid (∀ w, Calls Try.prog 41 #[.float .f64 h] w fun e w' => e = .returned (.tuple #[.int .u64 ((pm (mg h) : Nat) : Int), .int .i64 ((pk (mg h) : Int) - 1074)]) ∧ w' = w) := fun w => rparts_at h _ _ w fh rfl rfl
  have PS : Hid (∀ w, Calls Try.prog 41 #[.float .f64 s] w fun e w' => e = .returned (.tuple #[.int .u64 ((pm (mg s) : Nat) : Int), .int .i64 ((pk (mg s) : Int) - 1074)]) ∧ w' = w) := fun w => rparts_at s _ _ w fs rfl rfl
  have C : Hid (∀ w, Calls Try.prog 40 #[.float .f64 s] w fun e w' => e = .returned (.float .f64 r) ∧ w' = w) := fun w => refCanon_to s r w hr
  by_cases z : pm (mg h) = 0
  · have e0 : sv h = 0 := by
      have := sv_abs h
      rw [pm_pk, z, Nat.zero_mul] at this
      omega
    have : l = 0 := by
      rw [hE, e0, Int.add_zero, rd_exact (isD_sv g), Int.sub_self, rn_zero]; rfl
    subst this
    exact rsum_zero_u g h s r _ _ _ _ _ _ _ _ _ w hadd MS (by omega) MG MH (by omega) PG PH PS C (by rw [z]; rfl)
  · have hz : (((pm (mg h) : Nat) : Int) == 0) = false := by simp; omega
    by_cases far : 56 + pk (mg h) < pk (mg g)
    · have h0 : mg h ≠ 0 := by
        intro c
        apply z
        rw [c]; decide
      have e : l = h := by
        rw [hE, far_sum g h far]
        have : sv g + sv h - sv g = sv h := by omega
        rw [this]
        exact rn_sv false h hh (by omega) (by omega)
      rw [e]
      exact rsum_far_u g h s r _ _ _ _ _ _ _ _ _ w hadd MS (by omega) MG MH (by omega) PG PH PS C hz (by omega) (by omega) (by omega)
    · have BG : Hid (∀ w, Calls Try.prog 43 #[.float .f64 g] w fun e w' => e = .returned (.bool (ng g)) ∧ w' = w) := fun w => refBelow_any g w
      have BH : Hid (∀ w, Calls Try.prog 43 #[.float .f64 h] w fun e w' => e = .returned (.bool (ng h)) ∧ w' = w) := fun w => refBelow_any h w
      have BS : Hid (∀ w, Calls Try.prog 43 #[.float .f64 s] w fun e w' => e = .returned (.bool (ng s)) ∧ w' = w) := fun w => refBelow_any s w
      by_cases lc : pk (mg s) < pk (mg h)
      rotate_left
      · obtain ⟨X, x1, x2, x3⟩ := near_sum g h s hs (by omega) (pk (mg h)) (.inl ⟨rfl, by omega⟩) hn
        have n1 : ((pk (mg g) : Int) - 1074 - ((pk (mg h) : Int) - 1074)) = ((pk (mg g) - pk (mg h) : Nat) : Int) := by omega
        have T1 : sh (pm (mg g)) ((pk (mg g) : Int) - 1074 - ((pk (mg h) : Nat) - 1074)) (ng g) = (sm g * ((2 ^ (pk (mg g) - pk (mg h)) : Nat) : Int)) % 18446744073709551616 := by rw [n1]; exact sh_sm g _
        have T2 : sh (pm (mg h)) 0 (ng h) = (sm h * ((2 ^ (pk (mg h) - pk (mg h)) : Nat) : Int)) % 18446744073709551616 := by rw [Nat.sub_self]; exact sh_sm h 0
        have n3 : ((pk (mg s) : Int) - 1074 - ((pk (mg h) : Int) - 1074)) = ((pk (mg s) - pk (mg h) : Nat) : Int) := by omega
        have T3 : sh (pm (mg s)) ((pk (mg s) : Int) - 1074 - ((pk (mg h) : Int) - 1074)) (ng s) = (sm s * ((2 ^ (pk (mg s) - pk (mg h)) : Nat) : Int)) % 18446744073709551616 := by rw [n3]; exact sh_sm s _
        have S2 := hid (fun w => shifted_at (pm (mg h)) 0 (ng h) _ w (by omega) T2)
        have S3 := hid (fun w => shifted_at (pm (mg s)) ((pk (mg s) : Int) - 1074 - ((pk (mg h) : Int) - 1074)) (ng s) _ w (by omega) T3)
        have S1 := hid (fun w => shifted_at (pm (mg g)) ((pk (mg g) : Int) - 1074 - ((pk (mg h) : Int) - 1074)) (ng g) _ w (by omega) T1)
        have hX := wrap_x _ _ _ _ _ _ X rfl rfl rfl x3.symm x2
        have PW := hid (fun w => power_at ((pk (mg h) : Int) - 1074) _ w (by omega) (by omega) rfl)
        rw [x1] at hE
        obtain ⟨y1, y2, y3, _, _⟩ := scale_way X (pk (mg h)) x2 (by omega)
        by_cases c : X < 0
        · have x2' : (-X).natAbs ≤ 9007199254740992 := by omega
          obtain ⟨y1, y2, y3, _, _⟩ := scale_way (-X) (pk (mg h)) x2' (by omega)
          obtain ⟨p, p1, p2, p3⟩ := scale_mul (X * one) X _ (negB (rn false (-X * one))) (pk (mg h)) (negB_lt y1) (by rw [mg_negB]; exact y2) (by rw [sv_negB _ y1, y3, Int.neg_mul, Int.neg_neg]) rfl x2 (by omega) rfl
          have CP := hid (fun w => refCanon_to p l w (by rw [p3, hE]))
          exact rsum_uhn g h s r _ _ _ _ _ _ _ _ _ w hadd MS (by omega) MG MH (by omega) PG PH PS C hz (by omega) (by omega) (by omega) (by omega) (by omega) (by omega) (by omega) _ _ _ BG BH BS _ _ _ X S1 S2 S3 hX c (by omega) _ _ _ p l (foi _) (negFloat_eq _ y1) PW p1 CP
        · obtain ⟨p, p1, p2, p3⟩ := scale_mul (X * one) X _ (rn false (X * one)) (pk (mg h)) y1 y2 y3 rfl x2 (by omega) rfl
          have CP := hid (fun w => refCanon_to p l w (by rw [p3, hE]))
          exact rsum_uhp g h s r _ _ _ _ _ _ _ _ _ w hadd MS (by omega) MG MH (by omega) PG PH PS C hz (by omega) (by omega) (by omega) (by omega) (by omega) (by omega) (by omega) _ _ _ BG BH BS _ _ _ X S1 S2 S3 hX (by omega) (by omega) _ _ p l (foi _) PW p1 CP
      · obtain ⟨X, x1, x2, x3⟩ := near_sum g h s hs (by omega) (pk (mg s)) (.inr ⟨rfl, lc⟩) hn
        have n1 : ((pk (mg g) : Int) - 1074 - ((pk (mg s) : Int) - 1074)) = ((pk (mg g) - pk (mg s) : Nat) : Int) := by omega
        have T1 : sh (pm (mg g)) ((pk (mg g) : Int) - 1074 - ((pk (mg s) : Nat) - 1074)) (ng g) = (sm g * ((2 ^ (pk (mg g) - pk (mg s)) : Nat) : Int)) % 18446744073709551616 := by rw [n1]; exact sh_sm g _
        have n2 : ((pk (mg h) : Int) - 1074 - ((pk (mg s) : Int) - 1074)) = ((pk (mg h) - pk (mg s) : Nat) : Int) := by omega
        have T2 : sh (pm (mg h)) ((pk (mg h) : Int) - 1074 - ((pk (mg s) : Int) - 1074)) (ng h) = (sm h * ((2 ^ (pk (mg h) - pk (mg s)) : Nat) : Int)) % 18446744073709551616 := by rw [n2]; exact sh_sm h _
        have T3 : sh (pm (mg s)) 0 (ng s) = (sm s * ((2 ^ (pk (mg s) - pk (mg s)) : Nat) : Int)) % 18446744073709551616 := by rw [Nat.sub_self]; exact sh_sm s 0
        have S2 := hid (fun w => shifted_at (pm (mg h)) ((pk (mg h) : Int) - 1074 - ((pk (mg s) : Int) - 1074)) (ng h) _ w (by omega) T2)
        have S3 := hid (fun w => shifted_at (pm (mg s)) 0 (ng s) _ w (by omega) T3)
        have S1 := hid (fun w => shifted_at (pm (mg g)) ((pk (mg g) : Int) - 1074 - ((pk (mg s) : Int) - 1074)) (ng g) _ w (by omega) T1)
        have hX := wrap_x _ _ _ _ _ _ X rfl rfl rfl x3.symm x2
        have PW := hid (fun w => power_at ((pk (mg s) : Int) - 1074) _ w (by omega) (by omega) rfl)
        rw [x1] at hE
        obtain ⟨y1, y2, y3, _, _⟩ := scale_way X (pk (mg s)) x2 (by omega)
        by_cases c : X < 0
        · have x2' : (-X).natAbs ≤ 9007199254740992 := by omega
          obtain ⟨y1, y2, y3, _, _⟩ := scale_way (-X) (pk (mg s)) x2' (by omega)
          obtain ⟨p, p1, p2, p3⟩ := scale_mul (X * one) X _ (negB (rn false (-X * one))) (pk (mg s)) (negB_lt y1) (by rw [mg_negB]; exact y2) (by rw [sv_negB _ y1, y3, Int.neg_mul, Int.neg_neg]) rfl x2 (by omega) rfl
          have CP := hid (fun w => refCanon_to p l w (by rw [p3, hE]))
          exact rsum_usn g h s r _ _ _ _ _ _ _ _ _ w hadd MS (by omega) MG MH (by omega) PG PH PS C hz (by omega) (by omega) (by omega) (by omega) (by omega) (by omega) (by omega) _ _ _ BG BH BS _ _ _ X S1 S2 S3 hX c (by omega) _ _ _ p l (foi _) (negFloat_eq _ y1) PW p1 CP
        · obtain ⟨p, p1, p2, p3⟩ := scale_mul (X * one) X _ (rn false (X * one)) (pk (mg s)) y1 y2 y3 rfl x2 (by omega) rfl
          have CP := hid (fun w => refCanon_to p l w (by rw [p3, hE]))
          exact rsum_usp g h s r _ _ _ _ _ _ _ _ _ w hadd MS (by omega) MG MH (by omega) PG PH PS C hz (by omega) (by omega) (by omega) (by omega) (by omega) (by omega) (by omega) _ _ _ BG BH BS _ _ _ X S1 S2 S3 hX (by omega) (by omega) _ _ p l (foi _) PW p1 CP

theorem rsum_fin_s (g h s r l : Nat) (w : World) (hg : g < 18446744073709551616) (hh : h < 18446744073709551616) (fg : mg g < 9218868437227405312) (fh : mg h < 9218868437227405312) (fs : mg s < 9218868437227405312)
    (hadd : Ieee.double.add h g = some s) (hs : sv s = rd (sv g + sv h)) (ho : mg h < mg g) (hf : mg (addB g h) < 9218868437227405312) (hr : canonB s = r) (hl : sumE g h = l) :
    Calls Try.prog 29 #[.float .f64 h, .float .f64 g] w fun e w' => e = .returned (.tuple #[.float .f64 r, .float .f64 l]) ∧ w' = w := by
  have hE := sumE_rd g h hg hh hf
  rw [hl] at hE
  obtain ⟨_, _, hn, _⟩ := sum_fin_facts g h hg hh hf
  have kg := pk_top _ fg
  have kh := pk_top _ fh
  have ks := pk_top _ fs
  have kle := pk_le (mg h) (mg g) (by omega)
  have MS : Hid (∀ w, Calls Try.prog 39 #[.float .f64 s] w fun e w' => e = .returned (.int .u64 ((mg s : Nat) : Int)) ∧ w' = w) := fun w => refMag_to s _ w rfl
  have MG : Hid (∀ w, Calls Try.prog 39 #[.float .f64 g] w fun e w' => e = .returned (.int .u64 ((mg g : Nat) : Int)) ∧ w' = w) := fun w => refMag_to g _ w rfl
  have MH : Hid (∀ w, Calls Try.prog 39 #[.float .f64 h] w fun e w' => e = .returned (.int .u64 ((mg h : Nat) : Int)) ∧ w' = w) := fun w => refMag_to h _ w rfl
  have PG : Hid (∀ w, Calls Try.prog 41 #[.float .f64 g] w fun e w' => e = .returned (.tuple #[.int .u64 ((pm (mg g) : Nat) : Int), .int .i64 ((pk (mg g) : Int) - 1074)]) ∧ w' = w) := fun w => rparts_at g _ _ w fg rfl rfl
  have PH : Hid (∀ w, Calls Try.prog 41 #[.float .f64 h] w fun e w' => e = .returned (.tuple #[.int .u64 ((pm (mg h) : Nat) : Int), .int .i64 ((pk (mg h) : Int) - 1074)]) ∧ w' = w) := fun w => rparts_at h _ _ w fh rfl rfl
  have PS : Hid (∀ w, Calls Try.prog 41 #[.float .f64 s] w fun e w' => e = .returned (.tuple #[.int .u64 ((pm (mg s) : Nat) : Int), .int .i64 ((pk (mg s) : Int) - 1074)]) ∧ w' = w) := fun w => rparts_at s _ _ w fs rfl rfl
  have C : Hid (∀ w, Calls Try.prog 40 #[.float .f64 s] w fun e w' => e = .returned (.float .f64 r) ∧ w' = w) := fun w => refCanon_to s r w hr
  by_cases z : pm (mg h) = 0
  · have e0 : sv h = 0 := by
      have := sv_abs h
      rw [pm_pk, z, Nat.zero_mul] at this
      omega
    have : l = 0 := by
      rw [hE, e0, Int.add_zero, rd_exact (isD_sv g), Int.sub_self, rn_zero]; rfl
    subst this
    exact rsum_zero_s g h s r _ _ _ _ _ _ _ _ _ w hadd MS (by omega) MG MH (by omega) PG PH PS C (by rw [z]; rfl)
  · have hz : (((pm (mg h) : Nat) : Int) == 0) = false := by simp; omega
    by_cases far : 56 + pk (mg h) < pk (mg g)
    · have h0 : mg h ≠ 0 := by
        intro c
        apply z
        rw [c]; decide
      have e : l = h := by
        rw [hE, far_sum g h far]
        have : sv g + sv h - sv g = sv h := by omega
        rw [this]
        exact rn_sv false h hh (by omega) (by omega)
      rw [e]
      exact rsum_far_s g h s r _ _ _ _ _ _ _ _ _ w hadd MS (by omega) MG MH (by omega) PG PH PS C hz (by omega) (by omega) (by omega)
    · have BG : Hid (∀ w, Calls Try.prog 43 #[.float .f64 g] w fun e w' => e = .returned (.bool (ng g)) ∧ w' = w) := fun w => refBelow_any g w
      have BH : Hid (∀ w, Calls Try.prog 43 #[.float .f64 h] w fun e w' => e = .returned (.bool (ng h)) ∧ w' = w) := fun w => refBelow_any h w
      have BS : Hid (∀ w, Calls Try.prog 43 #[.float .f64 s] w fun e w' => e = .returned (.bool (ng s)) ∧ w' = w) := fun w => refBelow_any s w
      by_cases lc : pk (mg s) < pk (mg h)
      rotate_left
      · obtain ⟨X, x1, x2, x3⟩ := near_sum g h s hs (by omega) (pk (mg h)) (.inl ⟨rfl, by omega⟩) hn
        have n1 : ((pk (mg g) : Int) - 1074 - ((pk (mg h) : Int) - 1074)) = ((pk (mg g) - pk (mg h) : Nat) : Int) := by omega
        have T1 : sh (pm (mg g)) ((pk (mg g) : Int) - 1074 - ((pk (mg h) : Nat) - 1074)) (ng g) = (sm g * ((2 ^ (pk (mg g) - pk (mg h)) : Nat) : Int)) % 18446744073709551616 := by rw [n1]; exact sh_sm g _
        have T2 : sh (pm (mg h)) 0 (ng h) = (sm h * ((2 ^ (pk (mg h) - pk (mg h)) : Nat) : Int)) % 18446744073709551616 := by rw [Nat.sub_self]; exact sh_sm h 0
        have n3 : ((pk (mg s) : Int) - 1074 - ((pk (mg h) : Int) - 1074)) = ((pk (mg s) - pk (mg h) : Nat) : Int) := by omega
        have T3 : sh (pm (mg s)) ((pk (mg s) : Int) - 1074 - ((pk (mg h) : Int) - 1074)) (ng s) = (sm s * ((2 ^ (pk (mg s) - pk (mg h)) : Nat) : Int)) % 18446744073709551616 := by rw [n3]; exact sh_sm s _
        have S2 := hid (fun w => shifted_at (pm (mg h)) 0 (ng h) _ w (by omega) T2)
        have S3 := hid (fun w => shifted_at (pm (mg s)) ((pk (mg s) : Int) - 1074 - ((pk (mg h) : Int) - 1074)) (ng s) _ w (by omega) T3)
        have S1 := hid (fun w => shifted_at (pm (mg g)) ((pk (mg g) : Int) - 1074 - ((pk (mg h) : Int) - 1074)) (ng g) _ w (by omega) T1)
        have hX := wrap_x _ _ _ _ _ _ X rfl rfl rfl x3.symm x2
        have PW := hid (fun w => power_at ((pk (mg h) : Int) - 1074) _ w (by omega) (by omega) rfl)
        rw [x1] at hE
        obtain ⟨y1, y2, y3, _, _⟩ := scale_way X (pk (mg h)) x2 (by omega)
        by_cases c : X < 0
        · have x2' : (-X).natAbs ≤ 9007199254740992 := by omega
          obtain ⟨y1, y2, y3, _, _⟩ := scale_way (-X) (pk (mg h)) x2' (by omega)
          obtain ⟨p, p1, p2, p3⟩ := scale_mul (X * one) X _ (negB (rn false (-X * one))) (pk (mg h)) (negB_lt y1) (by rw [mg_negB]; exact y2) (by rw [sv_negB _ y1, y3, Int.neg_mul, Int.neg_neg]) rfl x2 (by omega) rfl
          have CP := hid (fun w => refCanon_to p l w (by rw [p3, hE]))
          exact rsum_shn g h s r _ _ _ _ _ _ _ _ _ w hadd MS (by omega) MG MH (by omega) PG PH PS C hz (by omega) (by omega) (by omega) (by omega) (by omega) (by omega) (by omega) _ _ _ BG BH BS _ _ _ X S1 S2 S3 hX c (by omega) _ _ _ p l (foi _) (negFloat_eq _ y1) PW p1 CP
        · obtain ⟨p, p1, p2, p3⟩ := scale_mul (X * one) X _ (rn false (X * one)) (pk (mg h)) y1 y2 y3 rfl x2 (by omega) rfl
          have CP := hid (fun w => refCanon_to p l w (by rw [p3, hE]))
          exact rsum_shp g h s r _ _ _ _ _ _ _ _ _ w hadd MS (by omega) MG MH (by omega) PG PH PS C hz (by omega) (by omega) (by omega) (by omega) (by omega) (by omega) (by omega) _ _ _ BG BH BS _ _ _ X S1 S2 S3 hX (by omega) (by omega) _ _ p l (foi _) PW p1 CP
      · obtain ⟨X, x1, x2, x3⟩ := near_sum g h s hs (by omega) (pk (mg s)) (.inr ⟨rfl, lc⟩) hn
        have n1 : ((pk (mg g) : Int) - 1074 - ((pk (mg s) : Int) - 1074)) = ((pk (mg g) - pk (mg s) : Nat) : Int) := by omega
        have T1 : sh (pm (mg g)) ((pk (mg g) : Int) - 1074 - ((pk (mg s) : Nat) - 1074)) (ng g) = (sm g * ((2 ^ (pk (mg g) - pk (mg s)) : Nat) : Int)) % 18446744073709551616 := by rw [n1]; exact sh_sm g _
        have n2 : ((pk (mg h) : Int) - 1074 - ((pk (mg s) : Int) - 1074)) = ((pk (mg h) - pk (mg s) : Nat) : Int) := by omega
        have T2 : sh (pm (mg h)) ((pk (mg h) : Int) - 1074 - ((pk (mg s) : Int) - 1074)) (ng h) = (sm h * ((2 ^ (pk (mg h) - pk (mg s)) : Nat) : Int)) % 18446744073709551616 := by rw [n2]; exact sh_sm h _
        have T3 : sh (pm (mg s)) 0 (ng s) = (sm s * ((2 ^ (pk (mg s) - pk (mg s)) : Nat) : Int)) % 18446744073709551616 := by rw [Nat.sub_self]; exact sh_sm s 0
        have S2 := hid (fun w => shifted_at (pm (mg h)) ((pk (mg h) : Int) - 1074 - ((pk (mg s) : Int) - 1074)) (ng h) _ w (by omega) T2)
        have S3 := hid (fun w => shifted_at (pm (mg s)) 0 (ng s) _ w (by omega) T3)
        have S1 := hid (fun w => shifted_at (pm (mg g)) ((pk (mg g) : Int) - 1074 - ((pk (mg s) : Int) - 1074)) (ng g) _ w (by omega) T1)
        have hX := wrap_x _ _ _ _ _ _ X rfl rfl rfl x3.symm x2
        have PW := hid (fun w => power_at ((pk (mg s) : Int) - 1074) _ w (by omega) (by omega) rfl)
        rw [x1] at hE
        obtain ⟨y1, y2, y3, _, _⟩ := scale_way X (pk (mg s)) x2 (by omega)
        by_cases c : X < 0
        · have x2' : (-X).natAbs ≤ 9007199254740992 := by omega
          obtain ⟨y1, y2, y3, _, _⟩ := scale_way (-X) (pk (mg s)) x2' (by omega)
          obtain ⟨p, p1, p2, p3⟩ := scale_mul (X * one) X _ (negB (rn false (-X * one))) (pk (mg s)) (negB_lt y1) (by rw [mg_negB]; exact y2) (by rw [sv_negB _ y1, y3, Int.neg_mul, Int.neg_neg]) rfl x2 (by omega) rfl
          have CP := hid (fun w => refCanon_to p l w (by rw [p3, hE]))
          exact rsum_ssn g h s r _ _ _ _ _ _ _ _ _ w hadd MS (by omega) MG MH (by omega) PG PH PS C hz (by omega) (by omega) (by omega) (by omega) (by omega) (by omega) (by omega) _ _ _ BG BH BS _ _ _ X S1 S2 S3 hX c (by omega) _ _ _ p l (foi _) (negFloat_eq _ y1) PW p1 CP
        · obtain ⟨p, p1, p2, p3⟩ := scale_mul (X * one) X _ (rn false (X * one)) (pk (mg s)) y1 y2 y3 rfl x2 (by omega) rfl
          have CP := hid (fun w => refCanon_to p l w (by rw [p3, hE]))
          exact rsum_ssp g h s r _ _ _ _ _ _ _ _ _ w hadd MS (by omega) MG MH (by omega) PG PH PS C hz (by omega) (by omega) (by omega) (by omega) (by omega) (by omega) (by omega) _ _ _ BG BH BS _ _ _ X S1 S2 S3 hX (by omega) (by omega) _ _ p l (foi _) PW p1 CP

/-- THE REFERENCE'S SUM, at all floats. -/
theorem rsum_at (a b r l : Nat) (w : World) (ha : a < 18446744073709551616) (hb : b < 18446744073709551616) (hr : addB a b = r) (hl : sumE a b = l) :
    Calls Try.prog 29 #[.float .f64 a, .float .f64 b] w fun e w' => e = .returned (.tuple #[.float .f64 r, .float .f64 l]) ∧ ∃ n, w' = w.drewN n := by
  rcases add_cases a b ha hb with ⟨fa, fb⟩ | h | ⟨s, h⟩
  · have h := add_d a b ha hb fa fb
    obtain ⟨s, hs⟩ : ∃ s, rn (ng a && ng b) (sv a + sv b) = s := ⟨_, rfl⟩
    have hsl : s < 18446744073709551616 := by rw [← hs]; exact rn_lt _ _
    have n : isN s = false := by rw [← hs]; exact isN_rn _ _
    rw [hs] at h
    have hc : canonB s = r := by rw [← hr, addB_some h]
    have hm : mg r = mg s := by rw [← hc, mg_canon s n]
    by_cases f : mg s < 9218868437227405312
    · have hf : mg (addB a b) < 9218868437227405312 := by rw [hr, hm]; exact f
      have es : sv s = rd (sv a + sv b) := by rw [← hs]; exact rn_fin' _ _ (by rw [hs]; exact f)
      by_cases c : mg a < mg b
      · have hf' : mg (addB b a) < 9218868437227405312 := by unfold addB; rw [addB_comm_fin b a hb ha fb fa]; exact hf
        have he : sumE b a = l := by rw [← hl]; unfold sumE addB; rw [addB_comm_fin b a hb ha fb fa, Int.add_comm (sv b)]
        exact (rsum_fin_s b a s r l w hb ha fb fa f h (by rw [es, Int.add_comm]) c hf' hc he).mono fun e w' ⟨x, y⟩ => ⟨x, 0, y⟩
      · exact (rsum_fin_u a b s r l w ha hb fa fb f h es (by omega) hf hc hl).mono fun e w' ⟨x, y⟩ => ⟨x, 0, y⟩
    · have : l = 0 := by rw [← hl]; unfold sumE; rw [hr, hm, if_neg f]
      subst this
      exact (rsum_inf a b s r _ w h (fun w => refMag_to s _ w rfl) (by omega) (fun w => refCanon_to s r w hc)).mono fun e w' ⟨x, y⟩ => ⟨x, 0, y⟩
  · have e1 : r = quiet := by rw [← hr, addB_none h]
    have e2 : l = 0 := by
      rw [← hl]; unfold sumE; rw [addB_none h, quiet_mg, if_neg (by omega)]
    subst e2
    rw [e1]
    exact (rsum_nan a b w h).mono fun e w' ⟨x, y⟩ => ⟨x, 1, y⟩
  · have e1 : r = infW s := by rw [← hr, addB_some h, infW_canon]
    have e2 : l = 0 := by
      rw [← hl]; unfold sumE; rw [addB_some h, infW_canon, infW_mg, if_neg (by omega)]
    subst e2
    rw [e1]
    exact (rsum_inf a b _ _ _ w h (fun w => refMag_to _ _ w rfl) (by rw [infW_mg]; omega) (fun w => refCanon_to _ _ w (infW_canon s))).mono fun e w' ⟨x, y⟩ => ⟨x, 0, y⟩
end Go.Proofs.Ytflkbjcaajchjaa
