/-
  The reference's Product of layer 3, at all floats.
-/
import Derived.Test.YtcamlhpehnfnlaaTo
namespace Go.Proofs.Ytcamlhpehnfnlaa
open Go.RowKit Tf

theorem prod_X (N low : Nat) (hN : N < 2 ^ 106) : (((N * 2 ^ low : Nat) : Int) - ((mv (rung 52 0 (N * 2 ^ low)) : Nat) : Int)).natAbs ≤ 4503599627370496 * 2 ^ low := by
  obtain ⟨V, hV⟩ : ∃ V, N * 2 ^ low = V := ⟨_, rfl⟩
  rw [hV]
  by_cases c : V ≤ 2 ^ 53
  · obtain ⟨r, hr⟩ := rep 52 V 0 c
    have hr' : mv r = V := by rw [Nat.pow_zero, Nat.mul_one] at hr; exact hr
    have e : mv (rung 52 0 V) = V := by rw [← hr', rung_mv]
    rw [e, Int.sub_self]; exact Nat.zero_le _
  · have h1 : 2 ^ V.log2 ≤ V := Nat.log2_self_le (by omega)
    have h2 : V < 2 ^ (V.log2 + 1) := Nat.lt_log2_self
    have h3 : V < 2 ^ (106 + low) := by
      rw [← hV, Nat.pow_add]; exact (Nat.mul_lt_mul_right (pow_pos low)).2 hN
    have h4 : V.log2 < 106 + low := pow_lt_iff.1 (Nat.lt_of_le_of_lt h1 h3)
    have h5 : 53 < V.log2 + 1 := pow_lt_iff.1 (Nat.lt_trans (Nat.lt_of_not_le c) h2)
    obtain ⟨g, hg⟩ : ∃ g, V.log2 = 52 + g := ⟨V.log2 - 52, by omega⟩
    rw [hg] at h1 h2 h4
    obtain ⟨D, e, _, _, d3⟩ := round_step0 g V h1 (by rw [show 53 + g = 52 + g + 1 by omega]; omega)
    rw [e]
    have h6 : 2 ^ g ≤ 2 ^ (53 + low) := Nat.pow_le_pow_right (by omega) (by omega)
    rw [Nat.pow_add] at h6
    generalize 2 ^ low = P at *
    generalize 2 ^ g = G at *
    generalize D * G = Y at *
    omega
theorem pow_sv (low : Nat) (hl : low ≤ 2097) : powB ((low : Int) - 1074) < 9218868437227405312 ∧ sv (powB ((low : Int) - 1074)) = ((2 ^ low : Nat) : Int) := by
  have hp := powB_mv ((low : Int) - 1074) (by omega) (by omega)
  have e1 : ((low : Int) - 1074 + 1074).toNat = low := by omega
  rw [e1] at hp
  refine ⟨hp.2, ?_⟩
  unfold sv
  rw [ng_of_lt (by omega), if_neg (by decide), mg_of_lt (by omega), hp.1]
theorem canon_neg_rn (z : Bool) (v : Int) : canonB (negB (rn z v)) = rn false (-v) := by
  by_cases c : v = 0
  · subst c
    rw [Int.neg_zero, rn_zero, rn_zero]
    cases z <;> decide
  · rw [rn_ne z false v c]; exact rn_negv v
def K22 : Nat := 1022
theorem K22_eq : K22 = 1022 := rfl
theorem low_pow (low : Nat) : 2 ^ K22 * 2 ^ (low + 52) = 2 ^ low * 2 ^ K := by
  rw [← Nat.pow_add, ← Nat.pow_add]
  have : K22 + (low + 52) = low + K := by rw [K22_eq, K_eq]; omega
  rw [this]
theorem mul_swap (X A B k m : Int) (h : A * B = m * k) : X * A * B = X * m * k := by rw [Int.mul_assoc, h, Int.mul_assoc]

/-- THE REFERENCE'S scaled -/
theorem scaled_at (X E : Int) (low : Nat) (below : Bool) (r : Nat) (w : World) (x0 : 0 ≤ X) (x1 : X ≤ 9007199254740992) (hE : E = (low : Int) - 1074) (hl : low ≤ 2097) (hr : rn false ((if below then -X else X) * ((2 ^ low : Nat) : Int)) = r) :
    Calls Try.prog 37 #[.int .i64 X, .int .i64 E, .bool below] w fun e w' => e = .returned (.float .f64 r) ∧ w' = w := by
  obtain ⟨y1, y2, y3, _, _⟩ := scale_way X 0 (by omega) (by omega)
  have he0 : -1074 ≤ E := by omega
  have he1 : E ≤ 1023 := by omega
  by_cases c : E < -1022
  · have q1 := pow_sv K22 (by rw [K22_eq]; omega)
    have e1 : ((K22 : Nat) : Int) - 1074 = -52 := by rw [K22_eq]; rfl
    rw [e1] at q1
    have q2 := pow_sv (low + 52) (by omega)
    have e2 : ((low + 52 : Nat) : Int) - 1074 = E + 52 := by omega
    rw [e2] at q2
    have m1 := mul_W _ (powB (-52)) (X * ((2 ^ K22 : Nat) : Int)) y1 (by omega) y2 (by rw [mg_of_lt (by omega)]; exact q1.1) (by
      rw [y3, q1.2, one_pow]
      generalize ((2 ^ K : Nat) : Int) = k
      generalize ((2 ^ K22 : Nat) : Int) = j
      rw [Int.mul_right_comm])
    obtain ⟨z, hz⟩ : ∃ z, (ng (rn false (X * one)) ^^ ng (powB (-52))) = z := ⟨_, rfl⟩
    rw [hz] at m1
    have d1 : isD (X * ((2 ^ K22 : Nat) : Int)) := isD_of _ X 0 K22 (by rw [Nat.pow_zero, show ((1 : Nat) : Int) = 1 from rfl, Int.mul_one]) (by omega)
    have t1 : (X * ((2 ^ K22 : Nat) : Int)).natAbs < top := by
      have h3 : 9007199254740992 * 2 ^ K22 < top := by decide +kernel
      rw [Int.natAbs_mul, Int.natAbs_natCast]
      exact Nat.lt_of_le_of_lt (Nat.mul_le_mul_right _ (by omega)) h3
    obtain ⟨f1, f2⟩ := rn_exact z _ d1 t1
    have m2 := mul_W _ (powB (E + 52)) (X * ((2 ^ low : Nat) : Int)) (rn_lt z (X * ((2 ^ K22 : Nat) : Int))) (by omega) f1 (by rw [mg_of_lt (by omega)]; exact q2.1) (by
      rw [f2, q2.2]
      exact mul_swap _ _ _ _ _ (by rw [← Int.natCast_mul, low_pow, Int.natCast_mul]))
    have P1 := hid (fun w => power_at (-52) _ w (by omega) (by omega) rfl)
    have P2 := hid (fun w => power_at (E + 52) _ w (by omega) (by omega) rfl)
    cases below
    · exact scaled_lp X E _ _ _ _ _ r w he0 he1 c (foi X) P1 m1 P2 m2 (fun w => refCanon_to _ _ w (by rw [canon_rn, ← hr]; rfl))
    · exact scaled_ln X E _ _ _ _ _ _ r w he0 he1 c (foi X) P1 m1 P2 m2 (negFloat_eq _ (rn_lt _ _)) (fun w => refCanon_to _ _ w (by rw [canon_neg_rn, ← hr, if_pos rfl, Int.neg_mul]))
  · have q2 := pow_sv low hl
    rw [← hE] at q2
    have m2 := mul_W _ (powB E) (X * ((2 ^ low : Nat) : Int)) y1 (by omega) y2 (by rw [mg_of_lt (by omega)]; exact q2.1) (by
      rw [y3, q2.2, one_pow]
      generalize ((2 ^ K : Nat) : Int) = k
      rw [Int.mul_right_comm])
    have P2 := hid (fun w => power_at E _ w he0 he1 rfl)
    cases below
    · exact scaled_hp X E _ _ _ r w he0 he1 c (foi X) P2 m2 (fun w => refCanon_to _ _ w (by rw [canon_rn, ← hr]; rfl))
    · exact scaled_hn X E _ _ _ _ r w he0 he1 c (foi X) P2 m2 (negFloat_eq _ (rn_lt _ _)) (fun w => refCanon_to _ _ w (by rw [canon_neg_rn, ← hr, if_pos rfl, Int.neg_mul]))

theorem prod_kk (a b p : Nat) (ha : a < 18446744073709551616) (hb : b < 18446744073709551616) (hp : Ieee.double.mul a b = some p) (ht : toldB a b p = true) : K ≤ pk (mg a) + pk (mg b) := by
  obtain ⟨h1, h2, h3, h4⟩ := (toldB_iff a b p).1 ht
  have hm := mul_d a b ha hb (by omega) (by omega)
  rw [← K_eq, hp] at hm
  have hm := Option.some.inj hm
  have hmp : mg p = min (rung 52 K (mv (mg a) * mv (mg b))) 9218868437227405312 := by
    rw [hm]
    generalize rung 52 K (mv (mg a) * mv (mg b)) = r
    have hl : min r 9218868437227405312 < 9223372036854775808 := by omega
    generalize min r 9218868437227405312 = q at *
    cases (ng a ^^ ng b)
    · simp only [Bool.false_eq_true, if_false]; exact mg_of_lt hl
    · simp only [if_true]; rw [mg_of_ge (by omega) (by omega)]; omega
  have hr : rung 52 K (mv (mg a) * mv (mg b)) = mg p := by
    rw [hmp] at h4 ⊢
    generalize rung 52 K (mv (mg a) * mv (mg b)) = r at *
    omega
  have hlow : 2 ^ 105 ≤ mv (rung 52 K (mv (mg a) * mv (mg b))) := by rw [hr, ← low969]; exact mv_le.2 h3
  exact kk_ge _ _ hlow

/-- where the error is told: in whole numbers of the product of both last bits -/
theorem prod_told (a b p : Nat) (ha : a < 18446744073709551616) (hb : b < 18446744073709551616) (hp : Ieee.double.mul a b = some p) (ht : toldB a b p = true) :
    ∃ (low : Nat) (X : Int), pk (mg a) + pk (mg b) = low + 1074 ∧ low ≤ 2097 ∧ X.natAbs ≤ 4503599627370496 ∧
      (low ≤ pk (mg p) → X = (pm (mg a) : Int) * (pm (mg b) : Int) - (pm (mg p) : Int) * ((2 ^ (pk (mg p) - low) : Nat) : Int)) ∧ (pk (mg p) < low → X = 0) ∧
      prodE a b = rn false ((if ng p then -X else X) * ((2 ^ low : Nat) : Int)) := by
  obtain ⟨W, hh, lh, hl, ll, P, eV, ep, fp, hpl, eM, bW, hW0⟩ := prod_facts a b p ha hb hp ht
  have hkk := prod_kk a b p ha hb hp ht
  obtain ⟨low, hlow⟩ : ∃ low, pk (mg a) + pk (mg b) = low + K := ⟨pk (mg a) + pk (mg b) - K, by omega⟩
  have eW : W.natAbs = pm (mg a) * pm (mg b) * 2 ^ low := by
    have h1 : (sv a * sv b).natAbs = W.natAbs * 2 ^ K := by rw [P.eW, Int.natAbs_mul, Int.natAbs_natCast]
    rw [Int.natAbs_mul, sv_abs, sv_abs, pm_pk, pm_pk] at h1
    have h2 : pm (mg a) * 2 ^ pk (mg a) * (pm (mg b) * 2 ^ pk (mg b)) = pm (mg a) * pm (mg b) * 2 ^ low * 2 ^ K := by
      rw [Nat.mul_assoc (pm (mg a) * pm (mg b)), ← Nat.pow_add, ← hlow, Nat.pow_add]
      generalize 2 ^ pk (mg a) = x
      generalize 2 ^ pk (mg b) = y
      ac_rfl
    rw [h2] at h1
    exact (Nat.eq_of_mul_eq_mul_right (pow_pos K) h1).symm
  have eP : (rd W).natAbs = pm (mg p) * 2 ^ pk (mg p) := by rw [← ep, sv_abs, pm_pk]
  have hN : pm (mg a) * pm (mg b) < 2 ^ 106 := by
    have h1 := pm_lt (mg a)
    have h2 := pm_lt (mg b)
    have h3 : pm (mg a) * pm (mg b) ≤ 9007199254740991 * 9007199254740991 := Nat.mul_le_mul (by omega) (by omega)
    omega
  have hN1 : 1 ≤ pm (mg a) * pm (mg b) := by
    by_cases c : 1 ≤ pm (mg a) * pm (mg b)
    · exact c
    · exfalso
      have : pm (mg a) * pm (mg b) = 0 := by omega
      rw [this, Nat.zero_mul] at eW
      omega
  have hl97 : low ≤ 2097 := by
    obtain ⟨e, he⟩ : ∃ e : Nat, e = 2046 := ⟨_, rfl⟩
    have h1 := mv_two_pow e 9218868437227405312 (by rw [he])
    have h2 : 2 ^ low ≤ W.natAbs := by
      rw [eW]
      have := Nat.mul_le_mul_right (2 ^ low) hN1
      omega
    have h3 : 2 ^ low < 2 ^ (52 + e) := by
      rw [← h1]
      have h4 := top1020
      have h5 : 0 < mv 9200854038717923328 := by
        have := mv_lt.2 (show 0 < 9200854038717923328 by omega)
        rw [mv_zero] at this; exact this
      unfold top at h4
      omega
    have := pow_lt_iff.1 h3
    omega
  have hX := prod_X (pm (mg a) * pm (mg b)) low hN
  rw [← eW, ← rd_abs, eP] at hX
  -- the sign
  have sW : ng p = true → W < 0 := by
    intro h
    have h1 : sv p ≤ 0 := by unfold sv; rw [h, if_pos rfl]; omega
    rw [ep] at h1
    by_cases c : W < 0
    · exact c
    · exfalso
      have h2 := rd_nonneg (v := W) (by omega)
      have h3 := P.bW
      omega
  have sW' : ng p = false → 0 < W := by
    intro h
    have h1 : 0 ≤ sv p := by unfold sv; rw [h, if_neg (by decide)]; omega
    rw [ep] at h1
    by_cases c : 0 < W
    · exact c
    · exfalso
      have h2 := rd_nonpos (v := W) (by omega)
      have h3 := P.bW
      omega
  have hE : prodE a b = rn false (W - rd W) := by unfold prodE; rw [eM, ht, if_pos rfl, eV, ep]
  have key : ∀ X : Int, ((W.natAbs : Nat) : Int) - (((rd W).natAbs : Nat) : Int) = X * ((2 ^ low : Nat) : Int) → prodE a b = rn false ((if ng p then -X else X) * ((2 ^ low : Nat) : Int)) := by
    intro X h
    rw [hE]
    cases s : ng p
    · rw [if_neg (by decide), ← h]
      have h1 := sW' s
      have h2 := rd_nonneg (v := W) (by omega)
      have : W - rd W = ((W.natAbs : Nat) : Int) - (((rd W).natAbs : Nat) : Int) := by omega
      rw [this]
    · rw [if_pos rfl, Int.neg_mul, ← h]
      have h1 := sW s
      have h2 := rd_nonpos (v := W) (by omega)
      have : W - rd W = -(((W.natAbs : Nat) : Int) - (((rd W).natAbs : Nat) : Int)) := by omega
      rw [this]
  by_cases c : low ≤ pk (mg p)
  · have h1 : ((W.natAbs : Nat) : Int) - (((rd W).natAbs : Nat) : Int) = ((pm (mg a) : Int) * (pm (mg b) : Int) - (pm (mg p) : Int) * ((2 ^ (pk (mg p) - low) : Nat) : Int)) * ((2 ^ low : Nat) : Int) := by
      rw [eW, eP, Int.natCast_mul, Int.natCast_mul, Int.natCast_mul, Int.sub_mul, ← mul_up _ c]
    refine ⟨low, _, hlow, hl97, ?_, fun _ => rfl, fun h => by omega, key _ h1⟩
    rw [← eP, h1, Int.natAbs_mul, Int.natAbs_natCast] at hX
    exact cancel_le (pow_pos low) hX
  · have hD : isD W := by
      by_cases c2 : pm (mg a) * pm (mg b) ≤ 2 ^ 53
      · obtain ⟨r, hr⟩ := rep 52 _ low c2
        exact ⟨r, by rw [eW]; exact hr⟩
      · exfalso
        have h3 : 2 ^ 53 * 2 ^ low ≤ W.natAbs := by rw [eW]; exact Nat.mul_le_mul_right _ (by omega)
        have h4 : 2 ^ 53 * 2 ^ low ≤ (rd W).natAbs := by
          rw [rd_abs]
          obtain ⟨t, ht⟩ := rep 52 (2 ^ 53) low (by omega)
          rw [← ht]
          exact mv_le.2 (rung_ge (by omega) (by rw [ht, Nat.pow_zero, Nat.mul_one]; exact h3))
        rw [eP] at h4
        have h5 : pm (mg p) * 2 ^ pk (mg p) < 2 ^ 53 * 2 ^ low := by
          refine Nat.lt_of_lt_of_le ((Nat.mul_lt_mul_right (pow_pos _)).2 (pm_lt (mg p))) ?_
          exact Nat.mul_le_mul (by omega) (Nat.pow_le_pow_right (by omega) (by omega))
        omega
    refine ⟨low, 0, hlow, hl97, by decide, fun h => by omega, fun _ => rfl, key 0 ?_⟩
    rw [rd_exact hD, Int.sub_self, Int.zero_mul]
theorem wrap_p (Ma Mb t u X : Int) (h : t = u % 18446744073709551616) (e : Ma * Mb - u = X) (hX : X.natAbs ≤ 4503599627370496) : IntKind.i64.wrap (IntKind.u64.wrap (IntKind.u64.wrap (Ma * Mb) - t)) = X := by
  rw [IntKind.wrap_i64, u64w, u64w]
  subst h
  generalize Ma * Mb = N at *
  omega

/-- THE REFERENCE'S PRODUCT, at all floats. -/
theorem rprod_at (a b r q : Nat) (w : World) (ha : a < 18446744073709551616) (hb : b < 18446744073709551616) (hr : mulB a b = r) (hq : prodE a b = q) :
    Calls Try.prog 14 #[.float .f64 a, .float .f64 b] w fun e w' => e = .returned (.tuple #[.float .f64 r, .float .f64 q]) ∧ ∃ n, w' = w.drewN n := by
  have MA : Hid (∀ w, Calls Try.prog 30 #[.float .f64 a] w fun e w' => e = .returned (.int .u64 ((mg a : Nat) : Int)) ∧ w' = w) := fun w => refMag_to a _ w rfl
  have MB : Hid (∀ w, Calls Try.prog 30 #[.float .f64 b] w fun e w' => e = .returned (.int .u64 ((mg b : Nat) : Int)) ∧ w' = w) := fun w => refMag_to b _ w rfl
  cases h : Ieee.double.mul a b with
  | none =>
    have e1 : r = quiet := by rw [← hr, mulB_none h]
    have e2 : q = 0 := by
      rw [← hq]; unfold prodE; rw [mulB_none h]
      have h2 : toldB a b quiet = false := by
        have h3 : decide (mg quiet ≤ 9200854038717923328) = false := by rw [quiet_mg]; rfl
        unfold toldB; rw [h3]; simp
      rw [h2, if_neg (by decide)]
    subst e2
    rw [e1]
    by_cases c1 : 9092767647661031424 < mg a
    · exact (rprod_nana a b _ w h MA (by omega)).mono fun e w' ⟨x, y⟩ => ⟨x, 1, y⟩
    · by_cases c2 : 9092767647661031424 < mg b
      · exact (rprod_nanb a b _ _ w h MA MB (by omega) (by omega)).mono fun e w' ⟨x, y⟩ => ⟨x, 1, y⟩
      · exact (rprod_nanh a b _ _ w h MA MB (by omega) (by omega)).mono fun e w' ⟨x, y⟩ => ⟨x, 1, y⟩
  | some p =>
    obtain ⟨hp, np⟩ := mul_ok a b p ha hb h
    have hc : canonB p = r := by rw [← hr, mulB_some h]
    have htm : toldB a b (mulB a b) = toldB a b p := by unfold toldB; rw [hr, ← hc, mg_canon p np]
    have MP : Hid (∀ w, Calls Try.prog 30 #[.float .f64 p] w fun e w' => e = .returned (.int .u64 ((mg p : Nat) : Int)) ∧ w' = w) := fun w => refMag_to p _ w rfl
    have C : Hid (∀ w, Calls Try.prog 31 #[.float .f64 p] w fun e w' => e = .returned (.float .f64 r) ∧ w' = w) := fun w => refCanon_to p r w hc
    cases t : toldB a b p
    · have e2 : q = 0 := by rw [← hq]; unfold prodE; rw [htm, t, if_neg (by decide)]
      subst e2
      have hn : ¬ (mg a ≤ 9092767647661031424 ∧ mg b ≤ 9092767647661031424 ∧ 243194379878006784 ≤ mg p ∧ mg p ≤ 9200854038717923328) := by
        intro hh
        rw [← toldB_iff, t] at hh
        cases hh
      by_cases c1 : 9092767647661031424 < mg a
      · exact (rprod_noa a b p r _ _ w h MP MA (by omega) C).mono fun e w' ⟨x, y⟩ => ⟨x, 0, y⟩
      · by_cases c2 : 9092767647661031424 < mg b
        · exact (rprod_nob a b p r _ _ _ w h MP MA MB (by omega) (by omega) C).mono fun e w' ⟨x, y⟩ => ⟨x, 0, y⟩
        · by_cases c3 : mg p < 243194379878006784
          · exact (rprod_nol a b p r _ _ _ w h MP MA MB (by omega) (by omega) (by omega) C).mono fun e w' ⟨x, y⟩ => ⟨x, 0, y⟩
          · exact (rprod_noh a b p r _ _ _ w h MP MA MB (by omega) (by omega) (by omega) (by omega) C).mono fun e w' ⟨x, y⟩ => ⟨x, 0, y⟩
    · obtain ⟨low, X, hlow, hl, hX, hX1, hX2, hE⟩ := prod_told a b p ha hb h t
      obtain ⟨h1, h2, h3, h4⟩ := (toldB_iff a b p).1 t
      rw [hq] at hE
      have ka := pk_top (mg a) (by omega)
      have kb := pk_top (mg b) (by omega)
      have kp := pk_top (mg p) (by omega)
      have PA : Hid (∀ w, Calls Try.prog 32 #[.float .f64 a] w fun e w' => e = .returned (.tuple #[.int .u64 ((pm (mg a) : Nat) : Int), .int .i64 ((pk (mg a) : Int) - 1074)]) ∧ w' = w) := fun w => rparts_at a _ _ w (by omega) rfl rfl
      have PB : Hid (∀ w, Calls Try.prog 32 #[.float .f64 b] w fun e w' => e = .returned (.tuple #[.int .u64 ((pm (mg b) : Nat) : Int), .int .i64 ((pk (mg b) : Int) - 1074)]) ∧ w' = w) := fun w => rparts_at b _ _ w (by omega) rfl rfl
      have PP : Hid (∀ w, Calls Try.prog 32 #[.float .f64 p] w fun e w' => e = .returned (.tuple #[.int .u64 ((pm (mg p) : Nat) : Int), .int .i64 ((pk (mg p) : Int) - 1074)]) ∧ w' = w) := fun w => rparts_at p _ _ w (by omega) rfl rfl
      have eE : ((pk (mg a) : Int) - 1074) + ((pk (mg b) : Int) - 1074) = (low : Int) - 1074 := by omega
      have SC := fun (Y : Int) (be : Bool) (y0 : 0 ≤ Y) (y1 : Y ≤ 9007199254740992) (ye : (if be then -Y else Y) = (if ng p then -X else X)) => hid (fun w => scaled_at Y (((pk (mg a) : Int) - 1074) + ((pk (mg b) : Int) - 1074)) low be q w y0 y1 eE hl (by rw [ye, hE]))
      by_cases c : low ≤ pk (mg p)
      · have hX1 := hX1 c
        have n1 : ((pk (mg p) : Int) - 1074) - (((pk (mg a) : Int) - 1074) + ((pk (mg b) : Int) - 1074)) = ((pk (mg p) - low : Nat) : Int) := by omega
        have T : sh (pm (mg p)) (((pk (mg p) : Int) - 1074) - (((pk (mg a) : Int) - 1074) + ((pk (mg b) : Int) - 1074))) false = ((pm (mg p) : Int) * ((2 ^ (pk (mg p) - low) : Nat) : Int)) % 18446744073709551616 := by
          rw [n1]; unfold sh; rw [Int.toNat_natCast]; rfl
        have S := hid (fun w => shifted_at (pm (mg p)) (((pk (mg p) : Int) - 1074) - (((pk (mg a) : Int) - 1074) + ((pk (mg b) : Int) - 1074))) false _ w (by omega) T)
        have hw := wrap_p _ _ _ _ X rfl hX1.symm hX
        cases s : ng p
        · have B : Hid (∀ w, Calls Try.prog 34 #[.float .f64 p] w fun e w' => e = .returned (.bool false) ∧ w' = w) := fun w => refBelow_to p _ w s
          rw [s] at SC
          by_cases n : X < 0
          · exact (rprod_ynan a b p r q _ _ _ _ _ _ _ _ _ w h MP MA MB (by omega) (by omega) (by omega) (by omega) PA PB PP (by omega) (by omega) (by omega) (by omega) (by omega) (by omega) (by omega) B _ X S hw (by omega) (by omega) n (SC (-X) true (by omega) (by omega) (by rw [if_pos rfl, if_neg (by decide)]; omega)) C).mono fun e w' ⟨x, y⟩ => ⟨x, 0, y⟩
          · exact (rprod_ynap a b p r q _ _ _ _ _ _ _ _ _ w h MP MA MB (by omega) (by omega) (by omega) (by omega) PA PB PP (by omega) (by omega) (by omega) (by omega) (by omega) (by omega) (by omega) B _ X S hw (by omega) (by omega) n (SC X false (by omega) (by omega) rfl) C).mono fun e w' ⟨x, y⟩ => ⟨x, 0, y⟩
        · have B : Hid (∀ w, Calls Try.prog 34 #[.float .f64 p] w fun e w' => e = .returned (.bool true) ∧ w' = w) := fun w => refBelow_to p _ w s
          rw [s] at SC
          by_cases n : -X < 0
          · exact (rprod_ynbn a b p r q _ _ _ _ _ _ _ _ _ w h MP MA MB (by omega) (by omega) (by omega) (by omega) PA PB PP (by omega) (by omega) (by omega) (by omega) (by omega) (by omega) (by omega) B _ X S hw (by omega) (by omega) n (SC X true (by omega) (by omega) rfl) C).mono fun e w' ⟨x, y⟩ => ⟨x, 0, y⟩
          · exact (rprod_ynbp a b p r q _ _ _ _ _ _ _ _ _ w h MP MA MB (by omega) (by omega) (by omega) (by omega) PA PB PP (by omega) (by omega) (by omega) (by omega) (by omega) (by omega) (by omega) B _ X S hw (by omega) (by omega) n (SC (-X) false (by omega) (by omega) (by rw [if_neg (by decide), if_pos rfl])) C).mono fun e w' ⟨x, y⟩ => ⟨x, 0, y⟩
      · have hX0 := hX2 (by omega)
        cases s : ng p
        · have B : Hid (∀ w, Calls Try.prog 34 #[.float .f64 p] w fun e w' => e = .returned (.bool false) ∧ w' = w) := fun w => refBelow_to p _ w s
          rw [s] at SC
          exact (rprod_yzap a b p r q _ _ _ _ _ _ _ _ _ w h MP MA MB (by omega) (by omega) (by omega) (by omega) PA PB PP (by omega) (by omega) (by omega) (by omega) (by omega) (by omega) (by omega) B (SC 0 false (by omega) (by omega) (by rw [hX0])) C).mono fun e w' ⟨x, y⟩ => ⟨x, 0, y⟩
        · have B : Hid (∀ w, Calls Try.prog 34 #[.float .f64 p] w fun e w' => e = .returned (.bool true) ∧ w' = w) := fun w => refBelow_to p _ w s
          rw [s] at SC
          exact (rprod_yzbp a b p r q _ _ _ _ _ _ _ _ _ w h MP MA MB (by omega) (by omega) (by omega) (by omega) PA PB PP (by omega) (by omega) (by omega) (by omega) (by omega) (by omega) (by omega) B (SC 0 false (by omega) (by omega) (by rw [hX0]; rfl)) C).mono fun e w' ⟨x, y⟩ => ⟨x, 0, y⟩
end Go.Proofs.Ytcamlhpehnfnlaa
