/-
  The halves of a number and the way of Product, by plain numbers (no program).
-/
import Derived.Test.YtgbaaafikphafaaTa
namespace Go.Proofs.Ytgbaaafikphafaa
open Tf

theorem mul_W (x y : Nat) (W : Int) (hx : x < 18446744073709551616) (hy : y < 18446744073709551616) (fx : mg x < 9218868437227405312) (fy : mg y < 9218868437227405312)
    (e : sv x * sv y = W * ((2 ^ K : Nat) : Int)) : Ieee.double.mul x y = some (rn (ng x ^^ ng y) W) := by
  have hm := mul_d x y hx hy fx fy
  rw [← K_eq] at hm
  have ea : mv (mg x) * mv (mg y) = W.natAbs * 2 ^ K := by
    rw [← sv_abs, ← sv_abs, ← Int.natAbs_mul, e, Int.natAbs_mul, Int.natAbs_natCast]
  have er : rung 52 K (mv (mg x) * mv (mg y)) = rung 52 0 W.natAbs := by
    rw [ea]
    have := rung_scale 52 0 K W.natAbs
    rwa [Nat.zero_add] at this
  rw [hm, er]
  have hs : (ng x ^^ ng y) = (if W = 0 then (ng x ^^ ng y) else decide (W < 0)) := by
    by_cases c : W = 0
    · rw [if_pos c]
    · rw [if_neg c]
      have hp : (0 : Int) < ((2 ^ K : Nat) : Int) := by have := pow_pos K; omega
      have hne : sv x * sv y ≠ 0 := by
        rw [e]; intro h0
        rcases Int.mul_eq_zero.1 h0 with h1 | h1
        · exact c h1
        · omega
      have hx0 : mv (mg x) ≠ 0 := by
        intro h0
        have : sv x = 0 := by have := sv_abs x; omega
        exact hne (by rw [this, Int.zero_mul])
      have hy0 : mv (mg y) ≠ 0 := by
        intro h0
        have : sv y = 0 := by have := sv_abs y; omega
        exact hne (by rw [this, Int.mul_zero])
      have key : W < 0 ↔ sv x * sv y < 0 := by
        rw [e]
        constructor
        · intro h; exact Int.mul_neg_of_neg_of_pos h hp
        · intro h
          by_cases c2 : W < 0
          · exact c2
          · exfalso
            have := Int.mul_nonneg (show 0 ≤ W by omega) (Int.le_of_lt hp)
            omega
      have hpos : (0 : Int) < (mv (mg x) : Int) * (mv (mg y) : Int) := Int.mul_pos (by omega) (by omega)
      have eb : decide (W < 0) = decide (sv x * sv y < 0) := by rw [Bool.eq_iff_iff]; simp only [decide_eq_true_eq]; exact key
      rw [eb]
      unfold sv
      generalize (mv (mg x) : Int) = A at *
      generalize (mv (mg y) : Int) = B at *
      have n1 : -A * B = -(A * B) := Int.neg_mul A B
      have n2 : A * -B = -(A * B) := Int.mul_neg A B
      have n3 : -A * -B = A * B := Int.neg_mul_neg A B
      cases ng x <;> cases ng y <;> simp only [Bool.false_eq_true, if_false, if_true, n1, n2, n3] <;> simp <;> omega
  unfold rn
  rw [← hs]

theorem rd_le (v : Int) (t : Nat) (h : v.natAbs ≤ mv t) : (rd v).natAbs ≤ mv t := by
  rw [rd_abs]
  exact mv_le.2 (rung_le (by omega) (by rw [Nat.pow_zero, Nat.mul_one]; exact h))

theorem hiV_zero : hiV 0 = 0 := by
  have h : rd 0 = 0 := rd_exact isD_zero
  unfold hiV
  rw [Int.mul_zero, h, Int.sub_zero, h]; rfl
theorem halves (x : Nat) : isD (hiV (sv x)) ∧ isD (sv x - hiV (sv x)) ∧ (sv x - hiV (sv x)).natAbs ≤ (sv x).natAbs ∧ (hiV (sv x)).natAbs ≤ 2 * (sv x).natAbs := by
  by_cases c : mg x = 0
  · have e : sv x = 0 := by have := sv_abs x; rw [c, mv_zero] at this; omega
    rw [e, hiV_zero]
    exact ⟨isD_zero, isD_zero, by decide, by decide⟩
  · obtain ⟨s, μ, η, p⟩ := sp_any x c
    have h1 : (sv x - hiV (sv x)).natAbs ≤ 1 * (sv x).natAbs := by
      refine scaled_le _ _ _ _ s _ 1 p.eX p.eL ?_
      have := p.hl
      have := p.lo
      omega
    exact ⟨p.isH, p.isL, by omega, by omega⟩

theorem top996 : top = 268435456 * mv 9092767647661031424 := by decide +kernel
theorem big996 : mv 9216616637413720064 = 201326592 * mv 9092767647661031424 := by decide +kernel
theorem top1020 : top = 16 * mv 9200854038717923328 := by decide +kernel
theorem low969 : mv 243194379878006784 = 2 ^ 105 := by decide +kernel
theorem svC : sv 4728779608772575232 = 134217729 * ((2 ^ K : Nat) : Int) := by decide +kernel
theorem mgC : mg 4728779608772575232 < 9218868437227405312 := by decide

/-- the way of Split -/
theorem split_way (x : Nat) (hx : x < 18446744073709551616) (h : mg x ≤ 9092767647661031424) :
    ∃ c d hi lo, Ieee.double.mul 4728779608772575232 x = some c ∧ Ieee.double.sub c x = some d ∧ Ieee.double.sub c d = some hi ∧ Ieee.double.sub x hi = some lo ∧
      c < 18446744073709551616 ∧ d < 18446744073709551616 ∧ hi < 18446744073709551616 ∧ lo < 18446744073709551616 ∧ canonB hi = rn false (hiV (sv x)) ∧ canonB lo = rn false (sv x - hiV (sv x)) := by
  have fx : mg x < 9218868437227405312 := by omega
  have t1 := top996
  have t2 := big996
  have hX : (sv x).natAbs ≤ mv 9092767647661031424 := by rw [sv_abs]; exact mv_le.2 h
  have hq : 0 < mv 9092767647661031424 := by
    have := mv_lt.2 (show 0 < 9092767647661031424 by omega)
    rw [mv_zero] at this; exact this
  obtain ⟨dH, dL, bL, bH⟩ := halves x
  obtain ⟨X, hXe⟩ : ∃ X, sv x = X := ⟨_, rfl⟩
  rw [hXe] at hX dH dL bL bH ⊢
  generalize mv 9092767647661031424 = Q at *
  have m := mul_W 4728779608772575232 x (134217729 * X) (by decide) hx mgC fx (by rw [svC, hXe]; generalize ((2 ^ K : Nat) : Int) = k; rw [Int.mul_right_comm])
  obtain ⟨z, hz⟩ : ∃ z, (ng 4728779608772575232 ^^ ng x) = z := ⟨_, rfl⟩
  rw [hz] at m
  have c1 : (rd (134217729 * X)).natAbs ≤ 201326592 * Q := by rw [← t2]; exact rd_le _ _ (by rw [t2]; omega)
  obtain ⟨fc, ec⟩ := rn_fin z (134217729 * X) (by rw [t1]; omega)
  have s1 := sub_d _ x (rn_lt z (134217729 * X)) hx fc fx
  rw [ec, hXe] at s1
  obtain ⟨z1, hz1⟩ : ∃ z1, (ng (rn z (134217729 * X)) && !ng x) = z1 := ⟨_, rfl⟩
  rw [hz1] at s1
  obtain ⟨fd, ed⟩ := rn_fin z1 (rd (134217729 * X) - X) (by
    have h3 : (rd (rd (134217729 * X) - X)).natAbs ≤ (rd (134217729 * X)).natAbs + (hiV X).natAbs := by unfold hiV; omega
    rw [t1]; omega)
  have s2 := sub_d _ _ (rn_lt z (134217729 * X)) (rn_lt z1 (rd (134217729 * X) - X)) fc fd
  rw [ec, ed] at s2
  have eh : rd (134217729 * X) - rd (rd (134217729 * X) - X) = hiV X := rfl
  rw [eh] at s2
  obtain ⟨z2, hz2⟩ : ∃ z2, (ng (rn z (134217729 * X)) && !ng (rn z1 (rd (134217729 * X) - X))) = z2 := ⟨_, rfl⟩
  rw [hz2] at s2
  obtain ⟨fh, eh2⟩ := rn_exact z2 (hiV X) dH (by rw [t1]; omega)
  have s3 := sub_d x _ hx (rn_lt z2 (hiV X)) fx fh
  rw [eh2, hXe] at s3
  exact ⟨_, _, _, _, m, s1, s2, s3, rn_lt _ _, rn_lt _ _, rn_lt _ _, rn_lt _ _, canon_rn _ _, canon_rn _ _⟩

def splitH (x : Nat) : Nat := if mg x ≤ 9092767647661031424 then rn false (hiV (sv x)) else canonB x
def splitL (x : Nat) : Nat := if mg x ≤ 9092767647661031424 then rn false (sv x - hiV (sv x)) else 0
theorem splitH_lt (x : Nat) (hx : x < 18446744073709551616) : splitH x < 18446744073709551616 := by
  unfold splitH; split
  · exact rn_lt _ _
  · exact canonB_lt hx
theorem splitL_lt (x : Nat) : splitL x < 18446744073709551616 := by
  unfold splitL; split
  · exact rn_lt _ _
  · decide
theorem split_sv (x : Nat) (h : mg x ≤ 9092767647661031424) : (mg (splitH x) < 9218868437227405312 ∧ sv (splitH x) = hiV (sv x)) ∧ mg (splitL x) < 9218868437227405312 ∧ sv (splitL x) = sv x - hiV (sv x) := by
  have t1 := top996
  have hX : (sv x).natAbs ≤ mv 9092767647661031424 := by rw [sv_abs]; exact mv_le.2 h
  have hq : 0 < mv 9092767647661031424 := by
    have := mv_lt.2 (show 0 < 9092767647661031424 by omega)
    rw [mv_zero] at this; exact this
  obtain ⟨dH, dL, bL, bH⟩ := halves x
  unfold splitH splitL
  rw [if_pos h, if_pos h]
  exact ⟨rn_exact false _ dH (by omega), rn_exact false _ dL (by omega)⟩

/-- whether the error of a product is told -/
def toldB (a b p : Nat) : Bool := decide (mg a ≤ 9092767647661031424) && decide (mg b ≤ 9092767647661031424) && decide (243194379878006784 ≤ mg p) && decide (mg p ≤ 9200854038717923328)
def prodV (a b : Nat) : Int := sv a * sv b / ((2 ^ K : Nat) : Int)
def prodE (a b : Nat) : Nat := if toldB a b (mulB a b) then rn false (prodV a b - sv (mulB a b)) else 0
theorem prodE_lt (a b : Nat) : prodE a b < 18446744073709551616 := by unfold prodE; split; exact rn_lt _ _; decide
theorem toldB_iff (a b p : Nat) : toldB a b p = true ↔ mg a ≤ 9092767647661031424 ∧ mg b ≤ 9092767647661031424 ∧ 243194379878006784 ≤ mg p ∧ mg p ≤ 9200854038717923328 := by
  unfold toldB; simp [and_assoc]

/-- where the error of a product is told -/
theorem prod_facts (a b p : Nat) (ha : a < 18446744073709551616) (hb : b < 18446744073709551616) (hp : Ieee.double.mul a b = some p) (ht : toldB a b p = true) :
    ∃ W hh lh hl ll, Pp (sv a) (sv b) W hh lh hl ll ∧ prodV a b = W ∧ sv p = rd W ∧ mg p < 9218868437227405312 ∧ p < 18446744073709551616 ∧ mulB a b = p ∧ W.natAbs ≤ 2 * mv 9200854038717923328 ∧ W ≠ 0 := by
  obtain ⟨h1, h2, h3, h4⟩ := (toldB_iff a b p).1 ht
  have fa : mg a < 9218868437227405312 := by omega
  have fb : mg b < 9218868437227405312 := by omega
  have hm := mul_d a b ha hb fa fb
  rw [← K_eq, hp] at hm
  have hm := Option.some.inj hm
  have hpl : p < 18446744073709551616 := by
    rw [hm]
    generalize rung 52 K (mv (mg a) * mv (mg b)) = r
    cases (ng a ^^ ng b) <;> simp <;> omega
  have hmp : mg p = min (rung 52 K (mv (mg a) * mv (mg b))) 9218868437227405312 := by
    rw [hm]
    generalize rung 52 K (mv (mg a) * mv (mg b)) = r
    have hl : min r 9218868437227405312 < 9223372036854775808 := by omega
    generalize min r 9218868437227405312 = q at *
    cases (ng a ^^ ng b)
    · simp only [Bool.false_eq_true, if_false]; exact mg_of_lt hl
    · simp only [if_true]; rw [mg_of_ge (by omega) (by omega)]; omega
  have hr : rung 52 K (mv (mg a) * mv (mg b)) = mg p := by
    rw [hmp] at h4 ⊢
    generalize rung 52 K (mv (mg a) * mv (mg b)) = r at *
    omega
  have hlow : 2 ^ 105 ≤ mv (rung 52 K (mv (mg a) * mv (mg b))) := by rw [hr, ← low969]; exact mv_le.2 h3
  have hkk := kk_ge _ _ hlow
  have nz : mg a ≠ 0 ∧ mg b ≠ 0 := by
    constructor
    · intro h0
      rw [h0, mv_zero, Nat.zero_mul] at hlow
      have hz : rung 52 K 0 = 0 := by decide +kernel
      rw [hz, mv_zero] at hlow
      omega
    · intro h0
      rw [h0, mv_zero, Nat.mul_zero] at hlow
      have hz : rung 52 K 0 = 0 := by decide +kernel
      rw [hz, mv_zero] at hlow
      omega
  obtain ⟨s, α, η, q1⟩ := sp_any a nz.1
  obtain ⟨t, β, θ, q2⟩ := sp_any b nz.2
  obtain ⟨W, hh, lh, hl, ll, P⟩ := pp_any _ _ _ _ _ _ _ _ _ _ q1 q2 hkk
  have hK : ((2 ^ K : Nat) : Int) ≠ 0 := by have := pow_pos K; omega
  have hpW := mul_W a b W ha hb fa fb P.eW
  rw [hp] at hpW
  have hpW := Option.some.inj hpW
  have fp : mg p < 9218868437227405312 := by omega
  have ep : sv p = rd W := by
    have := rn_fin' (ng a ^^ ng b) W (by rw [← hpW]; exact fp)
    rwa [← hpW] at this
  have hW0 : W ≠ 0 := by
    intro h0
    rw [h0, rd_exact isD_zero] at ep
    have := sv_abs p
    rw [ep] at this
    have h5 := mv_le.2 h3
    rw [low969] at h5
    have h6 : Int.natAbs 0 = 0 := rfl
    rw [h6] at this
    omega
  refine ⟨W, hh, lh, hl, ll, P, ?_, ep, fp, hpl, ?_, ?_, hW0⟩
  · unfold prodV; rw [P.eW]; exact Int.mul_ediv_cancel _ hK
  · rw [mulB_some hp]
    unfold canonB
    rw [isN_false.2 (by omega), if_neg (by decide), if_neg (by omega)]
  · have h5 := P.bW
    rw [← ep, sv_abs] at h5
    have h6 := mv_le.2 h4
    omega

/-- the way of Product -/
theorem prod_way (a b p : Nat) (ha : a < 18446744073709551616) (hb : b < 18446744073709551616) (hp : Ieee.double.mul a b = some p) (ht : toldB a b p = true) :
    ∃ p1 l1 p2 l2 p3 l3 p4 e, Ieee.double.mul (splitH a) (splitH b) = some p1 ∧ Ieee.double.sub p p1 = some l1 ∧ Ieee.double.mul (splitL a) (splitH b) = some p2 ∧ Ieee.double.sub l1 p2 = some l2 ∧
      Ieee.double.mul (splitH a) (splitL b) = some p3 ∧ Ieee.double.sub l2 p3 = some l3 ∧ Ieee.double.mul (splitL a) (splitL b) = some p4 ∧ Ieee.double.sub p4 l3 = some e ∧ e < 18446744073709551616 ∧ canonB e = prodE a b := by
  obtain ⟨W, hh, lh, hl, ll, P, eV, ep, fp, hpl, eM, bW, _⟩ := prod_facts a b p ha hb hp ht
  obtain ⟨h1, h2, _, _⟩ := (toldB_iff a b p).1 ht
  obtain ⟨⟨fah, eah⟩, fal, eal⟩ := split_sv a h1
  obtain ⟨⟨fbh, ebh⟩, fbl, ebl⟩ := split_sv b h2
  have t1 := top1020
  have hq : 0 < mv 9200854038717923328 := by
    have := mv_lt.2 (show 0 < 9200854038717923328 by omega)
    rw [mv_zero] at this; exact this
  have hE : prodE a b = rn false (W - rd W) := by unfold prodE; rw [eM, ht, if_pos rfl, eV, ep]
  have b1 := P.bhh
  have b2 := P.blh
  have b3 := P.bhl
  have b4 := P.bll
  have b5 := P.b1
  have b6 := P.b2
  have b7 := P.b3
  have m1 := mul_W _ _ hh (splitH_lt a ha) (splitH_lt b hb) fah fbh (by rw [eah, ebh]; exact P.ehh)
  have m2 := mul_W _ _ lh (splitL_lt a) (splitH_lt b hb) fal fbh (by rw [eal, ebh]; exact P.elh)
  have m3 := mul_W _ _ hl (splitH_lt a ha) (splitL_lt b) fah fbl (by rw [eah, ebl]; exact P.ehl)
  have m4 := mul_W _ _ ll (splitL_lt a) (splitL_lt b) fal fbl (by rw [eal, ebl]; exact P.ell)
  have f1 := fun z => rn_exact z hh P.dhh (by omega)
  have f2 := fun z => rn_exact z lh P.dlh (by omega)
  have f3 := fun z => rn_exact z hl P.dhl (by omega)
  have f4 := fun z => rn_exact z ll P.dll (by omega)
  have g1 := fun z => rn_exact z (rd W - hh) P.d1 (by omega)
  have g2 := fun z => rn_exact z (rd W - hh - lh) P.d2 (by omega)
  have g3 := fun z => rn_exact z (rd W - hh - lh - hl) P.d3 (by omega)
  generalize (ng (splitH a) ^^ ng (splitH b)) = z1 at m1
  generalize (ng (splitL a) ^^ ng (splitH b)) = z2 at m2
  generalize (ng (splitH a) ^^ ng (splitL b)) = z3 at m3
  generalize (ng (splitL a) ^^ ng (splitL b)) = z4 at m4
  have s1 := sub_d p _ hpl (rn_lt z1 hh) fp (f1 z1).1
  rw [ep, (f1 z1).2] at s1
  generalize (ng p && !ng (rn z1 hh)) = y1 at s1
  have s2 := sub_d _ _ (rn_lt y1 (rd W - hh)) (rn_lt z2 lh) (g1 y1).1 (f2 z2).1
  rw [(g1 y1).2, (f2 z2).2] at s2
  generalize (ng (rn y1 (rd W - hh)) && !ng (rn z2 lh)) = y2 at s2
  have s3 := sub_d _ _ (rn_lt y2 (rd W - hh - lh)) (rn_lt z3 hl) (g2 y2).1 (f3 z3).1
  rw [(g2 y2).2, (f3 z3).2] at s3
  generalize (ng (rn y2 (rd W - hh - lh)) && !ng (rn z3 hl)) = y3 at s3
  have s4 := sub_d _ _ (rn_lt z4 ll) (rn_lt y3 (rd W - hh - lh - hl)) (f4 z4).1 (g3 y3).1
  rw [(f4 z4).2, (g3 y3).2, P.sum] at s4
  generalize (ng (rn z4 ll) && !ng (rn y3 (rd W - hh - lh - hl))) = y4 at s4
  exact ⟨_, _, _, _, _, _, _, _, m1, s1, m2, s2, m3, s3, m4, s4, rn_lt _ _, by rw [hE]; exact canon_rn _ _⟩
end Go.Proofs.Ytgbaaafikphafaa
