/-
  Some of the texts of this proof, one behind the other.
-/
import Derived.Test.YtjgbaenihkplpaaDoorZ18
import Derived.Test.YtjgbaenihkplpaaDoorZ14
import Derived.Test.YtjgbaenihkplpaaDoorZ08
import Derived.Test.YtjgbaenihkplpaaDoorZ16
import Derived.Test.YtjgbaenihkplpaaDoorZ17
import Derived.Test.YtjgbaenihkplpaaDoorZ05
import Derived.Test.YtjgbaenihkplpaaDoorTie
import Derived.Test.YtjgbaenihkplpaaDoorCards
import Derived.ProofKit
import Derived.LaidMore
import Derived.OpenShut
import Derived.Stop.Joined
import Derived.Carry
import Derived.Lib.SmallJoins
import Derived.WalkLawsBesides
/-
  A cell that is filled comes to its level: the floats (no program).
-/
namespace Go.Proofs.YtjgbaenihkplpaaDoor
open Tf Ieee
def Ec : Nat := 993
theorem mv_c29 : 536870912 * mv 4476578029606273024 = one := by
  have h := mv_two_pow Ec 4476578029606273024 (by decide)
  have k : K = 52 + Ec + 29 := by decide
  rw [h, one_pow, k, Nat.pow_add 2 (52 + Ec) 29, Nat.mul_comm]
theorem mv_w20 : mv 4697254411347427328 = 1048576 * one := by
  have h := mv_from_one 20 4697254411347427328 (by decide)
  have e : (2 : Nat) ^ 20 = 1048576 := by decide
  rw [e] at h; exact h
theorem mv_w22 : mv 4706261610602168320 = 4194304 * one := by
  have h := mv_from_one 22 4706261610602168320 (by decide)
  have e : (2 : Nat) ^ 22 = 4194304 := by decide
  rw [e] at h; exact h
theorem mv_w53 : mv 4845873199050653696 = 9007199254740992 * one := by
  have h := mv_from_one 53 4845873199050653696 (by decide)
  have e : (2 : Nat) ^ 53 = 9007199254740992 := by decide
  rw [e] at h; exact h
theorem sv_20 {b : Nat} (h1 : rk b ≤ 4697254411347427328) (h2 : -4697254411347427328 ≤ rk b) : -(1048576 * (one : Int)) ≤ sv b ∧ sv b ≤ 1048576 * (one : Int) := by
  have a := (sv_le_iff b 4697254411347427328).2 (by rw [show rk 4697254411347427328 = 4697254411347427328 by decide]; exact h1)
  have c := (sv_le_iff 13920626448202203136 b).2 (by rw [show rk 13920626448202203136 = -4697254411347427328 by decide]; exact h2)
  have e1 : sv 4697254411347427328 = (mv 4697254411347427328 : Nat) := sv_nn (by decide)
  have e2 : sv 13920626448202203136 = -((mv 4697254411347427328 : Nat) : Int) := by
    unfold sv
    rw [show ng 13920626448202203136 = true by decide, show mg 13920626448202203136 = 4697254411347427328 by decide]; rfl
  rw [e1, mv_w20] at a
  rw [e2, mv_w20] at c
  rw [Int.natCast_mul] at a c
  exact ⟨c, a⟩
theorem rn_le {z : Bool} {v : Int} {r : Nat} (h : v.natAbs ≤ mv r) (hr : r < 9218868437227405312) : mg (rn z v) ≤ r ∧ mg (rn z v) < 9218868437227405312 ∧ sv (rn z v) = rd v := by
  have a : rung 52 0 v.natAbs ≤ r := rung_le2 (d := 0) (by rw [Nat.pow_zero, Nat.mul_one]; exact h)
  have b : mg (rn z v) ≤ r := by rw [rn_mg]; omega
  exact ⟨b, by omega, rn_fin' z v (by omega)⟩
theorem up_le {m n a b c d : Nat} {M N : Int} (hM : (m : Int) = M) (hN : (n : Int) = N) (h : m * (a * b) ≤ n * (c * d)) : M * ((a : Int) * b) ≤ N * ((c : Int) * d) := by
  have := Int.ofNat_le.2 h
  rwa [Int.natCast_mul, Int.natCast_mul, Int.natCast_mul, Int.natCast_mul, hM, hN] at this
theorem up_le1 {m n a b c : Nat} {M N : Int} (hM : (m : Int) = M) (hN : (n : Int) = N) (h : m * (a * b) ≤ n * c) : M * ((a : Int) * b) ≤ N * (c : Int) := by
  have := Int.ofNat_le.2 h
  rwa [Int.natCast_mul, Int.natCast_mul, Int.natCast_mul, hM, hN] at this
theorem up_le2 {m n a c d : Nat} {M N : Int} (hM : (m : Int) = M) (hN : (n : Int) = N) (h : m * a ≤ n * (c * d)) : M * (a : Int) ≤ N * ((c : Int) * d) := by
  have := Int.ofNat_le.2 h
  rwa [Int.natCast_mul, Int.natCast_mul, Int.natCast_mul, hM, hN] at this
theorem up_eq {m a b : Nat} {M : Int} (hM : (m : Int) = M) (h : m * a = b) : M * (a : Int) = b := by
  rw [← h, Int.natCast_mul, hM]
theorem mv_1 : mv 4607182418800017408 = one := rfl
theorem comes {b l : Nat} {A : Int} (hb : b < 18446744073709551616) (hl : l < 18446744073709551616) (nb : isN b = false) (nl : isN l = false)
    (b1 : rk b ≤ 4697254411347427328) (b2 : -4697254411347427328 ≤ rk b) (l1 : rk l ≤ 4697254411347427328) (l2 : -4697254411347427328 ≤ rk l) (A1 : 1 ≤ A) (A2 : A ≤ 2147483648) (w0 : fil b A l ≠ 0) (w1 : fil b A l ≠ 4503599627370496) :
    mg (lvl b (fil b A l) A) < 9218868437227405312 ∧ sv (lvl b (fil b A l) A) - sv l ≤ (mv (dvB 4607182418800017408 (fw A)) : Int) + (mv 4476578029606273024 : Nat) ∧ -((mv (dvB 4607182418800017408 (fw A)) : Int) + (mv 4476578029606273024 : Nat)) ≤ sv (lvl b (fil b A l) A) - sv l := by
  have win := fil_in (a := A) hl hb (by omega)
  have g : fgt l b = true := by
    cases k : fgt l b
    · exact absurd (fil_no (.inl k)) w0
    · rfl
  have k := ((fgt_iff hl hb).1 g).2.2
  have fb : mg b < 9218868437227405312 := by
    have := isN_false.1 nb
    unfold rk at b1 b2
    split at b1 <;> split at b2 <;> omega
  have fl : mg l < 9218868437227405312 := by
    have := isN_false.1 nl
    unfold rk at l1 l2
    split at l1 <;> split at l2 <;> omega
  have sb := sv_20 b1 b2
  have sl := sv_20 l1 l2
  have k2 := (sv_lt_iff b l).2 k
  have hu := onep
  -- how high
  have hv : sbB l b = rn false (sv l - sv b) := by
    have hn := negB_lt' hb
    unfold sbB
    rw [addB_fin l (negB b) hl hn fl (by rw [negB_mg hb]; exact fb), negB_sv hb]
    rfl
  have h22 : (mv 4706261610602168320 : Int) = 4194304 * one := by rw [mv_w22, Int.natCast_mul]; rfl
  have hh := rn_le (z := false) (v := sv l - sv b) (r := 4706261610602168320) (by omega) (by decide)
  have hnn : rn false (sv l - sv b) < 9223372036854775808 := by rw [rn_nn (by omega)]; have := R_top (sv l - sv b); omega
  have he := rd_err (sv l - sv b)
  rw [← hh.2.2, sv_nn hnn] at he
  have hle : rn false (sv l - sv b) ≤ 4706261610602168320 := by have := hh.1; rwa [mg_of_lt hnn] at this
  rw [← hv] at he hle
  have hpos := (hi_in hl hb nl nb k).1
  have hcomes := w0
  rw [fil_yes g A1] at w0 w1 win ⊢
  clear hv hh hnn hcomes
  generalize sbB l b = h at *
  -- the product
  obtain ⟨a, ea⟩ := Int.eq_ofNat_of_zero_le (show 0 ≤ A by omega)
  have fA := fw_in A1 (by omega)
  have mA := mv_fw A1 (by omega)
  have mA' : mv (fw A) = a * one := by
    rw [ea, ← Int.natCast_mul] at mA
    rw [ea]
    exact Int.ofNat.inj mA
  have pw : mlB h (fw A) = min (rung 52 0 (mv h * a)) 9218868437227405312 := by
    rw [ml_word (by omega) (by omega), mA', ← Nat.mul_assoc, one_pow]
    have s := rung_scale 52 0 K (mv h * a)
    rw [Nat.zero_add] at s
    exact congrArg (min · 9218868437227405312) s
  have pE := rE (mv h * a)
  have pr : rung 52 0 (mv h * a) ≤ 4845873199050653696 := by
    refine rung_le2 (d := 0) ?_
    rw [Nat.pow_zero, Nat.mul_one, mv_w53]
    have m1 : mv h ≤ 4194304 * one := by have := mv_le.2 hle; rwa [mv_w22] at this
    have m2 := Nat.mul_le_mul m1 (show a ≤ 2147483648 by omega)
    refine Nat.le_trans m2 ?_
    rw [Nat.mul_right_comm]
    exact Nat.mul_le_mul_right one (by decide)
  rw [Nat.min_eq_left (by omega)] at pw
  rw [pw] at w0 w1 win ⊢
  generalize rung 52 0 (mv h * a) = P at *
  -- the whole number
  have nP : isN P = false := isN_false.2 (by rw [mg_of_lt (by omega)]; omega)
  have rP : rk P = P := rk_pos P (by omega)
  have cw := clampB_num P 4503599627370496 (by omega) nP
  rw [rP, if_neg (by omega), if_pos (by omega), show clampM 4503599627370496 = 4503599627370496 by decide] at cw
  have cq : cq .even P = clampB P 4503599627370496 := by omega
  have ev := even_near P
  rw [cq, sv_nn (d := P) (by omega)] at ev
  clear cw cq
  generalize clampB P 4503599627370496 = w at *
  have w2 : 1 ≤ w := by omega
  have mw := mv_fw w2 (by omega)
  -- the depth
  have dE := dv_err (fw_Qn w2 (by omega) A1 (by omega))
  have dI := dq_in (fw_Qn w2 (by omega) A1 (by omega))
  have f1 : fw 1 = 4607182418800017408 := by rw [fw_R (by omega), Int.one_mul, R_one]; rfl
  have qE := (dv_err (fw_Qn (n := 1) (by omega) (by omega) A1 (by omega))).1
  rw [f1, mv_1] at qE
  unfold lvl
  rw [dp_of w2 A1]
  generalize dvB (fw w) (fw A) = D at *
  generalize dvB 4607182418800017408 (fw A) = Q at *
  -- the level
  have hL := addB_fin b D hb (by omega) fb (by rw [mg_of_lt (by omega)]; omega)
  rw [sv_nn (d := D) (by omega)] at hL
  have m17 : mv 9151314442816847872 = 2 * mv 9146810843189477376 := mv_dbl (r := 9146810843189477376) (by decide)
  have dle := mv_le.2 dI.2
  have wle : mv 4697254411347427328 ≤ mv 9146810843189477376 := mv_le.2 (by decide)
  have w20 : (mv 4697254411347427328 : Int) = 1048576 * one := by rw [mv_w20, Int.natCast_mul]; rfl
  have hLL := rn_le (z := false) (v := sv b + (mv D : Nat)) (r := 9151314442816847872) (by rw [m17]; omega) (by decide)
  have lE := rd_err (sv b + (mv D : Nat))
  rw [← hLL.2.2] at lE
  rw [hL]
  refine ⟨hLL.2.1, ?_⟩
  clear hL m17 dle wle w20 hLL
  generalize sv (rn false (sv b + (mv D : Nat))) = L at *
  have a1 : (1 : Int) ≤ a := by omega
  have a0 : (0 : Int) ≤ a := by omega
  have ma : ∀ x y : Int, x ≤ y → x * a ≤ y * a := fun x y h => Int.mul_le_mul_of_nonneg_right h a0
  have cu : ∀ x y : Int, x * one ≤ y * one → x ≤ y := fun x y h => Int.le_of_mul_le_mul_right h hu
  rw [Int.natAbs_natCast] at he
  have e1 := ma _ _ he.1
  have e2 := ma _ _ he.2
  have e9 := ma _ _ lE.1
  have e10 := ma _ _ lE.2
  have p1 := ma _ _ sb.1
  have p2 := ma _ _ sb.2
  have p3 := ma _ _ sl.1
  have p4 := ma _ _ sl.2
  have e3 : 9007199254740992 * ((mv h : Int) * a) ≤ 9007199254740993 * (mv P : Int) := up_le1 rfl rfl pE.1
  have e4 : 9007199254740991 * (mv P : Int) ≤ 9007199254740992 * ((mv h : Int) * a) := up_le2 rfl rfl pE.2
  have k1 : (mv (fw A) : Int) = (a : Int) * one := by rw [mA', Int.natCast_mul]
  have pk : ((2 ^ K : Nat) : Int) = one := by rw [one_pow]
  have e7 : 9007199254740992 * (w * one) ≤ 9007199254740993 * ((mv D : Int) * a) := by
    have h : 9007199254740992 * ((mv (fw w) : Int) * ((2 ^ K : Nat) : Int)) ≤ 9007199254740993 * ((mv D : Int) * (mv (fw A) : Int)) := up_le rfl rfl dE.1
    rw [mw, k1, pk, ← Int.mul_assoc, ← Int.mul_assoc (mv D : Int), ← Int.mul_assoc 9007199254740993] at h
    exact cu _ _ h
  have e8 : 9007199254740991 * ((mv D : Int) * a) ≤ 9007199254740992 * (w * one) := by
    have h : 9007199254740991 * ((mv D : Int) * (mv (fw A) : Int)) ≤ 9007199254740992 * ((mv (fw w) : Int) * ((2 ^ K : Nat) : Int)) := up_le rfl rfl dE.2
    rw [mw, k1, pk, ← Int.mul_assoc 9007199254740992, ← Int.mul_assoc (mv D : Int), ← Int.mul_assoc 9007199254740991] at h
    exact cu _ _ h
  have e11 : 9007199254740992 * (one : Int) ≤ 9007199254740993 * ((mv Q : Int) * a) := by
    have h : 9007199254740992 * ((one : Int) * ((2 ^ K : Nat) : Int)) ≤ 9007199254740993 * ((mv Q : Int) * (mv (fw A) : Int)) := by
      generalize hone : one = o at qE ⊢
      generalize 2 ^ K = kk at qE ⊢
      exact up_le rfl rfl qE
    rw [k1, pk, ← Int.mul_assoc, ← Int.mul_assoc (mv Q : Int), ← Int.mul_assoc 9007199254740993] at h
    exact cu _ _ h
  have e12 : 536870912 * ((mv 4476578029606273024 : Int) * a) = (one : Int) * a := by
    rw [← Int.mul_assoc]
    have hc := mv_c29
    generalize mv 4476578029606273024 = cc at hc ⊢
    generalize one = o at hc ⊢
    rw [up_eq (M := 536870912) rfl hc]
  have h9 : (one : Int) ≤ one * a := by
    have := Int.mul_le_mul_of_nonneg_left a1 (Int.le_of_lt hu)
    rwa [Int.mul_one] at this
  have na : (L.natAbs : Int) * a = ((L * a).natAbs : Int) := by rw [Int.natAbs_mul, Int.natAbs_natCast, Int.natCast_mul]
  rw [na] at e9 e10
  simp only [Int.neg_mul, Int.mul_assoc, Int.sub_mul, Int.add_mul] at e1 e2 e9 e10 p1 p2 p3 p4
  have fin := comes_lin one (one * a) (sv b * a) (sv l * a) (mv h * a) (mv P) (w * one) (mv D * a) (L * a) (mv Q * a) (mv 4476578029606273024 * a) hu h9 p1 p2 p3 p4 e1 e2 e3 e4 ev.1 ev.2.1 e7 e8 e9 e10 e11 e12
  have pa : (0 : Int) < a := by omega
  constructor
  · refine Int.le_of_mul_le_mul_right (a := (a : Int)) ?_ pa
    rw [Int.sub_mul, Int.add_mul]
    exact fin.1
  · refine Int.le_of_mul_le_mul_right (a := (a : Int)) ?_ pa
    rw [Int.sub_mul, Int.neg_mul, Int.add_mul]
    exact fin.2
theorem R_neg11 (v : Int) : R (-v) = -R v := by
  by_cases z : v = 0
  · subst z
    have e : R 0 = 0 := by
      unfold R
      rw [if_neg (by decide), show (0 : Int).natAbs = 0 from rfl, rung_none, Nat.zero_min]
      rfl
    rw [Int.neg_zero, e, Int.neg_zero]
  · unfold R
    rw [Int.natAbs_neg]
    generalize min (rung 52 0 v.natAbs) 9218868437227405312 = m
    by_cases c : v < 0
    · rw [if_pos c, if_neg (by omega), Int.neg_neg]
    · rw [if_neg c, if_pos (by omega)]
theorem rn_N (z : Bool) (v : Int) : isN (rn z v) = false := isN_false.2 (by rw [rn_mg]; exact Nat.min_le_right _ _)
/-- what is at most that far off is at most that far off when rounded -/
theorem near_cmp (z z' : Bool) {v m : Int} (h1 : v ≤ m) (h2 : -m ≤ v) : (flt (rn z v) (rn z' m) || feq (rn z v) (rn z' m)) = true ∧ (fgt (rn z v) (negB (rn z' m)) || feq (rn z v) (negB (rn z' m))) = true := by
  have hl := rn_lt z v
  have hl' := rn_lt z' m
  rw [fle_of hl hl' (rn_N z v) (rn_N z' m), fge_of hl (negB_lt' hl') (rn_N z v) (by rw [isN_neg]; exact rn_N z' m), rk_negB _ hl', rk_rn, rk_rn]
  have r1 := R_mono h1
  have r2 := R_mono h2
  have e : R (-m) = -R m := R_neg11 m
  exact ⟨decide_eq_true r1, decide_eq_true (by omega)⟩
end Go.Proofs.YtjgbaenihkplpaaDoor

/-
  Depths, levels and fills: what the program returns (walks), and that it is awake.
-/
namespace Go.Proofs.YtjgbaenihkplpaaDoor
open Go.RowKit Tf
attribute [local go_sem] run_bits run_from raw_feq raw_fne raw_flt raw_fgt run_neg
theorem isC_eq {r c : Nat} (h : IsC r c) (c0 : 0 < c) (c1 : c ≤ 9218868437227405312) : r = c := by
  have e := h.2
  unfold canonB at e
  split at e
  · unfold quiet at e; omega
  · split at e
    · omega
    · exact e
theorem isQ_eq {r c : Nat} (h : IsQ r c) (c1 : c ≤ 9218868437227405312) : r = c := by
  have e := h.2
  unfold qB at e
  split at e
  · unfold quiet at e; omega
  · exact e
theorem mg_nn11 {x : Nat} (h : x ≤ 9218868437227405312) : mg x ≤ 9218868437227405312 := by unfold mg; omega
theorem add_can {P : Program} (w : World) (s x : Nat) (hs : s < 18446744073709551616) (hx : x < 18446744073709551616) :
    ∃ r n, (∀ t, (binOp .add t (.float .f64 s) (.float .f64 x)).run P w = .ok (.float .f64 r) (w.drewN n)) ∧ IsC r (addB s x) := by
  cases e : Ieee.double.add s x with
  | none => exact ⟨nanOf w s x, 1, fun t => run_nan_add w t s x e, nanOf_lt _ _ _, by rw [addB_none e]; unfold canonB; rw [if_pos (isN_nanOf _ _ _)]⟩
  | some r => exact ⟨r, 0, fun t => run_float_arith w .add t .f64 s x r e, by
      have q := IsQ.add (IsQ.self hs) (IsQ.self hx) e
      exact q.1, by rw [addB_some e]⟩
theorem depth_no (n a : Int) (w : World) (h : n < 1 ∨ a < 1) :
    Calls Tryd.prog 16 #[.int .i64 n, .int .i64 a] w fun e w' => e = .returned (.float .f64 0) ∧ w' = w := by
  by_cases c : n < 1
  · go_enter Tryd.func16, Tryd.ntmps16
    go_wp2
    go_ret
    exact ⟨rfl, rfl⟩
  · have d : a < 1 := by omega
    clear h
    go_enter Tryd.func16, Tryd.ntmps16
    go_wp2
    go_ret
    exact ⟨rfl, rfl⟩
theorem depth_yes (n a : Int) (w : World) (h1 : 1 ≤ n) (h2 : 1 ≤ a) (n2 : n ≤ 9223372036854775807) (a2 : a ≤ 9223372036854775807) :
    Calls Tryd.prog 16 #[.int .i64 n, .int .i64 a] w fun e w' => e = .returned (.float .f64 (dpB n a)) ∧ ∃ k, w' = w.drewN k := by
  obtain ⟨r, k, hr, hc⟩ := div_any (P := Tryd.prog) w (fw n) (fw a)
  have e := isC_eq hc (by rw [← dp_of h1 h2]; have := dp_in h1 h2 n2 a2; omega) (by rw [← dp_of h1 h2]; have := dp_in h1 h2 n2 a2; omega)
  rw [dp_of h1 h2, ← e]
  clear e hc
  have F1 := hid (fromInt_any n w)
  have F2 := hid (fromInt_any a w)
  rw [show rn false (n * one) = fw n from rfl] at F1
  rw [show rn false (a * one) = fw a from rfl] at F2
  generalize fw n = x at *
  generalize fw a = y at *
  go_enter Tryd.func16, Tryd.ntmps16
  go_wp2_with fail
  refine F1.out.mono ?_
  rintro e w' ⟨rfl, rfl⟩
  go_wp2_with fail
  refine F2.out.mono ?_
  rintro e w' ⟨rfl, rfl⟩
  go_wp2
  go_ret
  exact ⟨rfl, k, rfl⟩
theorem depth_at (n a : Int) (w : World) (n2 : n ≤ 9223372036854775807) (a2 : a ≤ 9223372036854775807) :
    Calls Tryd.prog 16 #[.int .i64 n, .int .i64 a] w fun e w' => e = .returned (.float .f64 (dpB n a)) ∧ ∃ k, w' = w.drewN k := by
  by_cases c : n < 1 ∨ a < 1
  · rw [dp_zero c]
    exact (depth_no n a w c).mono fun _ _ h => ⟨h.1, 0, h.2⟩
  · exact depth_yes n a w (by omega) (by omega) n2 a2
theorem level_at (b : Nat) (n a : Int) (w : World) (hb : b < 18446744073709551616) (n2 : n ≤ 9223372036854775807) (a2 : a ≤ 9223372036854775807) :
    Calls Tryd.prog 19 #[.float .f64 b, .int .i64 n, .int .i64 a] w fun e w' => e = .returned (.float .f64 (lvl b n a)) ∧ ∃ k, w' = w.drewN k := by
  have D := hid (depth_at n a w n2 a2)
  have e0 : lvl b n a = addB b (dpB n a) := rfl
  rw [e0]
  have hd : dpB n a < 18446744073709551616 := by have := dp_le n2 a2; omega
  clear e0
  generalize dpB n a = d at *
  have AD : Hid (∀ k : Nat, ∃ r m, (∀ t, (binOp .add t (.float .f64 b) (.float .f64 d)).run Tryd.prog (w.drewN k) = .ok (.float .f64 r) ((w.drewN k).drewN m)) ∧ IsC r (addB b d)) := fun k => add_can _ b d hb hd
  generalize addB b d = y at *
  go_enter Tryd.func19, Tryd.ntmps19
  go_wp2_with fail
  refine D.out.mono ?_
  rintro e w' ⟨rfl, k, rfl⟩
  obtain ⟨r, m, hr, hc⟩ := AD.out k
  have C := hid (canon_any r (w.drewN (k + m)) hc.1)
  rw [hc.2] at C
  go_wp2_with fail
  refine C.out.mono ?_
  rintro e w' ⟨rfl, rfl⟩
  go_wp2
  go_ret
  exact ⟨rfl, k + m, rfl⟩
theorem aw11_1 : dpB 3 2 = 4609434218613702656 := by decide +kernel
theorem aw11_2 : lvl 13836183955189006336 3 2 = 13830554455654793216 := by decide +kernel
theorem aw11_3 : fil 0 10 4608308318706860032 = 12 := by decide +kernel
theorem aw11_4 : fil 0 10 4608758678669597082 = 14 := by decide +kernel
end Go.Proofs.YtjgbaenihkplpaaDoor

/-
  The depth over an edge at all arguments: what the program returns.
-/
namespace Go.Proofs.YtjgbaenihkplpaaDoor
open Go.RowKit Tf Cu
set_option maxRecDepth 100000 in
theorem dp12_go {n gb : Nat} (k : Int) (bb bo wb wo cb cw : Nat) (pt ps : Option Addr) (lt ct ls cs : Nat) (sky st : Int) {B : Nat → Nat} {Wt : Nat → Int} {U D K : Nat} (e : Int) (u : Nat) (w : World) (hn : 1 ≤ n ∧ n ≤ 32) (cU : U < 6 * n * n) (cD : D < 6 * n * n) (cK : K < 6 * n * n) (g : GridOf n gb w)
    (hB : IsFl w (some ⟨bb, bo, none⟩) (6 * n * n) B) (hW : IsIn w (some ⟨wb, wo, none⟩) (6 * n * n) Wt)
    (CF : Hid (∀ v, Ab w v → Calls Tryd.prog 27 #[.pointer (some ⟨gb, 0, none⟩), .agg #[.slice (some ⟨bb, bo, none⟩) (6 * n * n) cb, .slice (some ⟨wb, wo, none⟩) (6 * n * n) cw, .slice pt lt ct, .slice ps ls cs, .int .i64 sky, .int .i64 st]] v fun e w' => e = .returned (.bool true) ∧ Below v.heap.size v w'))
    (CW : Hid (∀ v, Ab w v → Calls Tryd.prog 28 #[.pointer (some ⟨gb, 0, none⟩), .int .i64 e, .float .f64 u] v fun e w' => e = .returned (.tuple #[.agg #[.int .i64 (U : Nat), .int .i64 (D : Nat), .int .i64 (K : Nat)], .bool true]) ∧ Below v.heap.size v w')) :
    Calls Tryd.prog 11 #[.pointer (some ⟨gb, 0, none⟩), .int .i64 k, .agg #[.slice (some ⟨bb, bo, none⟩) (6 * n * n) cb, .slice (some ⟨wb, wo, none⟩) (6 * n * n) cw, .slice pt lt ct, .slice ps ls cs, .int .i64 sky, .int .i64 st], .int .i64 e, .float .f64 u] w fun e w' => e = .returned (.float .f64 (ovC k (arC n) B Wt U D K)) ∧ Below w.heap.size w w' := by
  have bU := hB.at0 cU
  have bD := hB.at0 cD
  have wU := hW.at0 cU
  have wD := hW.at0 cD
  have wK := hW.at0 cK
  unfold ovC rcR
  have FW : ∀ v, Ab w v → v.cell? ⟨wb, wo + U, none⟩ = some (.int .i64 (Wt U)) ∧ v.cell? ⟨bb, bo + U, none⟩ = some (.float .f64 (B U)) ∧ v.cell? ⟨bb, bo + D, none⟩ = some (.float .f64 (B D)) := fun v hv =>
    ⟨(Below.cell hv wU.2.1).trans wU.2.2, (Below.cell hv bU.2.1).trans bU.2.2, (Below.cell hv bD.2.1).trans bD.2.2⟩
  have DU : ∀ v, Ab w v → Calls Tryd.prog 59 #[.pointer (some ⟨gb, 0, none⟩), .agg #[.slice (some ⟨bb, bo, none⟩) (6 * n * n) cb, .slice (some ⟨wb, wo, none⟩) (6 * n * n) cw, .slice pt lt ct, .slice ps ls cs, .int .i64 sky, .int .i64 st], .int .i64 (U : Nat)] v fun e w' => e = .returned (.float .f64 (dpB (Wt U) (arC n U))) ∧ Below v.heap.size v w' := (fun v hv => dof12_at (.pointer (some ⟨gb, 0, none⟩)) bb bo wb wo (6 * n * n) cb cw pt ps lt ct ls cs sky st U (Wt U) (arC n U) _ v (by omega) (fun z hz => (Below.cell (hv.trans hz) wU.2.1).trans wU.2.2) (fun z hz => gArea_ok hn cU (g.to (hv.trans hz))) (fun z => (depth_at _ _ z wU.1 (arC_in n _).2).mono fun _ _ h => ⟨h.1, by obtain ⟨_, j, rfl⟩ := h; exact below_drewN (Below.refl _ _) j⟩))
  have DK : ∀ v, Ab w v → Calls Tryd.prog 59 #[.pointer (some ⟨gb, 0, none⟩), .agg #[.slice (some ⟨bb, bo, none⟩) (6 * n * n) cb, .slice (some ⟨wb, wo, none⟩) (6 * n * n) cw, .slice pt lt ct, .slice ps ls cs, .int .i64 sky, .int .i64 st], .int .i64 (K : Nat)] v fun e w' => e = .returned (.float .f64 (dpB (Wt K) (arC n K))) ∧ Below v.heap.size v w' := (fun v hv => dof12_at (.pointer (some ⟨gb, 0, none⟩)) bb bo wb wo (6 * n * n) cb cw pt ps lt ct ls cs sky st K (Wt K) (arC n K) _ v (by omega) (fun z hz => (Below.cell (hv.trans hz) wK.2.1).trans wK.2.2) (fun z hz => gArea_ok hn cK (g.to (hv.trans hz))) (fun z => (depth_at _ _ z wK.1 (arC_in n _).2).mono fun _ _ h => ⟨h.1, by obtain ⟨_, j, rfl⟩ := h; exact below_drewN (Below.refl _ _) j⟩))
  have DD : ∀ v, Ab w v → Calls Tryd.prog 59 #[.pointer (some ⟨gb, 0, none⟩), .agg #[.slice (some ⟨bb, bo, none⟩) (6 * n * n) cb, .slice (some ⟨wb, wo, none⟩) (6 * n * n) cw, .slice pt lt ct, .slice ps ls cs, .int .i64 sky, .int .i64 st], .int .i64 (D : Nat)] v fun e w' => e = .returned (.float .f64 (dpB (Wt D) (arC n D))) ∧ Below v.heap.size v w' := (fun v hv => dof12_at (.pointer (some ⟨gb, 0, none⟩)) bb bo wb wo (6 * n * n) cb cw pt ps lt ct ls cs sky st D (Wt D) (arC n D) _ v (by omega) (fun z hz => (Below.cell (hv.trans hz) wD.2.1).trans wD.2.2) (fun z hz => gArea_ok hn cD (g.to (hv.trans hz))) (fun z => (depth_at _ _ z wD.1 (arC_in n _).2).mono fun _ _ h => ⟨h.1, by obtain ⟨_, j, rfl⟩ := h; exact below_drewN (Below.refl _ _) j⟩))
  have fU : dpB (Wt U) (arC n U) < 9218868437227405312 := by have := dp_le wU.1 (arC_in n U).2; omega
  have fK : dpB (Wt K) (arC n K) < 9218868437227405312 := by have := dp_le wK.1 (arC_in n K).2; omega
  have fD : dpB (Wt D) (arC n D) < 9218868437227405312 := by have := dp_le wD.1 (arC_in n D).2; omega
  have hx := minus_some fU fK
  have hy := minus_some fD fU
  have lx := (sub_isC (by omega) hx (by omega)).1
  have ly := (sub_isC (by omega) hy (by omega)).1
  have sN := slp_N k (sbB (dpB (Wt U) (arC n U)) (dpB (Wt K) (arC n K))) (sbB (dpB (Wt D) (arC n D)) (dpB (Wt U) (arC n U)))
  have sl := slp_lt k (sbB (dpB (Wt U) (arC n U)) (dpB (Wt K) (arC n K))) (sbB (dpB (Wt D) (arC n D)) (dpB (Wt U) (arC n U)))
  have hm := half_some sl sN
  have hf := half_N sl sN
  have hv0 := plus_some fU hf.2 hf.1
  have vl := rcV_lt (k := k) (hb := dpB (Wt K) (arC n K)) (hd := dpB (Wt D) (arC n D)) fU
  have ll := lvl_lt (b := B U) (w := Wt U) (a := arC n U) bU.1 wU.1 (arC_in n _).2
  have ml := maxB_lt (a := B U) (b := B D) bU.1 bD.1
  cases hs : Ieee.double.sub (lvl (B U) (Wt U) (arC n U)) (maxB (B U) (B D)) with
  | some z =>
    have hc := sub_isC ml hs ll
    rw [show rcG (lvl (B U) (Wt U) (arC n U)) (B U) (B D) = sbB (lvl (B U) (Wt U) (arC n U)) (maxB (B U) (B D)) from rfl, ← pos0_c vl hc]
    exact dp12_some (.pointer (some ⟨gb, 0, none⟩)) bb bo wb wo (6 * n * n) cb cw pt ps lt ct ls cs sky st k e u w U D K _ _ _ CF CW
      (fun v hv => fwd12_at (.pointer (some ⟨gb, 0, none⟩)) bb bo wb wo (6 * n * n) cb cw pt ps lt ct ls cs sky st k U D K _ _ _ _ _ _ _ _ v (fun z hz => DU z (hv.trans hz)) (fun z hz => DK z (hv.trans hz)) (fun z hz => DD z (hv.trans hz)) (fun z => slope_at k _ _ z lx ly) (fun t w => run_float_arith w .sub t .f64 _ _ _ hx) (fun t w => run_float_arith w .sub t .f64 _ _ _ hy) (fun t w => run_float_arith w .mul t .f64 _ _ _ hm) (fun t w => run_float_arith w .add t .f64 _ _ _ hv0)) z
      (fun v hv => gate12_some_at (.pointer (some ⟨gb, 0, none⟩)) bb bo wb wo (6 * n * n) cb cw pt ps lt ct ls cs sky st U D K (Wt U) (arC n U) (B U) (B D) _ _ v (by omega) (by omega) (fun z hz => FW z (hv.trans hz)) (fun z hz => gArea_ok hn cU (g.to (hv.trans hz))) (fun z => (level_at _ _ _ z bU.1 wU.1 (arC_in n _).2).mono fun _ _ h => ⟨h.1, by obtain ⟨_, j, rfl⟩ := h; exact below_drewN (Below.refl _ _) j⟩) (fun z => (max_any _ _ z bU.1 bD.1).mono fun _ _ h => ⟨h.1, by obtain ⟨_, rfl⟩ := h; exact Below.refl _ _⟩) z (fun t w => run_float_arith w .sub t .f64 _ _ _ hs)) (fun v => (min_any _ _ v vl hc.1).mono fun _ _ h => ⟨h.1, by obtain ⟨_, rfl⟩ := h; exact Below.refl _ _⟩) rfl
  | none =>
    have hN : isN (rcG (lvl (B U) (Wt U) (arC n U)) (B U) (B D)) = true := by
      unfold rcG sbB
      rw [addB_none (by rw [← sub_add _ _ ml]; exact hs)]
      decide
    rw [minB_nan (.inr hN)]
    exact dp12_none (.pointer (some ⟨gb, 0, none⟩)) bb bo wb wo (6 * n * n) cb cw pt ps lt ct ls cs sky st k e u w U D K _ _ _ CF CW
      (fun v hv => fwd12_at (.pointer (some ⟨gb, 0, none⟩)) bb bo wb wo (6 * n * n) cb cw pt ps lt ct ls cs sky st k U D K _ _ _ _ _ _ _ _ v (fun z hz => DU z (hv.trans hz)) (fun z hz => DK z (hv.trans hz)) (fun z hz => DD z (hv.trans hz)) (fun z => slope_at k _ _ z lx ly) (fun t w => run_float_arith w .sub t .f64 _ _ _ hx) (fun t w => run_float_arith w .sub t .f64 _ _ _ hy) (fun t w => run_float_arith w .mul t .f64 _ _ _ hm) (fun t w => run_float_arith w .add t .f64 _ _ _ hv0))
      (fun v hv => gate12_none_at (.pointer (some ⟨gb, 0, none⟩)) bb bo wb wo (6 * n * n) cb cw pt ps lt ct ls cs sky st U D K (Wt U) (arC n U) (B U) (B D) _ _ v (by omega) (by omega) (fun z hz => FW z (hv.trans hz)) (fun z hz => gArea_ok hn cU (g.to (hv.trans hz))) (fun z => (level_at _ _ _ z bU.1 wU.1 (arC_in n _).2).mono fun _ _ h => ⟨h.1, by obtain ⟨_, j, rfl⟩ := h; exact below_drewN (Below.refl _ _) j⟩) (fun z => (max_any _ _ z bU.1 bD.1).mono fun _ _ h => ⟨h.1, by obtain ⟨_, rfl⟩ := h; exact Below.refl _ _⟩) (fun t w => run_nan_sub w t _ _ hs)) (fun z hz1 hz2 v => by
        have h := min_any (rcV k (dpB (Wt U) (arC n U)) (dpB (Wt K) (arC n K)) (dpB (Wt D) (arC n D))) z v vl hz1
        rw [minB_nan (.inr hz2)] at h
        exact (h).mono fun _ _ h => ⟨h.1, by obtain ⟨_, rfl⟩ := h; exact Below.refl _ _⟩) rfl
theorem depthC : DepthC := by
  intro n gb k pb lb cb B pw lw cw Wt pt lt ct ps ls cs sky st e u w hn g hB hW hu
  have CC : Hid (∀ v, Ab w v → Calls Tryd.prog 21 #[.pointer (some ⟨gb, 0, none⟩)] v fun e w' => e = .returned (.int .i64 (6 * n * n : Nat)) ∧ Below v.heap.size v w') := fun v hv => (gCells_at (g.to hv)).mono fun _ _ h => ⟨h.1, by obtain ⟨_, rfl⟩ := h; exact Below.refl _ _⟩
  by_cases c : lb = 6 * n * n ∧ lw = 6 * n * n
  · obtain ⟨rfl, rfl⟩ := c
    have CF : Hid (∀ v, Ab w v → Calls Tryd.prog 27 #[.pointer (some ⟨gb, 0, none⟩), .agg #[.slice pb (6 * n * n) cb, .slice pw (6 * n * n) cw, .slice pt lt ct, .slice ps ls cs, .int .i64 sky, .int .i64 st]] v fun e w' => e = .returned (.bool true) ∧ Below v.heap.size v w') := fun v hv => fit12_at (.pointer (some ⟨gb, 0, none⟩)) pb pw pt ps _ cb _ cw lt ct ls cs sky st (6 * n * n) true v (.inr ⟨by simp, by simp⟩) (fun z hz => CC.out z (hv.trans hz))
    cases h : inR e (12 * n * n : Nat) with
    | false =>
      rw [rdAll_no (fun q => by rw [h] at q; exact absurd q.1 (by decide))]
      exact dp12_noway (.pointer (some ⟨gb, 0, none⟩)) pb pw pt ps _ cb _ cw lt ct ls cs sky st k e u w CF (fun v hv => wo12_no (.pointer (some ⟨gb, 0, none⟩)) e u v (fun z hz => gEdge_no h (g.to (hv.trans hz))))
    | true =>
      obtain ⟨E, rfl, hE⟩ := inR_nat h
      obtain ⟨t1, t2, t3⟩ := edT_spec hn.1 hE
      rw [← t3]
      have mtd := mt_dec hn.1 t1
      have cL := t_cell t1
      have cR : bsC n (edT n E / 4) (edT n E % 4) < 6 * n * n := by rw [← mtd.1]; exact t_cell (mt_lt hn.1 t1)
      have cp : bsC n (edT n E / 4) ((edT n E % 4 + 2) % 4) < 6 * n * n := bk_lt hn.1 t1
      have cq : bsC n (bsC n (edT n E / 4) (edT n E % 4)) ((bsS n (edT n E / 4) (edT n E % 4) + 2) % 4) < 6 * n * n := by
        have := bk_lt hn.1 (mt_lt hn.1 t1)
        unfold bkC at this
        rwa [mtd.1, mtd.2] at this
      obtain ⟨bb, bo, rfl⟩ := hB.some0 (six_pos hn.1)
      obtain ⟨wb, wo, rfl⟩ := hW.some0 (six_pos hn.1)
      rw [rdAll_eN hn.1 t1 t2]
      cases p : fgt u 0 with
      | true =>
        have e : sdD n k (arC n) B Wt (edT n E) = ovC k (arC n) B Wt (edT n E / 4) (bsC n (edT n E / 4) (edT n E % 4)) (bsC n (edT n E / 4) ((edT n E % 4 + 2) % 4)) := by
          unfold sdD
          rw [mtd.1]; rfl
        rw [rdT_p p, e]
        exact dp12_go k bb bo wb wo cb cw pt ps lt ct ls cs sky st _ u w hn cL cR cp g hB hW CF (fun v hv => wo12_pos (.pointer (some ⟨gb, 0, none⟩)) _ u _ _ _ _ _ _ v p (fun z hz => gEdge_ok hn t1 t2 (g.to (hv.trans hz))) (fun z hz => gBehind_ok hn t1 t2 (g.to (hv.trans hz))))
      | false =>
        cases q : flt u 0 with
        | true =>
          have e : sdD n k (arC n) B Wt (mt n (edT n E)) = ovC k (arC n) B Wt (bsC n (edT n E / 4) (edT n E % 4)) (edT n E / 4) (bsC n (bsC n (edT n E / 4) (edT n E % 4)) ((bsS n (edT n E / 4) (edT n E % 4) + 2) % 4)) := by
            unfold sdD
            rw [mt_mt hn.1 t1, mtd.1]; unfold bkC; rw [mtd.1, mtd.2]
          rw [rdT_n p q, e]
          exact dp12_go k bb bo wb wo cb cw pt ps lt ct ls cs sky st _ u w hn cR cL cq g hB hW CF (fun v hv => wo12_neg (.pointer (some ⟨gb, 0, none⟩)) _ u _ _ _ _ _ _ v p q (fun z hz => gEdge_ok hn t1 t2 (g.to (hv.trans hz))) (fun z hz => gBehind_ok hn t1 t2 (g.to (hv.trans hz))))
        | false =>
          rw [rdT_0 p q]
          exact dp12_noway (.pointer (some ⟨gb, 0, none⟩)) (some ⟨bb, bo, none⟩) (some ⟨wb, wo, none⟩) pt ps _ cb _ cw lt ct ls cs sky st k _ u w CF (fun v hv => wo12_still (.pointer (some ⟨gb, 0, none⟩)) _ u _ _ _ _ _ _ v p q (fun z hz => gEdge_ok hn t1 t2 (g.to (hv.trans hz))) (fun z hz => gBehind_ok hn t1 t2 (g.to (hv.trans hz))))
  · rw [rdAll_no (fun q => c q.2)]
    refine dp12_nofit (.pointer (some ⟨gb, 0, none⟩)) pb pw pt ps lb cb lw cw lt ct ls cs sky st k e u w (fun v hv => fit12_at (.pointer (some ⟨gb, 0, none⟩)) pb pw pt ps lb cb lw cw lt ct ls cs sky st (6 * n * n) false v ?_ (fun z hz => CC.out z (hv.trans hz)))
    by_cases c1 : lb = 6 * n * n
    · exact .inr ⟨by rw [c1]; simp, by rw [beq_eq_false_iff_ne]; omega⟩
    · exact .inl ⟨by rw [beq_eq_false_iff_ne]; omega, rfl⟩
end Go.Proofs.YtjgbaenihkplpaaDoor

/-
  Over a flat bed: the statement's call at all inputs.
-/
namespace Go.Proofs.YtjgbaenihkplpaaDoor
open Go.RowKit Tf Cu
theorem slp_0 (a b : Nat) : slp 0 a b = 0 := by
  have l : ∀ x y, lm 0 x y = 0 := fun x y => by unfold lm; rw [if_neg (by decide), if_neg (by decide), if_neg (by decide)]
  unfold slp
  rw [l, l]
  split
  · rfl
  · split
    · rfl
    · rfl
theorem fge_nn12 {a b : Nat} (ha : a ≤ 9218868437227405312) (hb : b ≤ 9218868437227405312) : (fgt a b || feq a b) = decide (b ≤ a) := by
  rw [fgt_nn ha hb, feq_nn ha hb, Bool.eq_iff_iff]
  simp
  omega
theorem fle_nn12 {a b : Nat} (ha : a ≤ 9218868437227405312) (hb : b ≤ 9218868437227405312) : (flt a b || feq a b) = decide (a ≤ b) := by
  rw [flt_nn ha hb, feq_nn ha hb, Bool.eq_iff_iff]
  simp
  omega
/-- what is asked of depths over a flat bed -/
theorem flat_all {k : Int} {h hk hd : Nat} (fh : h = 0 ∨ (9007199254740992 ≤ h ∧ h < 9218868437227405312)) (fk : hk < 9218868437227405312) (fd : hd < 9218868437227405312) :
    (flt (pos0 (minB (rcV k h hk hd) h)) h || feq (pos0 (minB (rcV k h hk hd) h)) h) = true ∧ (k = 1 → (fgt (pos0 (minB (rcV k h hk hd) h)) (mlB 4602678819172646912 h) || feq (pos0 (minB (rcV k h hk hd) h)) (mlB 4602678819172646912 h)) = true) ∧
    (((fgt h hk || feq h hk) && (fgt h hd || feq h hd) || (flt h hk || feq h hk) && (flt h hd || feq h hd)) = true → pos0 (minB (rcV k h hk hd) h) = h) := by
  have hl : h < 9218868437227405312 := by omega
  refine ⟨flat_le (rcV_lt hl) hl, fun e => ?_, fun q => ?_⟩
  · subst e
    have f := flat_half fh fk fd
    rw [fge_nn12 f.2 (by omega), decide_eq_true f.1]
  · rw [fge_nn12 (by omega) (by omega), fge_nn12 (by omega) (by omega), fle_nn12 (by omega) (by omega), fle_nn12 (by omega) (by omega)] at q
    simp only [Bool.or_eq_true, Bool.and_eq_true, decide_eq_true_eq] at q
    exact flat_z hl (slp_turn k hl fk fd q)
theorem dp_norm {w a : Int} (w2 : w ≤ 9223372036854775807) (a2 : a ≤ 9223372036854775807) : dpB w a = 0 ∨ (9007199254740992 ≤ dpB w a ∧ dpB w a < 9218868437227405312) := by
  have := dp_low w2 a2
  omega
theorem ovC_flat (k : Int) (A : Nat → Int) (W : Nat → Int) (up down back : Nat) (w2 : W up ≤ 9223372036854775807) (a2 : A up ≤ 9223372036854775807) : ovC k A (fun _ => 0) W up down back = pos0 (minB (rcV k (dpB (W up) (A up)) (dpB (W back) (A back)) (dpB (W down) (A down))) (dpB (W up) (A up))) := by
  have h := dp_norm w2 a2
  exact flat_R k (by omega)
set_option maxRecDepth 100000 in
theorem flat12_at (DC : DepthC) (side lim : Int) {pb pw pt ps : Option Addr} {lb cb lw cw lt ct ls cs : Nat} {B : Nat → Nat} {Wt Tr : Nat → Int} {Sp : Nat → Nat} (sky st : Int) (e : Int) (w : World) (hF : Fr w) (sea : SeaAt w pb lb cb B pw lw cw Wt pt lt ct Tr ps ls cs Sp) :
    Calls Tryd.prog 5 #[.agg #[.int .i64 side, .int .i64 lim, .slice pb lb cb, .slice pw lw cw, .slice pt lt ct, .slice ps ls cs, .int .i64 sky, .int .i64 st], .int .i64 e] w fun e w' => e = .returned (.bool true) ∧ Below w.heap.size w w' := by
  have AWK : Hid (∀ v, Ab w v → Calls Tryd.prog 7 #[] v fun e w' => e = .returned (.bool true) ∧ Below v.heap.size v w') := fun v hv => awake12_at DC v (hF.to hv)
  rcases net12_cases side lim pb pw pt ps lb cb lw cw lt ct ls cs sky st w hF with ⟨n, hn, rfl, rfl, rfl, NT⟩ | NT
  · have en := edges_n hn
    have cn : 6 * n * n ≤ 6144 := by
      have h := Nat.mul_le_mul hn.2 hn.2
      rw [Nat.mul_assoc]
      omega
    obtain ⟨t1, t2, t3⟩ := edT_spec hn.1 (wi9_lt e en.1)
    have mtd := mt_dec hn.1 t1
    have hB := sea.bed
    have hW := sea.water
    obtain ⟨bb, bo, rfl⟩ := hB.some0 (six_pos hn.1)
    obtain ⟨wb, wo, rfl⟩ := hW.some0 (six_pos hn.1)
    have CC : Hid (∀ gb v, GridOf n gb v → Calls Tryd.prog 21 #[.pointer (some ⟨gb, 0, none⟩)] v fun e w' => e = .returned (.int .i64 (6 * n * n : Nat)) ∧ w' = v) := fun gb v g => gCells_at g
    have CE : Hid (∀ gb v, GridOf n gb v → Calls Tryd.prog 10 #[.pointer (some ⟨gb, 0, none⟩)] v fun e w' => e = .returned (.int .i64 (12 * n * n : Nat)) ∧ Below v.heap.size v w') := fun gb v g => (gEdges_at g).mono fun _ _ h => ⟨h.1, by obtain ⟨_, rfl⟩ := h; exact Below.refl _ _⟩
    have CW : Hid (∀ v : World, Calls Tryd.prog 9 #[.int .i64 e, .int .i64 (12 * n * n : Nat)] v fun e' w' => e' = .returned (.int .i64 (wi9 e (12 * n * n) : Nat)) ∧ Below v.heap.size v w') := fun v => (within12_at e (12 * n * n) v en).mono fun _ _ h => ⟨h.1, by obtain ⟨_, rfl⟩ := h; exact Below.refl _ _⟩
    have CD : ∀ k, ∀ b1 gb v, GridOf n gb v → Ab w v → v.rowIs b1 28 (6 * n * n) (fun _ => .float .f64 0) → Calls Tryd.prog 11 #[.pointer (some ⟨gb, 0, none⟩), .int .i64 k, .agg #[.slice (some ⟨b1, 0, none⟩) (6 * n * n) (6 * n * n), .slice (some ⟨wb, wo, none⟩) (6 * n * n) cw, .slice none 0 0, .slice none 0 0, .int .i64 0, .int .i64 0], .int .i64 (wi9 e (12 * n * n) : Nat), .float .f64 4607182418800017408] v fun e' w' => e' = .returned (.float .f64 (rdAll n k (6 * n * n) (6 * n * n) (fun _ => 0) Wt (wi9 e (12 * n * n) : Nat) 4607182418800017408)) ∧ Below v.heap.size v w' := fun k b1 gb v g a r => DC n gb k _ _ _ (fun _ => 0) _ _ cw Wt none 0 0 none 0 0 0 0 _ _ v hn g (rowIs.fl r (fun _ _ => by decide)) (sea.water.below a) (by decide)
    rw [← t3] at CW CD
    generalize edT n (wi9 e (12 * n * n)) = t at *
    have cL := t_cell t1
    have cR : (bsC n (t / 4) (t % 4)) < 6 * n * n := by rw [← mtd.1]; exact t_cell (mt_lt hn.1 t1)
    have cp : (bsC n (t / 4) ((t % 4 + 2) % 4)) < 6 * n * n := bk_lt hn.1 t1
    have wU := hW.at0 cL
    have wK := hW.at0 cp
    have wD := hW.at0 cR
    have e0 : ∀ k, rdAll n k (6 * n * n) (6 * n * n) (fun _ => 0) Wt (eN n t : Nat) 4607182418800017408 = pos0 (minB (rcV k (dpB (Wt (t / 4)) (arC n (t / 4))) (dpB (Wt (bsC n (t / 4) ((t % 4 + 2) % 4))) (arC n (bsC n (t / 4) ((t % 4 + 2) % 4)))) (dpB (Wt (bsC n (t / 4) (t % 4))) (arC n (bsC n (t / 4) (t % 4))))) (dpB (Wt (t / 4)) (arC n (t / 4)))) := fun k => by
      rw [rdAll_eN hn.1 t1 t2, rdT_p (by decide), ← ovC_flat k (arC n) Wt (t / 4) (bsC n (t / 4) (t % 4)) (bsC n (t / 4) ((t % 4 + 2) % 4)) wU.1 (arC_in n _).2]
      unfold sdD
      rw [mtd.1]; rfl
    have fU := dp_norm wU.1 (arC_in n (t / 4)).2
    have fK := dp_norm wK.1 (arC_in n (bsC n (t / 4) ((t % 4 + 2) % 4))).2
    have fD := dp_norm wD.1 (arC_in n (bsC n (t / 4) (t % 4))).2
    have FL := flat_all (k := lim) (h := (dpB (Wt (t / 4)) (arC n (t / 4)))) (hk := (dpB (Wt (bsC n (t / 4) ((t % 4 + 2) % 4))) (arC n (bsC n (t / 4) ((t % 4 + 2) % 4))))) (hd := (dpB (Wt (bsC n (t / 4) (t % 4))) (arC n (bsC n (t / 4) (t % 4))))) fU (by omega) (by omega)
    have C0 := CD lim
    have C1 := CD 0
    rw [e0] at C0 C1
    rw [flat_z (by omega) (slp_0 _ _)] at C1
    have hm := half_some (s := (dpB (Wt (t / 4)) (arC n (t / 4)))) (by omega) (nn_N (by omega))
    exact flat12_go n lim bb bo wb wo (6 * n * n) pt ps cb cw lt ct ls cs sky st e n (12 * n * n) _ _ _ _ _ _ _ Wt _ _ _ _ _ _ _ _ _ _ _ _ w cn AWK NT CC CE CW (fun gb v g => gEdge_ok hn t1 t2 g) (fun gb v g => gBehind_ok hn t1 t2 g) cL cR cp
      (fun c hc v hv => (Below.cell hv (hW.at0 hc).2.1).trans (hW.at0 hc).2.2)
      (fun gb v g => gArea_ok hn cL g) (fun gb v g => gArea_ok hn cp g) (fun gb v g => gArea_ok hn cR g)
      (fun v => (depth_at _ _ v wU.1 (arC_in n _).2).mono fun _ _ h => ⟨h.1, by obtain ⟨_, j, rfl⟩ := h; exact below_drewN (Below.refl _ _) j⟩) (fun v => (depth_at _ _ v wK.1 (arC_in n _).2).mono fun _ _ h => ⟨h.1, by obtain ⟨_, j, rfl⟩ := h; exact below_drewN (Below.refl _ _) j⟩) (fun v => (depth_at _ _ v wD.1 (arC_in n _).2).mono fun _ _ h => ⟨h.1, by obtain ⟨_, j, rfl⟩ := h; exact below_drewN (Below.refl _ _) j⟩)
      C0 C1 rfl rfl rfl rfl FL.1 (fun t w => run_float_arith w .mul t .f64 _ _ _ hm) FL.2.1 FL.2.2
  · exact flat12_no side lim pb pw pt ps lb cb lw cw lt ct ls cs sky st e w AWK NT
end Go.Proofs.YtjgbaenihkplpaaDoor

/-
  What the law's condition on the table of frames gives the walks; a struct of eight whole numbers.
-/
namespace Go.Proofs.YtjgbaenihkplpaaDoor
open Go.ChangeShapes Go.WideShapes Go.ChangeAt Go.WideMaps Go.WideElems Go.RowKit Cu

theorem own : ownKnob Tryd.prog.godebug = none := by kernel_rfl
theorem gFrames : Tryd.prog.globalNamed "tarn/cube.frames" = some 1 := by kernel_rfl
theorem tFrames : (Tryd.prog.globals[1]?).map (·.type) = some 114 := by kernel_rfl
theorem door_met (os : Os) (args : Array Value) : laidMetH Tryd.prog [("tarn/cube.frames", Rows.laid_tarn_cube_frames)] ((World.doorLaid Tryd.prog 400 os).forCall (fun _ _ => 0) ⟨#[], args, []⟩).memory :=
  laidMetH_of_parts3 (fuel := 8) (laidMet_of_run' 8 (by kernel_rfl) (by kernel_rfl)) (by kernel_rfl) (by kernel_rfl)
set_option maxRecDepth 100000 in
theorem pt_data {H : Type} {enc : TypeId × Value → H} {w : World} {base fuel : Nat} {spare : Nat → Bool} {held : Bool} {cs : List Value} {x : DataW H × List MemPlace} (h : DataW.trod enc Tryd.prog w base spare held fuel 88 cs = some x)
    (a b c : Int) (e : x.1 = .agg [.lit (.int .i64 a), .lit (.int .i64 b), .lit (.int .i64 c)]) : cs = [.int .i64 a, .int .i64 b, .int .i64 c] := by
  have k3 : Tryd.prog.cellsOf 3 = 1 := by kernel_rfl
  have kp : Tryd.prog.cellsOf 88 = 3 := by kernel_rfl
  obtain ⟨xs, m, _, hx, hlen, hn, hel⟩ := DataW.trod_array Tryd.underlying88 h
  rw [hx] at e
  match xs, hn, cs, hlen.trans kp with
  | [x0, x1, x2], _, [c0, c1, c2], _ =>
    have h0 := hel 0 (by decide)
    have h1 := hel 1 (by decide)
    have h2 := hel 2 (by decide)
    simp [k3] at h0 h1 h2
    obtain ⟨n0, e0, f0, _⟩ := DataW.trod_int Tryd.underlying3 h0
    obtain ⟨n1, e1, f1, _⟩ := DataW.trod_int Tryd.underlying3 h1
    obtain ⟨n2, e2, f2, _⟩ := DataW.trod_int Tryd.underlying3 h2
    simp at e0 e1 e2
    simp [f0, f1, f2] at e
    rw [e0, e1, e2, e.1, e.2.1, e.2.2]
set_option maxRecDepth 100000 in
theorem frame_data {H : Type} {enc : TypeId × Value → H} {w : World} {base fuel : Nat} {spare : Nat → Bool} {held : Bool} {cs : List Value} {x : DataW H × List MemPlace} (h : DataW.trod enc Tryd.prog w base spare held fuel 113 cs = some x)
    (p q r : P3) (e : x.1 = .agg [.agg [.lit (.int .i64 p.1), .lit (.int .i64 p.2.1), .lit (.int .i64 p.2.2)], .agg [.lit (.int .i64 q.1), .lit (.int .i64 q.2.1), .lit (.int .i64 q.2.2)], .agg [.lit (.int .i64 r.1), .lit (.int .i64 r.2.1), .lit (.int .i64 r.2.2)]]) :
    cs = [.int .i64 p.1, .int .i64 p.2.1, .int .i64 p.2.2, .int .i64 q.1, .int .i64 q.2.1, .int .i64 q.2.2, .int .i64 r.1, .int .i64 r.2.1, .int .i64 r.2.2] := by
  have kp : Tryd.prog.cellsOf 88 = 3 := by kernel_rfl
  have kf : Tryd.prog.cellsOf 113 = 9 := by kernel_rfl
  obtain ⟨xs, m, _, hx, hlen, hn, hel⟩ := DataW.trod_struct Tryd.underlying113 h
  rw [hx] at e
  match xs, hn, cs, hlen.trans kf with
  | [x0, x1, x2], _, [c0, c1, c2, c3, c4, c5, c6, c7, c8], _ =>
    have h0 := hel 0 _ rfl
    have h1 := hel 1 _ rfl
    have h2 := hel 2 _ rfl
    simp [kp] at h0 h1 h2
    simp at e
    have e0 := pt_data h0 _ _ _ e.1
    have e1 := pt_data h1 _ _ _ e.2.1
    have e2 := pt_data h2 _ _ _ e.2.2
    simp at e0 e1 e2
    simp [e0, e1, e2]
set_option maxRecDepth 100000 in
theorem table_data {H : Type} {enc : TypeId × Value → H} {w : World} {base fuel : Nat} {spare : Nat → Bool} {held : Bool} {cs : List Value} {x : DataW H × List MemPlace} (h : DataW.trod enc Tryd.prog w base spare held fuel 114 cs = some x)
    (e : x.1 = Rows.laid_tarn_cube_frames) : ∀ f, f < 6 → (cs.drop (f * 9)).take 9 = [.int .i64 (cC f).1, .int .i64 (cC f).2.1, .int .i64 (cC f).2.2, .int .i64 (cR f).1, .int .i64 (cR f).2.1, .int .i64 (cR f).2.2, .int .i64 (cU f).1, .int .i64 (cU f).2.1, .int .i64 (cU f).2.2] := by
  have kf : Tryd.prog.cellsOf 113 = 9 := by kernel_rfl
  obtain ⟨xs, m, _, hx, hlen, hn, hel⟩ := DataW.trod_array Tryd.underlying114 h
  rw [hx] at e
  intro f hf
  have h0 := hel f hf
  rw [kf] at h0
  match xs, hn with
  | [x0, x1, x2, x3, x4, x5], _ =>
    simp only [List.map_cons, List.map_nil, Rows.laid_tarn_cube_frames, DataW.agg.injEq, List.cons.injEq] at e
    rcases six hf with rfl | rfl | rfl | rfl | rfl | rfl
    · exact frame_data h0 (cC 0) (cR 0) (cU 0) e.1
    · exact frame_data h0 (cC 1) (cR 1) (cU 1) e.2.1
    · exact frame_data h0 (cC 2) (cR 2) (cU 2) e.2.2.1
    · exact frame_data h0 (cC 3) (cR 3) (cU 3) e.2.2.2.1
    · exact frame_data h0 (cC 4) (cR 4) (cU 4) e.2.2.2.2.1
    · exact frame_data h0 (cC 5) (cR 5) (cU 5) e.2.2.2.2.2.1
/-- WHAT THE CONDITION GIVES THE WALKS -/
theorem of_laid {W : World} (h : laidMetH Tryd.prog [("tarn/cube.frames", Rows.laid_tarn_cube_frames)] W) : Fr W := by
  rw [MakeChecks.laidMetH_plain _ _ _ (by kernel_rfl)] at h
  obtain ⟨ps, ⟨g0, t0, cs0, f0, p0, q0, hg0, ht0, hv0, hd0, _⟩, _⟩ := h
  obtain rfl := Option.some.inj (gFrames.symm.trans hg0)
  obtain rfl := Option.some.inj (tFrames.symm.trans ht0)
  have T := table_data hd0 rfl
  have C := World.var?_cell hg0 hv0
  have K : ∀ f, f < 6 → ∀ k, k < 9 → W.cell? ⟨1, f * 9 + k, none⟩ = ((cs0.toList.drop (f * 9)).take 9)[k]? := by
    intro f hf k hk
    rw [C, List.getElem?_take, if_pos hk, List.getElem?_drop]
    simp
  have N : ∀ f, f < 6 → Fr9 W f := by
    intro f hf
    have K := K f hf
    rw [T f hf] at K
    exact ⟨⟨K 0 (by omega), K 1 (by omega), K 2 (by omega)⟩, ⟨K 3 (by omega), K 4 (by omega), K 5 (by omega)⟩, ⟨K 6 (by omega), K 7 (by omega), K 8 (by omega)⟩⟩
  refine ⟨?_, N⟩
  have c0 := (N 0 (by omega)).1.1
  rcases Nat.lt_or_ge 1 W.heap.size with h1 | h1
  · exact h1
  · rw [World.cell?, Array.getElem?_eq_none h1] at c0; cases c0
end Go.Proofs.YtjgbaenihkplpaaDoor
