/-
  Some of the texts of this proof, one behind the other.
-/
import Derived.Test.YtgeipbegpflkhaaGreatDoorZ16
import Derived.Test.YtgeipbegpflkhaaGreatDoorZ14
import Derived.Test.YtgeipbegpflkhaaGreatDoorZ08
import Derived.Test.YtgeipbegpflkhaaGreatDoorZ10
import Derived.Test.YtgeipbegpflkhaaGreatDoorZ15
/-
  A cell that is filled comes to its level: the floats (no program).
-/
namespace Go.Proofs.YtgeipbegpflkhaaGreatDoor
open Tf Ieee
def Ec : Nat := 993
theorem mv_c29 : 536870912 * mv 4476578029606273024 = one := by
  have h := mv_two_pow Ec 4476578029606273024 (by decide)
  have k : K = 52 + Ec + 29 := by decide
  rw [h, one_pow, k, Nat.pow_add 2 (52 + Ec) 29, Nat.mul_comm]
theorem mv_w20 : mv 4697254411347427328 = 1048576 * one := by
  have h := mv_from_one 20 4697254411347427328 (by decide)
  have e : (2 : Nat) ^ 20 = 1048576 := by decide
  rw [e] at h; exact h
theorem mv_w22 : mv 4706261610602168320 = 4194304 * one := by
  have h := mv_from_one 22 4706261610602168320 (by decide)
  have e : (2 : Nat) ^ 22 = 4194304 := by decide
  rw [e] at h; exact h
theorem mv_w53 : mv 4845873199050653696 = 9007199254740992 * one := by
  have h := mv_from_one 53 4845873199050653696 (by decide)
  have e : (2 : Nat) ^ 53 = 9007199254740992 := by decide
  rw [e] at h; exact h
theorem sv_20 {b : Nat} (h1 : rk b ≤ 4697254411347427328) (h2 : -4697254411347427328 ≤ rk b) : -(1048576 * (one : Int)) ≤ sv b ∧ sv b ≤ 1048576 * (one : Int) := by
  have a := (sv_le_iff b 4697254411347427328).2 (by rw [show rk 4697254411347427328 = 4697254411347427328 by decide]; exact h1)
  have c := (sv_le_iff 13920626448202203136 b).2 (by rw [show rk 13920626448202203136 = -4697254411347427328 by decide]; exact h2)
  have e1 : sv 4697254411347427328 = (mv 4697254411347427328 : Nat) := sv_nn (by decide)
  have e2 : sv 13920626448202203136 = -((mv 4697254411347427328 : Nat) : Int) := by
    unfold sv
    rw [show ng 13920626448202203136 = true by decide, show mg 13920626448202203136 = 4697254411347427328 by decide]; rfl
  rw [e1, mv_w20] at a
  rw [e2, mv_w20] at c
  rw [Int.natCast_mul] at a c
  exact ⟨c, a⟩
theorem rn_le {z : Bool} {v : Int} {r : Nat} (h : v.natAbs ≤ mv r) (hr : r < 9218868437227405312) : mg (rn z v) ≤ r ∧ mg (rn z v) < 9218868437227405312 ∧ sv (rn z v) = rd v := by
  have a : rung 52 0 v.natAbs ≤ r := rung_le2 (d := 0) (by rw [Nat.pow_zero, Nat.mul_one]; exact h)
  have b : mg (rn z v) ≤ r := by rw [rn_mg]; omega
  exact ⟨b, by omega, rn_fin' z v (by omega)⟩
theorem up_le {m n a b c d : Nat} {M N : Int} (hM : (m : Int) = M) (hN : (n : Int) = N) (h : m * (a * b) ≤ n * (c * d)) : M * ((a : Int) * b) ≤ N * ((c : Int) * d) := by
  have := Int.ofNat_le.2 h
  rwa [Int.natCast_mul, Int.natCast_mul, Int.natCast_mul, Int.natCast_mul, hM, hN] at this
theorem up_le1 {m n a b c : Nat} {M N : Int} (hM : (m : Int) = M) (hN : (n : Int) = N) (h : m * (a * b) ≤ n * c) : M * ((a : Int) * b) ≤ N * (c : Int) := by
  have := Int.ofNat_le.2 h
  rwa [Int.natCast_mul, Int.natCast_mul, Int.natCast_mul, hM, hN] at this
theorem up_le2 {m n a c d : Nat} {M N : Int} (hM : (m : Int) = M) (hN : (n : Int) = N) (h : m * a ≤ n * (c * d)) : M * (a : Int) ≤ N * ((c : Int) * d) := by
  have := Int.ofNat_le.2 h
  rwa [Int.natCast_mul, Int.natCast_mul, Int.natCast_mul, hM, hN] at this
theorem up_eq {m a b : Nat} {M : Int} (hM : (m : Int) = M) (h : m * a = b) : M * (a : Int) = b := by
  rw [← h, Int.natCast_mul, hM]
theorem mv_1 : mv 4607182418800017408 = one := rfl
theorem comes {b l : Nat} {A : Int} (hb : b < 18446744073709551616) (hl : l < 18446744073709551616) (nb : isN b = false) (nl : isN l = false)
    (b1 : rk b ≤ 4697254411347427328) (b2 : -4697254411347427328 ≤ rk b) (l1 : rk l ≤ 4697254411347427328) (l2 : -4697254411347427328 ≤ rk l) (A1 : 1 ≤ A) (A2 : A ≤ 2147483648) (w0 : fil b A l ≠ 0) (w1 : fil b A l ≠ 4503599627370496) :
    mg (lvl b (fil b A l) A) < 9218868437227405312 ∧ sv (lvl b (fil b A l) A) - sv l ≤ (mv (dvB 4607182418800017408 (fw A)) : Int) + (mv 4476578029606273024 : Nat) ∧ -((mv (dvB 4607182418800017408 (fw A)) : Int) + (mv 4476578029606273024 : Nat)) ≤ sv (lvl b (fil b A l) A) - sv l := by
  have win := fil_in (a := A) hl hb (by omega)
  have g : fgt l b = true := by
    cases k : fgt l b
    · exact absurd (fil_no (.inl k)) w0
    · rfl
  have k := ((fgt_iff hl hb).1 g).2.2
  have fb : mg b < 9218868437227405312 := by
    have := isN_false.1 nb
    unfold rk at b1 b2
    split at b1 <;> split at b2 <;> omega
  have fl : mg l < 9218868437227405312 := by
    have := isN_false.1 nl
    unfold rk at l1 l2
    split at l1 <;> split at l2 <;> omega
  have sb := sv_20 b1 b2
  have sl := sv_20 l1 l2
  have k2 := (sv_lt_iff b l).2 k
  have hu := onep
  -- how high
  have hv : sbB l b = rn false (sv l - sv b) := by
    have hn := negB_lt' hb
    unfold sbB
    rw [addB_fin l (negB b) hl hn fl (by rw [negB_mg hb]; exact fb), negB_sv hb]
    rfl
  have h22 : (mv 4706261610602168320 : Int) = 4194304 * one := by rw [mv_w22, Int.natCast_mul]; rfl
  have hh := rn_le (z := false) (v := sv l - sv b) (r := 4706261610602168320) (by omega) (by decide)
  have hnn : rn false (sv l - sv b) < 9223372036854775808 := by rw [rn_nn (by omega)]; have := R_top (sv l - sv b); omega
  have he := rd_err (sv l - sv b)
  rw [← hh.2.2, sv_nn hnn] at he
  have hle : rn false (sv l - sv b) ≤ 4706261610602168320 := by have := hh.1; rwa [mg_of_lt hnn] at this
  rw [← hv] at he hle
  have hpos := (hi_in hl hb nl nb k).1
  have hcomes := w0
  rw [fil_yes g A1] at w0 w1 win ⊢
  clear hv hh hnn hcomes
  generalize sbB l b = h at *
  -- the product
  obtain ⟨a, ea⟩ := Int.eq_ofNat_of_zero_le (show 0 ≤ A by omega)
  have fA := fw_in A1 (by omega)
  have mA := mv_fw A1 (by omega)
  have mA' : mv (fw A) = a * one := by
    rw [ea, ← Int.natCast_mul] at mA
    rw [ea]
    exact Int.ofNat.inj mA
  have pw : mlB h (fw A) = min (rung 52 0 (mv h * a)) 9218868437227405312 := by
    rw [ml_word (by omega) (by omega), mA', ← Nat.mul_assoc, one_pow]
    have s := rung_scale 52 0 K (mv h * a)
    rw [Nat.zero_add] at s
    exact congrArg (min · 9218868437227405312) s
  have pE := rE (mv h * a)
  have pr : rung 52 0 (mv h * a) ≤ 4845873199050653696 := by
    refine rung_le2 (d := 0) ?_
    rw [Nat.pow_zero, Nat.mul_one, mv_w53]
    have m1 : mv h ≤ 4194304 * one := by have := mv_le.2 hle; rwa [mv_w22] at this
    have m2 := Nat.mul_le_mul m1 (show a ≤ 2147483648 by omega)
    refine Nat.le_trans m2 ?_
    rw [Nat.mul_right_comm]
    exact Nat.mul_le_mul_right one (by decide)
  rw [Nat.min_eq_left (by omega)] at pw
  rw [pw] at w0 w1 win ⊢
  generalize rung 52 0 (mv h * a) = P at *
  -- the whole number
  have nP : isN P = false := isN_false.2 (by rw [mg_of_lt (by omega)]; omega)
  have rP : rk P = P := rk_pos P (by omega)
  have cw := clampB_num P 4503599627370496 (by omega) nP
  rw [rP, if_neg (by omega), if_pos (by omega), show clampM 4503599627370496 = 4503599627370496 by decide] at cw
  have cq : cq .even P = clampB P 4503599627370496 := by omega
  have ev := even_near P
  rw [cq, sv_nn (d := P) (by omega)] at ev
  clear cw cq
  generalize clampB P 4503599627370496 = w at *
  have w2 : 1 ≤ w := by omega
  have mw := mv_fw w2 (by omega)
  -- the depth
  have dE := dv_err (fw_Qn w2 (by omega) A1 (by omega))
  have dI := dq_in (fw_Qn w2 (by omega) A1 (by omega))
  have f1 : fw 1 = 4607182418800017408 := by rw [fw_R (by omega), Int.one_mul, R_one]; rfl
  have qE := (dv_err (fw_Qn (n := 1) (by omega) (by omega) A1 (by omega))).1
  rw [f1, mv_1] at qE
  unfold lvl
  rw [dp_of w2 A1]
  generalize dvB (fw w) (fw A) = D at *
  generalize dvB 4607182418800017408 (fw A) = Q at *
  -- the level
  have hL := addB_fin b D hb (by omega) fb (by rw [mg_of_lt (by omega)]; omega)
  rw [sv_nn (d := D) (by omega)] at hL
  have m17 : mv 9151314442816847872 = 2 * mv 9146810843189477376 := mv_dbl (r := 9146810843189477376) (by decide)
  have dle := mv_le.2 dI.2
  have wle : mv 4697254411347427328 ≤ mv 9146810843189477376 := mv_le.2 (by decide)
  have w20 : (mv 4697254411347427328 : Int) = 1048576 * one := by rw [mv_w20, Int.natCast_mul]; rfl
  have hLL := rn_le (z := false) (v := sv b + (mv D : Nat)) (r := 9151314442816847872) (by rw [m17]; omega) (by decide)
  have lE := rd_err (sv b + (mv D : Nat))
  rw [← hLL.2.2] at lE
  rw [hL]
  refine ⟨hLL.2.1, ?_⟩
  clear hL m17 dle wle w20 hLL
  generalize sv (rn false (sv b + (mv D : Nat))) = L at *
  have a1 : (1 : Int) ≤ a := by omega
  have a0 : (0 : Int) ≤ a := by omega
  have ma : ∀ x y : Int, x ≤ y → x * a ≤ y * a := fun x y h => Int.mul_le_mul_of_nonneg_right h a0
  have cu : ∀ x y : Int, x * one ≤ y * one → x ≤ y := fun x y h => Int.le_of_mul_le_mul_right h hu
  rw [Int.natAbs_natCast] at he
  have e1 := ma _ _ he.1
  have e2 := ma _ _ he.2
  have e9 := ma _ _ lE.1
  have e10 := ma _ _ lE.2
  have p1 := ma _ _ sb.1
  have p2 := ma _ _ sb.2
  have p3 := ma _ _ sl.1
  have p4 := ma _ _ sl.2
  have e3 : 9007199254740992 * ((mv h : Int) * a) ≤ 9007199254740993 * (mv P : Int) := up_le1 rfl rfl pE.1
  have e4 : 9007199254740991 * (mv P : Int) ≤ 9007199254740992 * ((mv h : Int) * a) := up_le2 rfl rfl pE.2
  have k1 : (mv (fw A) : Int) = (a : Int) * one := by rw [mA', Int.natCast_mul]
  have pk : ((2 ^ K : Nat) : Int) = one := by rw [one_pow]
  have e7 : 9007199254740992 * (w * one) ≤ 9007199254740993 * ((mv D : Int) * a) := by
    have h : 9007199254740992 * ((mv (fw w) : Int) * ((2 ^ K : Nat) : Int)) ≤ 9007199254740993 * ((mv D : Int) * (mv (fw A) : Int)) := up_le rfl rfl dE.1
    rw [mw, k1, pk, ← Int.mul_assoc, ← Int.mul_assoc (mv D : Int), ← Int.mul_assoc 9007199254740993] at h
    exact cu _ _ h
  have e8 : 9007199254740991 * ((mv D : Int) * a) ≤ 9007199254740992 * (w * one) := by
    have h : 9007199254740991 * ((mv D : Int) * (mv (fw A) : Int)) ≤ 9007199254740992 * ((mv (fw w) : Int) * ((2 ^ K : Nat) : Int)) := up_le rfl rfl dE.2
    rw [mw, k1, pk, ← Int.mul_assoc 9007199254740992, ← Int.mul_assoc (mv D : Int), ← Int.mul_assoc 9007199254740991] at h
    exact cu _ _ h
  have e11 : 9007199254740992 * (one : Int) ≤ 9007199254740993 * ((mv Q : Int) * a) := by
    have h : 9007199254740992 * ((one : Int) * ((2 ^ K : Nat) : Int)) ≤ 9007199254740993 * ((mv Q : Int) * (mv (fw A) : Int)) := by
      generalize hone : one = o at qE ⊢
      generalize 2 ^ K = kk at qE ⊢
      exact up_le rfl rfl qE
    rw [k1, pk, ← Int.mul_assoc, ← Int.mul_assoc (mv Q : Int), ← Int.mul_assoc 9007199254740993] at h
    exact cu _ _ h
  have e12 : 536870912 * ((mv 4476578029606273024 : Int) * a) = (one : Int) * a := by
    rw [← Int.mul_assoc]
    have hc := mv_c29
    generalize mv 4476578029606273024 = cc at hc ⊢
    generalize one = o at hc ⊢
    rw [up_eq (M := 536870912) rfl hc]
  have h9 : (one : Int) ≤ one * a := by
    have := Int.mul_le_mul_of_nonneg_left a1 (Int.le_of_lt hu)
    rwa [Int.mul_one] at this
  have na : (L.natAbs : Int) * a = ((L * a).natAbs : Int) := by rw [Int.natAbs_mul, Int.natAbs_natCast, Int.natCast_mul]
  rw [na] at e9 e10
  simp only [Int.neg_mul, Int.mul_assoc, Int.sub_mul, Int.add_mul] at e1 e2 e9 e10 p1 p2 p3 p4
  have fin := comes_lin one (one * a) (sv b * a) (sv l * a) (mv h * a) (mv P) (w * one) (mv D * a) (L * a) (mv Q * a) (mv 4476578029606273024 * a) hu h9 p1 p2 p3 p4 e1 e2 e3 e4 ev.1 ev.2.1 e7 e8 e9 e10 e11 e12
  have pa : (0 : Int) < a := by omega
  constructor
  · refine Int.le_of_mul_le_mul_right (a := (a : Int)) ?_ pa
    rw [Int.sub_mul, Int.add_mul]
    exact fin.1
  · refine Int.le_of_mul_le_mul_right (a := (a : Int)) ?_ pa
    rw [Int.sub_mul, Int.neg_mul, Int.add_mul]
    exact fin.2
theorem R_neg11 (v : Int) : R (-v) = -R v := by
  by_cases z : v = 0
  · subst z
    have e : R 0 = 0 := by
      unfold R
      rw [if_neg (by decide), show (0 : Int).natAbs = 0 from rfl, rung_none, Nat.zero_min]
      rfl
    rw [Int.neg_zero, e, Int.neg_zero]
  · unfold R
    rw [Int.natAbs_neg]
    generalize min (rung 52 0 v.natAbs) 9218868437227405312 = m
    by_cases c : v < 0
    · rw [if_pos c, if_neg (by omega), Int.neg_neg]
    · rw [if_neg c, if_pos (by omega)]
theorem rn_N (z : Bool) (v : Int) : isN (rn z v) = false := isN_false.2 (by rw [rn_mg]; exact Nat.min_le_right _ _)
/-- what is at most that far off is at most that far off when rounded -/
theorem near_cmp (z z' : Bool) {v m : Int} (h1 : v ≤ m) (h2 : -m ≤ v) : (flt (rn z v) (rn z' m) || feq (rn z v) (rn z' m)) = true ∧ (fgt (rn z v) (negB (rn z' m)) || feq (rn z v) (negB (rn z' m))) = true := by
  have hl := rn_lt z v
  have hl' := rn_lt z' m
  rw [fle_of hl hl' (rn_N z v) (rn_N z' m), fge_of hl (negB_lt' hl') (rn_N z v) (by rw [isN_neg]; exact rn_N z' m), rk_negB _ hl', rk_rn, rk_rn]
  have r1 := R_mono h1
  have r2 := R_mono h2
  have e : R (-m) = -R m := R_neg11 m
  exact ⟨decide_eq_true r1, decide_eq_true (by omega)⟩
end Go.Proofs.YtgeipbegpflkhaaGreatDoor

/-
  Depths, levels and fills: what the program returns (walks), and that it is awake.
-/
namespace Go.Proofs.YtgeipbegpflkhaaGreatDoor
open Go.RowKit Tf
attribute [local go_sem] run_bits run_from raw_feq raw_fne raw_flt raw_fgt run_neg
theorem isC_eq {r c : Nat} (h : IsC r c) (c0 : 0 < c) (c1 : c ≤ 9218868437227405312) : r = c := by
  have e := h.2
  unfold canonB at e
  split at e
  · unfold quiet at e; omega
  · split at e
    · omega
    · exact e
theorem isQ_eq {r c : Nat} (h : IsQ r c) (c1 : c ≤ 9218868437227405312) : r = c := by
  have e := h.2
  unfold qB at e
  split at e
  · unfold quiet at e; omega
  · exact e
theorem mg_nn11 {x : Nat} (h : x ≤ 9218868437227405312) : mg x ≤ 9218868437227405312 := by unfold mg; omega
theorem add_can {P : Program} (w : World) (s x : Nat) (hs : s < 18446744073709551616) (hx : x < 18446744073709551616) :
    ∃ r n, (∀ t, (binOp .add t (.float .f64 s) (.float .f64 x)).run P w = .ok (.float .f64 r) (w.drewN n)) ∧ IsC r (addB s x) := by
  cases e : Ieee.double.add s x with
  | none => exact ⟨nanOf w s x, 1, fun t => run_nan_add w t s x e, nanOf_lt _ _ _, by rw [addB_none e]; unfold canonB; rw [if_pos (isN_nanOf _ _ _)]⟩
  | some r => exact ⟨r, 0, fun t => run_float_arith w .add t .f64 s x r e, by
      have q := IsQ.add (IsQ.self hs) (IsQ.self hx) e
      exact q.1, by rw [addB_some e]⟩
theorem depth_no (n a : Int) (w : World) (h : n < 1 ∨ a < 1) :
    Calls Tryz.prog 100 #[.int .i64 n, .int .i64 a] w fun e w' => e = .returned (.float .f64 0) ∧ w' = w := by
  by_cases c : n < 1
  · go_enter Tryz.func100, Tryz.ntmps100
    go_wp2
    go_ret
    exact ⟨rfl, rfl⟩
  · have d : a < 1 := by omega
    clear h
    go_enter Tryz.func100, Tryz.ntmps100
    go_wp2
    go_ret
    exact ⟨rfl, rfl⟩
theorem depth_yes (n a : Int) (w : World) (h1 : 1 ≤ n) (h2 : 1 ≤ a) (n2 : n ≤ 9223372036854775807) (a2 : a ≤ 9223372036854775807) :
    Calls Tryz.prog 100 #[.int .i64 n, .int .i64 a] w fun e w' => e = .returned (.float .f64 (dpB n a)) ∧ ∃ k, w' = w.drewN k := by
  obtain ⟨r, k, hr, hc⟩ := div_any (P := Tryz.prog) w (fw n) (fw a)
  have e := isC_eq hc (by rw [← dp_of h1 h2]; have := dp_in h1 h2 n2 a2; omega) (by rw [← dp_of h1 h2]; have := dp_in h1 h2 n2 a2; omega)
  rw [dp_of h1 h2, ← e]
  clear e hc
  have F1 := hid (fromInt_any n w)
  have F2 := hid (fromInt_any a w)
  rw [show rn false (n * one) = fw n from rfl] at F1
  rw [show rn false (a * one) = fw a from rfl] at F2
  generalize fw n = x at *
  generalize fw a = y at *
  go_enter Tryz.func100, Tryz.ntmps100
  go_wp2_with fail
  refine F1.out.mono ?_
  rintro e w' ⟨rfl, rfl⟩
  go_wp2_with fail
  refine F2.out.mono ?_
  rintro e w' ⟨rfl, rfl⟩
  go_wp2
  go_ret
  exact ⟨rfl, k, rfl⟩
theorem depth_at (n a : Int) (w : World) (n2 : n ≤ 9223372036854775807) (a2 : a ≤ 9223372036854775807) :
    Calls Tryz.prog 100 #[.int .i64 n, .int .i64 a] w fun e w' => e = .returned (.float .f64 (dpB n a)) ∧ ∃ k, w' = w.drewN k := by
  by_cases c : n < 1 ∨ a < 1
  · rw [dp_zero c]
    exact (depth_no n a w c).mono fun _ _ h => ⟨h.1, 0, h.2⟩
  · exact depth_yes n a w (by omega) (by omega) n2 a2
theorem level_at (b : Nat) (n a : Int) (w : World) (hb : b < 18446744073709551616) (n2 : n ≤ 9223372036854775807) (a2 : a ≤ 9223372036854775807) :
    Calls Tryz.prog 67 #[.float .f64 b, .int .i64 n, .int .i64 a] w fun e w' => e = .returned (.float .f64 (lvl b n a)) ∧ ∃ k, w' = w.drewN k := by
  have D := hid (depth_at n a w n2 a2)
  have e0 : lvl b n a = addB b (dpB n a) := rfl
  rw [e0]
  have hd : dpB n a < 18446744073709551616 := by have := dp_le n2 a2; omega
  clear e0
  generalize dpB n a = d at *
  have AD : Hid (∀ k : Nat, ∃ r m, (∀ t, (binOp .add t (.float .f64 b) (.float .f64 d)).run Tryz.prog (w.drewN k) = .ok (.float .f64 r) ((w.drewN k).drewN m)) ∧ IsC r (addB b d)) := fun k => add_can _ b d hb hd
  generalize addB b d = y at *
  go_enter Tryz.func67, Tryz.ntmps67
  go_wp2_with fail
  refine D.out.mono ?_
  rintro e w' ⟨rfl, k, rfl⟩
  obtain ⟨r, m, hr, hc⟩ := AD.out k
  have C := hid (canon_any r (w.drewN (k + m)) hc.1)
  rw [hc.2] at C
  go_wp2_with fail
  refine C.out.mono ?_
  rintro e w' ⟨rfl, rfl⟩
  go_wp2
  go_ret
  exact ⟨rfl, k + m, rfl⟩
theorem aw11_1 : dpB 3 2 = 4609434218613702656 := by decide +kernel
theorem aw11_2 : lvl 13836183955189006336 3 2 = 13830554455654793216 := by decide +kernel
theorem aw11_3 : fil 0 10 4608308318706860032 = 12 := by decide +kernel
theorem aw11_4 : fil 0 10 4608758678669597082 = 14 := by decide +kernel
end Go.Proofs.YtgeipbegpflkhaaGreatDoor

/-
  What the first calls of the reference of layer 2 return: walks over the program.
-/
namespace Go.Proofs.YtgeipbegpflkhaaGreatDoor.Ref2
open Go.RowKit Tf
attribute [local go_sem] run_bits run_from raw_feq raw_fne raw_flt raw_fgt run_neg

set_option maxHeartbeats 400000 in
theorem rawBits_any (x : Nat) (w : World) :
    Calls Tryz.prog 11 #[.float .f64 x] w fun e w' => e = .returned (.int .u64 (x : Nat)) ∧ w' = w := by
  go_enter Tryz.func11, Tryz.ntmps11
  go_wp2
  go_ret
  exact ⟨rfl, rfl⟩

theorem from_at (a : Int) (r : Nat) (w : World) (hr : a.toNat = r) :
    Calls Tryz.prog 102 #[.int .u64 a] w fun e w' => e = .returned (.float .f64 r) ∧ w' = w := by
  subst hr; exact from_any a w

/-- a float's parts -/
def pm (x : Nat) : Nat := if mg x / 4503599627370496 = 0 then mg x else mg x % 4503599627370496 + 4503599627370496
def pe (x : Nat) : Int := if mg x / 4503599627370496 = 0 then -1074 else ((mg x / 4503599627370496 : Nat) : Int) - 1075
theorem pm_lt (x : Nat) : pm x < 9007199254740992 := by unfold pm; split <;> omega
theorem pe_ge (x : Nat) : -1074 ≤ pe x := by unfold pe; split <;> omega
theorem pe_le (x : Nat) (h : mg x < 9218868437227405312) : pe x ≤ 971 := by unfold pe; split <;> omega
theorem mv_parts (x : Nat) : mv (mg x) = pm x * 2 ^ (pe x + 1074).toNat := by
  have e : (2 : Nat) ^ 52 = 4503599627370496 := by decide
  unfold mv mag pm pe
  rw [e]
  by_cases h : mg x / 4503599627370496 = 0
  · rw [if_pos h, if_pos h, if_pos (by omega)]; simp
  · rw [if_neg h, if_neg h, if_neg (by omega)]
    have e2 : (((mg x / 4503599627370496 : Nat) : Int) - 1075 + 1074).toNat = mg x / 4503599627370496 - 1 := by omega
    rw [e2, Nat.add_comm]
set_option maxHeartbeats 1000000 in
theorem parts_inf (x : Nat) (n : Bool) (w : World) (hn : ((x : Int) / 9223372036854775808 == 1) = n) (h1 : (x : Int) / 4503599627370496 % 2048 = 2047) (h2 : ((x : Int) % 4503599627370496 == 0) = true) :
    Calls Tryz.prog 140 #[.float .f64 x] w fun e w' => e = .returned (.tuple #[.bool n, .int .u64 0, .int .i64 0, .int .i64 1]) ∧ w' = w := by
  go_enter Tryz.func140, Tryz.ntmps140
  go_wp2_with fail
  refine (rawBits_any x _).mono ?_
  rintro e w' ⟨rfl, rfl⟩
  go_wp2
  refine bodyPost_ret (v := .tuple #[.bool n, .int .u64 0, .int .i64 0, .int .i64 1]) (by simp [results, Tryz.results140, go_sem]) rfl ⟨rfl, rfl⟩

set_option maxHeartbeats 1000000 in
theorem parts_nan (x : Nat) (n : Bool) (w : World) (hn : ((x : Int) / 9223372036854775808 == 1) = n) (h1 : (x : Int) / 4503599627370496 % 2048 = 2047) (h2 : ((x : Int) % 4503599627370496 == 0) = false) :
    Calls Tryz.prog 140 #[.float .f64 x] w fun e w' => e = .returned (.tuple #[.bool n, .int .u64 0, .int .i64 0, .int .i64 2]) ∧ w' = w := by
  go_enter Tryz.func140, Tryz.ntmps140
  go_wp2_with fail
  refine (rawBits_any x _).mono ?_
  rintro e w' ⟨rfl, rfl⟩
  go_wp2
  refine bodyPost_ret (v := .tuple #[.bool n, .int .u64 0, .int .i64 0, .int .i64 2]) (by simp [results, Tryz.results140, go_sem]) rfl ⟨rfl, rfl⟩

set_option maxHeartbeats 1000000 in
theorem parts_sub (x : Nat) (n : Bool) (w : World) (hn : ((x : Int) / 9223372036854775808 == 1) = n) (h1 : (x : Int) / 4503599627370496 % 2048 = 0) (m : Nat) (h2 : (x : Int) % 4503599627370496 = m) :
    Calls Tryz.prog 140 #[.float .f64 x] w fun e w' => e = .returned (.tuple #[.bool n, .int .u64 (m : Nat), .int .i64 (-1074), .int .i64 0]) ∧ w' = w := by
  go_enter Tryz.func140, Tryz.ntmps140
  go_wp2_with fail
  refine (rawBits_any x _).mono ?_
  rintro e w' ⟨rfl, rfl⟩
  go_wp2
  refine bodyPost_ret (v := .tuple #[.bool n, .int .u64 (m : Nat), .int .i64 (-1074), .int .i64 0]) (by simp [results, Tryz.results140, go_sem, h2]) rfl ⟨rfl, rfl⟩

set_option maxHeartbeats 1000000 in
theorem parts_nor (x : Nat) (n : Bool) (w : World) (hn : ((x : Int) / 9223372036854775808 == 1) = n) (f : Int) (h1 : (x : Int) / 4503599627370496 % 2048 = f) (h3 : (f == 2047) = false) (h4 : (f == 0) = false) (m : Nat) (h2 : (x : Int) % 4503599627370496 = m) :
    Calls Tryz.prog 140 #[.float .f64 x] w fun e w' => e = .returned (.tuple #[.bool n, .int .u64 ((m : Nat) + 4503599627370496), .int .i64 (f - 1075), .int .i64 0]) ∧ w' = w := by
  go_enter Tryz.func140, Tryz.ntmps140
  go_wp2_with fail
  refine (rawBits_any x _).mono ?_
  rintro e w' ⟨rfl, rfl⟩
  go_wp2
  refine bodyPost_ret (v := .tuple #[.bool n, .int .u64 ((m : Nat) + 4503599627370496), .int .i64 (f - 1075), .int .i64 0]) (by simp [results, Tryz.results140, go_sem]) rfl ⟨rfl, rfl⟩


/-- what kind: 0 finite, 1 an infinity, 2 a NaN -/
theorem parts_fin (x : Nat) (w : World) (hx : x < 18446744073709551616) (fx : mg x < 9218868437227405312) :
    Calls Tryz.prog 140 #[.float .f64 x] w fun e w' => e = .returned (.tuple #[.bool (ng x), .int .u64 (pm x : Nat), .int .i64 (pe x), .int .i64 0]) ∧ w' = w := by
  have hn : ((x : Int) / 9223372036854775808 == 1) = ng x := by
    unfold ng
    by_cases c : 9223372036854775808 ≤ x
    · rw [decide_eq_true c]; simp; omega
    · rw [decide_eq_false c]; simp; omega
  have hf : (x : Int) / 4503599627370496 % 2048 = ((mg x / 4503599627370496 : Nat) : Int) := by unfold mg; omega
  have hm : (x : Int) % 4503599627370496 = ((mg x % 4503599627370496 : Nat) : Int) := by unfold mg; omega
  unfold pm pe
  by_cases c : mg x / 4503599627370496 = 0
  · rw [if_pos c, if_pos c]
    have e : mg x % 4503599627370496 = mg x := by omega
    rw [e] at hm
    exact parts_sub x _ w hn (by rw [hf, c]; rfl) _ hm
  · rw [if_neg c, if_neg c]
    have := parts_nor x _ w hn _ hf (by simp; omega) (by simp; omega) _ hm
    have e : ((mg x % 4503599627370496 + 4503599627370496 : Nat) : Int) = ((mg x % 4503599627370496 : Nat) : Int) + 4503599627370496 := by omega
    rw [e]; exact this
theorem parts_i (x : Nat) (w : World) (hx : x < 18446744073709551616) (fx : mg x = 9218868437227405312) :
    Calls Tryz.prog 140 #[.float .f64 x] w fun e w' => e = .returned (.tuple #[.bool (ng x), .int .u64 0, .int .i64 0, .int .i64 1]) ∧ w' = w := by
  have hn : ((x : Int) / 9223372036854775808 == 1) = ng x := by
    unfold ng
    by_cases c : 9223372036854775808 ≤ x
    · rw [decide_eq_true c]; simp; omega
    · rw [decide_eq_false c]; simp; omega
  unfold mg at fx
  exact parts_inf x _ w hn (by omega) (by simp; omega)
theorem parts_n (x : Nat) (w : World) (hx : x < 18446744073709551616) (n : isN x = true) :
    Calls Tryz.prog 140 #[.float .f64 x] w fun e w' => e = .returned (.tuple #[.bool (ng x), .int .u64 0, .int .i64 0, .int .i64 2]) ∧ w' = w := by
  have hn : ((x : Int) / 9223372036854775808 == 1) = ng x := by
    unfold ng
    by_cases c : 9223372036854775808 ≤ x
    · rw [decide_eq_true c]; simp; omega
    · rw [decide_eq_false c]; simp; omega
  have h := isN_true.1 n
  unfold mg at h
  exact parts_nan x _ w hn (by omega) (by simp; omega)

/-- what is left behind a shift: 0 nothing, 1 less than a half, 2 a half, 3 more -/
def rc (m k : Nat) : Int := if m % 2 ^ k = 0 then 0 else if 2 * (m % 2 ^ k) < 2 ^ k then 1 else if 2 * (m % 2 ^ k) = 2 ^ k then 2 else 3
set_option maxHeartbeats 1000000 in
theorem down_g0 (m k : Nat) (w : World) (h : (63 : Int) < k) (h0 : m = 0) :
    Calls Tryz.prog 149 #[.int .u64 (m : Nat), .int .i64 (k : Nat)] w fun e w' => e = .returned (.tuple #[.int .u64 0, .int .i64 0]) ∧ w' = w := by
  subst h0
  go_enter Tryz.func149, Tryz.ntmps149
  go_wp2
  go_ret2
  exact ⟨rfl, rfl⟩

set_option maxHeartbeats 1000000 in
theorem down_g1 (m k : Nat) (w : World) (h : (63 : Int) < k) (h0 : ((m : Int) == 0) = false) :
    Calls Tryz.prog 149 #[.int .u64 (m : Nat), .int .i64 (k : Nat)] w fun e w' => e = .returned (.tuple #[.int .u64 0, .int .i64 1]) ∧ w' = w := by
  go_enter Tryz.func149, Tryz.ntmps149
  go_wp2
  go_ret2
  exact ⟨rfl, rfl⟩

set_option maxHeartbeats 1000000 in
theorem down_0 (m k : Nat) (w : World) (h : ¬ (63 : Int) < k) (k1 : (1 : Int) ≤ k) (q p r g : Nat) (q1 : (m : Int) / 2 ^ k = (q : Int)) (q2 : IntKind.u64.wrap ((q : Int) * 2 ^ k) = (p : Int)) (q3 : IntKind.u64.wrap ((m : Int) - (p : Int)) = (r : Int)) (q4 : IntKind.u64.wrap (2 ^ (k - 1)) = (g : Int)) (c : ((r : Int) == 0) = true) :
    Calls Tryz.prog 149 #[.int .u64 (m : Nat), .int .i64 (k : Nat)] w fun e w' => e = .returned (.tuple #[.int .u64 (q : Nat), .int .i64 0]) ∧ w' = w := by
  go_enter Tryz.func149, Tryz.ntmps149
  go_wp2
  go_ret2
  exact ⟨rfl, rfl⟩

set_option maxHeartbeats 1000000 in
theorem down_1 (m k : Nat) (w : World) (h : ¬ (63 : Int) < k) (k1 : (1 : Int) ≤ k) (q p r g : Nat) (q1 : (m : Int) / 2 ^ k = (q : Int)) (q2 : IntKind.u64.wrap ((q : Int) * 2 ^ k) = (p : Int)) (q3 : IntKind.u64.wrap ((m : Int) - (p : Int)) = (r : Int)) (q4 : IntKind.u64.wrap (2 ^ (k - 1)) = (g : Int)) (c : ((r : Int) == 0) = false) (c1 : r < g) :
    Calls Tryz.prog 149 #[.int .u64 (m : Nat), .int .i64 (k : Nat)] w fun e w' => e = .returned (.tuple #[.int .u64 (q : Nat), .int .i64 1]) ∧ w' = w := by
  go_enter Tryz.func149, Tryz.ntmps149
  go_wp2
  go_ret2
  exact ⟨rfl, rfl⟩

set_option maxHeartbeats 1000000 in
theorem down_2 (m k : Nat) (w : World) (h : ¬ (63 : Int) < k) (k1 : (1 : Int) ≤ k) (q p r g : Nat) (q1 : (m : Int) / 2 ^ k = (q : Int)) (q2 : IntKind.u64.wrap ((q : Int) * 2 ^ k) = (p : Int)) (q3 : IntKind.u64.wrap ((m : Int) - (p : Int)) = (r : Int)) (q4 : IntKind.u64.wrap (2 ^ (k - 1)) = (g : Int)) (c : ((r : Int) == 0) = false) (c1 : ¬ r < g) (c2 : ((r : Int) == (g : Int)) = true) :
    Calls Tryz.prog 149 #[.int .u64 (m : Nat), .int .i64 (k : Nat)] w fun e w' => e = .returned (.tuple #[.int .u64 (q : Nat), .int .i64 2]) ∧ w' = w := by
  go_enter Tryz.func149, Tryz.ntmps149
  go_wp2
  go_ret2
  exact ⟨rfl, rfl⟩

set_option maxHeartbeats 1000000 in
theorem down_3 (m k : Nat) (w : World) (h : ¬ (63 : Int) < k) (k1 : (1 : Int) ≤ k) (q p r g : Nat) (q1 : (m : Int) / 2 ^ k = (q : Int)) (q2 : IntKind.u64.wrap ((q : Int) * 2 ^ k) = (p : Int)) (q3 : IntKind.u64.wrap ((m : Int) - (p : Int)) = (r : Int)) (q4 : IntKind.u64.wrap (2 ^ (k - 1)) = (g : Int)) (c : ((r : Int) == 0) = false) (c1 : ¬ r < g) (c2 : ((r : Int) == (g : Int)) = false) :
    Calls Tryz.prog 149 #[.int .u64 (m : Nat), .int .i64 (k : Nat)] w fun e w' => e = .returned (.tuple #[.int .u64 (q : Nat), .int .i64 3]) ∧ w' = w := by
  go_enter Tryz.func149, Tryz.ntmps149
  go_wp2
  go_ret2
  exact ⟨rfl, rfl⟩


theorem wrap_id (a : Int) (h0 : 0 ≤ a) (h1 : a < 18446744073709551616) : IntKind.u64.wrap a = a := by
  simp [IntKind.wrap, IntKind.bits, IntKind.signed]; omega
/-- what the shift serves -/
def okm (m k : Nat) : Prop := m ≤ 9223372036854775808 ∧ (63 < k → m < 9223372036854775808)
theorem okm_of (m k : Nat) (h : m < 9223372036854775808) : okm m k := ⟨by omega, fun _ => h⟩
theorem down_any (m k : Nat) (w : World) (hm' : okm m k) (hk : 1 ≤ k) :
    Calls Tryz.prog 149 #[.int .u64 (m : Nat), .int .i64 (k : Nat)] w fun e w' => e = .returned (.tuple #[.int .u64 ((m / 2 ^ k : Nat) : Int), .int .i64 (rc m k)]) ∧ w' = w := by
  have hm : m ≤ 9223372036854775808 := hm'.1
  by_cases c : 63 < k
  · have hm2 := hm'.2 c
    have hp : 2 ^ 64 ≤ 2 ^ k := Nat.pow_le_pow_right (by omega) (by omega)
    have e1 : m / 2 ^ k = 0 := Nat.div_eq_of_lt (by omega)
    have e2 : m % 2 ^ k = m := Nat.mod_eq_of_lt (by omega)
    unfold rc
    rw [e1, e2]
    by_cases z : m = 0
    · rw [if_pos z]; exact down_g0 m k w (by omega) z
    · rw [if_neg z, if_pos (by omega)]; exact down_g1 m k w (by omega) (by simp; omega)
  · have hp0 := pow_pos k
    have hp : 2 ^ k ≤ 2 ^ 63 := Nat.pow_le_pow_right (by omega) (by omega)
    have hd := Nat.div_add_mod m (2 ^ k)
    have hr := Nat.mod_lt m hp0
    obtain ⟨j, rfl⟩ : ∃ j, k = j + 1 := ⟨k - 1, by omega⟩
    have hj : 2 ^ (j + 1) = 2 * 2 ^ j := by rw [Nat.pow_succ]; omega
    have hj0 := pow_pos j
    have q1 : (m : Int) / 2 ^ (j + 1) = ((m / 2 ^ (j + 1) : Nat) : Int) := by
      rw [Int.natCast_ediv]; rfl
    have q2 : IntKind.u64.wrap (((m / 2 ^ (j + 1) : Nat) : Int) * 2 ^ (j + 1)) = ((m / 2 ^ (j + 1) * 2 ^ (j + 1) : Nat) : Int) := by
      have e : ((m / 2 ^ (j + 1) : Nat) : Int) * 2 ^ (j + 1) = ((m / 2 ^ (j + 1) * 2 ^ (j + 1) : Nat) : Int) := by
        rw [Int.natCast_mul]; rfl
      rw [e, wrap_id]
      · omega
      · rw [Nat.mul_comm]; omega
    have q3 : IntKind.u64.wrap ((m : Int) - ((m / 2 ^ (j + 1) * 2 ^ (j + 1) : Nat) : Int)) = ((m % 2 ^ (j + 1) : Nat) : Int) := by
      rw [Nat.mul_comm, wrap_id] <;> omega
    have q4 : IntKind.u64.wrap (2 ^ (j + 1 - 1)) = ((2 ^ j : Nat) : Int) := by
      rw [show j + 1 - 1 = j by omega]
      have e : (2 : Int) ^ j = ((2 ^ j : Nat) : Int) := by rw [Int.natCast_pow]; rfl
      rw [e, wrap_id] <;> omega
    unfold rc
    rw [hj] at *
    generalize m / (2 * 2 ^ j) = q at *
    generalize m % (2 * 2 ^ j) = r at *
    rw [hj] at *
    by_cases z : r = 0
    · rw [if_pos z]; exact down_0 m (j + 1) w (by omega) (by omega) q _ r _ q1 q2 q3 q4 (by simp; omega)
    · have z' : ((r : Int) == 0) = false := by simp; omega
      rw [if_neg z]
      by_cases c1 : r < 2 ^ j
      · rw [if_pos (by omega)]; exact down_1 m (j + 1) w (by omega) (by omega) q _ r _ q1 q2 q3 q4 z' c1
      · rw [if_neg (by omega)]
        by_cases c2 : r = 2 ^ j
        · rw [if_pos (by omega)]; exact down_2 m (j + 1) w (by omega) (by omega) q _ r _ q1 q2 q3 q4 z' c1 (by rw [c2]; simp)
        · rw [if_neg (by omega)]; exact down_3 m (j + 1) w (by omega) (by omega) q _ r _ q1 q2 q3 q4 z' c1 (by
            have : ¬ (r : Int) = ((2 ^ j : Nat) : Int) := by omega
            simp only [beq_eq_false_iff_ne, ne_eq, this, not_false_eq_true])
end Go.Proofs.YtgeipbegpflkhaaGreatDoor.Ref2

/-
  What Round, Floor and Clamp of the reference of layer 2 return: walks over the program.
-/
namespace Go.Proofs.YtgeipbegpflkhaaGreatDoor.Ref2
open Go.RowKit Tf
attribute [local go_sem] run_bits run_from raw_feq raw_fne raw_flt raw_fgt run_neg

theorem down_at (m k q : Nat) (c : Int) (w : World) (hm : okm m k) (hk : 1 ≤ k) (hq : m / 2 ^ k = q) (hc : rc m k = c) :
    Calls Tryz.prog 149 #[.int .u64 (m : Nat), .int .i64 (k : Nat)] w fun e w' => e = .returned (.tuple #[.int .u64 (q : Nat), .int .i64 c]) ∧ w' = w := by
  subst hq hc; exact down_any m k w hm hk
set_option maxHeartbeats 1000000 in
theorem near_01 (m k q : Nat) (w : World) (hm : Hid (okm m k)) (hk : 1 ≤ k) (hq : Hid (m / 2 ^ k = q)) (_q1 : (q : Int) + 1 < 18446744073709551616) (c : Int) (hc : Hid (rc m k = c)) (c3 : (c == 3) = false) (c2 : (c == 2) = false) :
    Calls Tryz.prog 133 #[.int .u64 (m : Nat), .int .i64 (k : Nat)] w fun e w' => e = .returned (.int .u64 ((q : Nat))) ∧ w' = w := by
  go_enter Tryz.func133, Tryz.ntmps133
  go_wp2_with fail
  refine (down_at m k q c _ hm.out hk hq.out hc.out).mono ?_
  rintro e w' ⟨rfl, rfl⟩
  go_wp2
  go_ret
  exact ⟨rfl, rfl⟩

set_option maxHeartbeats 1000000 in
theorem near_3 (m k q : Nat) (w : World) (hm : Hid (okm m k)) (hk : 1 ≤ k) (hq : Hid (m / 2 ^ k = q)) (q1 : (q : Int) + 1 < 18446744073709551616) (hc : Hid (rc m k = 3)) :
    Calls Tryz.prog 133 #[.int .u64 (m : Nat), .int .i64 (k : Nat)] w fun e w' => e = .returned (.int .u64 ((q : Int) + 1)) ∧ w' = w := by
  go_enter Tryz.func133, Tryz.ntmps133
  go_wp2_with fail
  refine (down_at m k q 3 _ hm.out hk hq.out hc.out).mono ?_
  rintro e w' ⟨rfl, rfl⟩
  go_wp2
  go_ret
  exact ⟨rfl, rfl⟩

set_option maxHeartbeats 1000000 in
theorem near_2o (m k q : Nat) (w : World) (hm : Hid (okm m k)) (hk : 1 ≤ k) (hq : Hid (m / 2 ^ k = q)) (q1 : (q : Int) + 1 < 18446744073709551616) (hc : Hid (rc m k = 2)) (o : ((q : Int) % 2 == 1) = true) :
    Calls Tryz.prog 133 #[.int .u64 (m : Nat), .int .i64 (k : Nat)] w fun e w' => e = .returned (.int .u64 ((q : Int) + 1)) ∧ w' = w := by
  go_enter Tryz.func133, Tryz.ntmps133
  go_wp2_with fail
  refine (down_at m k q 2 _ hm.out hk hq.out hc.out).mono ?_
  rintro e w' ⟨rfl, rfl⟩
  go_wp2
  go_ret
  exact ⟨rfl, rfl⟩

set_option maxHeartbeats 1000000 in
theorem near_2e (m k q : Nat) (w : World) (hm : Hid (okm m k)) (hk : 1 ≤ k) (hq : Hid (m / 2 ^ k = q)) (_q1 : (q : Int) + 1 < 18446744073709551616) (hc : Hid (rc m k = 2)) (o : ((q : Int) % 2 == 1) = false) :
    Calls Tryz.prog 133 #[.int .u64 (m : Nat), .int .i64 (k : Nat)] w fun e w' => e = .returned (.int .u64 ((q : Nat))) ∧ w' = w := by
  go_enter Tryz.func133, Tryz.ntmps133
  go_wp2_with fail
  refine (down_at m k q 2 _ hm.out hk hq.out hc.out).mono ?_
  rintro e w' ⟨rfl, rfl⟩
  go_wp2
  go_ret
  exact ⟨rfl, rfl⟩


theorem near_at (m k r : Nat) (w : World) (hm : okm m k) (hk : 1 ≤ k) (hr : rne m (2 ^ k) = r) :
    Calls Tryz.prog 133 #[.int .u64 (m : Nat), .int .i64 (k : Nat)] w fun e w' => e = .returned (.int .u64 (r : Nat)) ∧ w' = w := by
  subst hr
  have hq : m / 2 ^ k ≤ m := Nat.div_le_self ..
  have l : ((m / 2 ^ k : Nat) : Int) + 1 < 18446744073709551616 := by have := hm.1; omega
  unfold rne
  have hrc : rc m k = if m % 2 ^ k = 0 then 0 else if 2 * (m % 2 ^ k) < 2 ^ k then 1 else if 2 * (m % 2 ^ k) = 2 ^ k then 2 else 3 := rfl
  have hp := pow_pos k
  by_cases c0 : m % 2 ^ k = 0
  · rw [if_pos c0] at hrc
    rw [if_neg (by omega)]
    exact near_01 m k _ w hm hk rfl l 0 hrc (by decide) (by decide)
  · rw [if_neg c0] at hrc
    by_cases c1 : 2 * (m % 2 ^ k) < 2 ^ k
    · rw [if_pos c1] at hrc
      rw [if_neg (by omega)]
      exact near_01 m k _ w hm hk rfl l 1 hrc (by decide) (by decide)
    · rw [if_neg c1] at hrc
      by_cases c2 : 2 * (m % 2 ^ k) = 2 ^ k
      · rw [if_pos c2] at hrc
        by_cases c3 : m / 2 ^ k % 2 = 1
        · rw [if_pos (.inr ⟨c2.symm, c3⟩)]
          exact near_2o m k _ w hm hk rfl l hrc (by simp only [beq_iff_eq]; omega)
        · rw [if_neg (by omega)]
          exact near_2e m k _ w hm hk rfl l hrc (by simp only [beq_eq_false_iff_ne, ne_eq]; omega)
      · rw [if_neg c2] at hrc
        rw [if_pos (by omega)]
        exact near_3 m k _ w hm hk rfl l hrc

/-- a magnitude with its sign -/
def wk (neg : Bool) (m : Nat) : Bool := if neg then decide (m ≤ 9223372036854775808) else decide (m < 9223372036854775808)
def wi (neg : Bool) (m : Nat) : Int := if wk neg m then (if neg then -(m : Int) else (m : Int)) else 0
set_option maxHeartbeats 1000000 in
theorem whole_n (m : Nat) (w : World) (h : (m : Int) ≤ 9223372036854775808) (e1 : wrap64 (IntKind.u64.wrap (-(m : Int))) = -(m : Int)) :
    Calls Tryz.prog 142 #[.bool true, .int .u64 (m : Nat)] w fun e w' => e = .returned (.tuple #[.int .i64 (-(m : Int)), .bool true]) ∧ w' = w := by
  go_enter Tryz.func142, Tryz.ntmps142
  go_wp2
  go_ret2
  refine ⟨?_, rfl⟩
  show Ending.returned (.tuple #[.int .i64 (wrap64 (IntKind.u64.wrap (-(m : Int)))), .bool true]) = _
  rw [e1]

set_option maxHeartbeats 1000000 in
theorem whole_no (m : Nat) (w : World) (h : ¬ (m : Int) ≤ 9223372036854775808) :
    Calls Tryz.prog 142 #[.bool true, .int .u64 (m : Nat)] w fun e w' => e = .returned (.tuple #[.int .i64 0, .bool false]) ∧ w' = w := by
  go_enter Tryz.func142, Tryz.ntmps142
  go_wp2
  go_ret2
  exact ⟨rfl, rfl⟩

set_option maxHeartbeats 1000000 in
theorem whole_p (m : Nat) (w : World) (h : decide ((9223372036854775808 : Int) ≤ (m : Int)) = false) (e1 : wrap64 (m : Int) = (m : Int)) :
    Calls Tryz.prog 142 #[.bool false, .int .u64 (m : Nat)] w fun e w' => e = .returned (.tuple #[.int .i64 (m : Int), .bool true]) ∧ w' = w := by
  go_enter Tryz.func142, Tryz.ntmps142
  go_wp2
  go_ret2
  refine ⟨?_, rfl⟩
  show Ending.returned (.tuple #[.int .i64 (wrap64 (m : Int)), .bool true]) = _
  rw [e1]

set_option maxHeartbeats 1000000 in
theorem whole_po (m : Nat) (w : World) (h : decide ((9223372036854775808 : Int) ≤ (m : Int)) = true) :
    Calls Tryz.prog 142 #[.bool false, .int .u64 (m : Nat)] w fun e w' => e = .returned (.tuple #[.int .i64 0, .bool false]) ∧ w' = w := by
  go_enter Tryz.func142, Tryz.ntmps142
  go_wp2
  go_ret2
  exact ⟨rfl, rfl⟩

theorem whole_at (neg : Bool) (m : Nat) (i : Int) (ok : Bool) (w : World) (hm : m < 18446744073709551616) (hi : wi neg m = i) (hk : wk neg m = ok) :
    Calls Tryz.prog 142 #[.bool neg, .int .u64 (m : Nat)] w fun e w' => e = .returned (.tuple #[.int .i64 i, .bool ok]) ∧ w' = w := by
  subst hi hk
  unfold wi wk
  cases neg
  · simp only [Bool.false_eq_true, if_false]
    by_cases c : m < 9223372036854775808
    · rw [decide_eq_true c, if_pos rfl]; exact whole_p m w (decide_eq_false (by omega)) (by unfold wrap64; omega)
    · rw [decide_eq_false c, if_neg (by decide)]; exact whole_po m w (decide_eq_true (by omega))
  · simp only [if_true]
    by_cases c : m ≤ 9223372036854775808
    · rw [decide_eq_true c, if_pos rfl]
      refine whole_n m w (by omega) ?_
      unfold wrap64
      by_cases z : m = 0
      · subst z; decide
      · have : IntKind.u64.wrap (-(m : Int)) = 18446744073709551616 - (m : Int) := by
          simp [IntKind.wrap, IntKind.bits, IntKind.signed]; omega
        rw [this]; omega
    · rw [decide_eq_false c, if_neg (by decide)]; exact whole_no m w (by omega)

/-- too great for 64 bits -/
def gr (m e : Nat) : Bool := decide (m ≠ 0) && (decide (11 < e) || decide (9223372036854775808 / 2 ^ e < m))
set_option maxHeartbeats 1000000 in
theorem great_0 (e : Nat) (w : World) :
    Calls Tryz.prog 141 #[.int .u64 0, .int .i64 (e : Nat)] w fun e w' => e = .returned (.bool false) ∧ w' = w := by
  go_enter Tryz.func141, Tryz.ntmps141
  go_wp2
  go_ret
  exact ⟨rfl, rfl⟩

set_option maxHeartbeats 1000000 in
theorem great_e (m e : Nat) (w : World) (h : ((m : Int) != 0) = true) (h1 : (11 : Int) < e) :
    Calls Tryz.prog 141 #[.int .u64 (m : Nat), .int .i64 (e : Nat)] w fun e w' => e = .returned (.bool true) ∧ w' = w := by
  go_enter Tryz.func141, Tryz.ntmps141
  go_wp2
  go_ret
  exact ⟨rfl, rfl⟩

set_option maxHeartbeats 1000000 in
theorem great_m (m e : Nat) (b : Bool) (w : World) (h : ((m : Int) != 0) = true) (h1 : ¬ (11 : Int) < e) (h2 : decide ((9223372036854775808 : Int) / 2 ^ e < (m : Int)) = b) :
    Calls Tryz.prog 141 #[.int .u64 (m : Nat), .int .i64 (e : Nat)] w fun e w' => e = .returned (.bool b) ∧ w' = w := by
  go_enter Tryz.func141, Tryz.ntmps141
  go_wp2
  go_ret
  exact ⟨rfl, rfl⟩

theorem great_at (m e : Nat) (b : Bool) (w : World) (hb : gr m e = b) :
    Calls Tryz.prog 141 #[.int .u64 (m : Nat), .int .i64 (e : Nat)] w fun e w' => e = .returned (.bool b) ∧ w' = w := by
  subst hb
  unfold gr
  by_cases z : m = 0
  · subst z; exact great_0 e w
  · have h : ((m : Int) != 0) = true := by simp; omega
    rw [decide_eq_true z, Bool.true_and]
    by_cases c : 11 < e
    · rw [decide_eq_true c, Bool.true_or]; exact great_e m e w h (by omega)
    · rw [decide_eq_false c, Bool.false_or]
      refine great_m m e _ w h (by omega) (decide_eq_decide.2 ?_)
      have e1 : (9223372036854775808 : Int) / 2 ^ e = ((9223372036854775808 / 2 ^ e : Nat) : Int) := by
        rw [Int.natCast_ediv]; rfl
      rw [e1]; omega

theorem greatI (m : Nat) (e : Int) (b : Bool) (w : World) (he : 0 ≤ e) (hb : gr m e.toNat = b) :
    Calls Tryz.prog 141 #[.int .u64 (m : Nat), .int .i64 e] w fun e w' => e = .returned (.bool b) ∧ w' = w := by
  obtain ⟨k, rfl⟩ : ∃ k : Nat, e = k := ⟨e.toNat, by omega⟩
  rw [Int.toNat_natCast] at hb
  exact great_at m k b w hb
theorem parts_at (x m : Nat) (e : Int) (n : Bool) (w : World) (hx : x < 18446744073709551616) (fx : mg x < 9218868437227405312) (hm : pm x = m) (he : pe x = e) (hn : ng x = n) :
    Calls Tryz.prog 140 #[.float .f64 x] w fun e' w' => e' = .returned (.tuple #[.bool n, .int .u64 (m : Nat), .int .i64 e, .int .i64 0]) ∧ w' = w := by
  subst hm he hn; exact parts_fin x w hx fx
theorem parts_iat (x : Nat) (n : Bool) (w : World) (hx : x < 18446744073709551616) (fx : mg x = 9218868437227405312) (hn : ng x = n) :
    Calls Tryz.prog 140 #[.float .f64 x] w fun e w' => e = .returned (.tuple #[.bool n, .int .u64 0, .int .i64 0, .int .i64 1]) ∧ w' = w := by
  subst hn; exact parts_i x w hx fx
theorem parts_nat (x : Nat) (n : Bool) (w : World) (hx : x < 18446744073709551616) (fx : isN x = true) (hn : ng x = n) :
    Calls Tryz.prog 140 #[.float .f64 x] w fun e w' => e = .returned (.tuple #[.bool n, .int .u64 0, .int .i64 0, .int .i64 2]) ∧ w' = w := by
  subst hn; exact parts_n x w hx fx
set_option maxHeartbeats 1000000 in
theorem rr_inf (x : Nat) (n : Bool) (w : World) (hx : Hid (x < 18446744073709551616)) (hn : Hid (ng x = n)) (fx : Hid (mg x = 9218868437227405312)) :
    Calls Tryz.prog 108 #[.float .f64 x] w fun e w' => e = .returned (.tuple #[.int .i64 0, .bool false]) ∧ w' = w := by
  go_enter Tryz.func108, Tryz.ntmps108
  go_wp2_with fail
  refine (parts_iat x n _ hx.out fx.out hn.out).mono ?_
  rintro e w' ⟨rfl, rfl⟩
  go_wp2
  go_ret2
  exact ⟨rfl, rfl⟩

set_option maxHeartbeats 1000000 in
theorem rr_nan (x : Nat) (n : Bool) (w : World) (hx : Hid (x < 18446744073709551616)) (hn : Hid (ng x = n)) (fx : Hid (isN x = true)) :
    Calls Tryz.prog 108 #[.float .f64 x] w fun e w' => e = .returned (.tuple #[.int .i64 0, .bool false]) ∧ w' = w := by
  go_enter Tryz.func108, Tryz.ntmps108
  go_wp2_with fail
  refine (parts_nat x n _ hx.out fx.out hn.out).mono ?_
  rintro e w' ⟨rfl, rfl⟩
  go_wp2
  go_ret2
  exact ⟨rfl, rfl⟩

set_option maxHeartbeats 1000000 in
theorem rr_gr (x : Nat) (n : Bool) (w : World) (hx : Hid (x < 18446744073709551616)) (hn : Hid (ng x = n)) (fx : Hid (mg x < 9218868437227405312)) (m : Nat) (pm' : Hid (pm x = m)) (e : Int) (e0 : 0 ≤ e) (pe' : Hid (pe x = e)) (g : Hid (gr m e.toNat = true)) :
    Calls Tryz.prog 108 #[.float .f64 x] w fun e w' => e = .returned (.tuple #[.int .i64 0, .bool false]) ∧ w' = w := by
  go_enter Tryz.func108, Tryz.ntmps108
  go_wp2_with fail
  refine (parts_at x m e n _ hx.out fx.out pm'.out pe'.out hn.out).mono ?_
  rintro e w' ⟨rfl, rfl⟩
  go_wp2_with fail
  refine (greatI m e true _ e0 g.out).mono ?_
  rintro e w' ⟨rfl, rfl⟩
  go_wp2
  go_ret2
  exact ⟨rfl, rfl⟩

set_option maxHeartbeats 1000000 in
theorem rr_up (x : Nat) (n : Bool) (w : World) (hx : Hid (x < 18446744073709551616)) (hn : Hid (ng x = n)) (fx : Hid (mg x < 9218868437227405312)) (m : Nat) (pm' : Hid (pm x = m)) (e : Int) (e0 : 0 ≤ e) (e1 : e < 12) (pe' : Hid (pe x = e)) (g : Hid (gr m e.toNat = false)) (p : Nat) (hp : IntKind.u64.wrap ((m : Int) * 2 ^ e.toNat) = (p : Int)) (lp : Hid (p < 18446744073709551616)) (i : Int) (ok : Bool) (hi : Hid (wi n p = i)) (hk : Hid (wk n p = ok)) :
    Calls Tryz.prog 108 #[.float .f64 x] w fun e w' => e = .returned (.tuple #[.int .i64 i, .bool ok]) ∧ w' = w := by
  go_enter Tryz.func108, Tryz.ntmps108
  go_wp2_with fail
  refine (parts_at x m e n _ hx.out fx.out pm'.out pe'.out hn.out).mono ?_
  rintro e w' ⟨rfl, rfl⟩
  go_wp2_with fail
  refine (greatI m e false _ e0 g.out).mono ?_
  rintro e w' ⟨rfl, rfl⟩
  go_wp2_with fail
  refine (whole_at n p i ok _ lp.out hi.out hk.out).mono ?_
  rintro e w' ⟨rfl, rfl⟩
  go_wp2
  go_ret2
  exact ⟨rfl, rfl⟩

set_option maxHeartbeats 1000000 in
theorem rr_dn (x : Nat) (n : Bool) (w : World) (hx : Hid (x < 18446744073709551616)) (hn : Hid (ng x = n)) (fx : Hid (mg x < 9218868437227405312)) (m : Nat) (pm' : Hid (pm x = m)) (k : Nat) (lm : Hid (okm m k)) (k1 : 1 ≤ k) (e : Int) (e1 : -5000 < e) (ek : -e = (k : Int)) (pe' : Hid (pe x = e)) (r : Nat) (hr : Hid (rne m (2 ^ k) = r)) (lr : Hid (r < 18446744073709551616)) (i : Int) (ok : Bool) (hi : Hid (wi n r = i)) (hk : Hid (wk n r = ok)) :
    Calls Tryz.prog 108 #[.float .f64 x] w fun e w' => e = .returned (.tuple #[.int .i64 i, .bool ok]) ∧ w' = w := by
  go_enter Tryz.func108, Tryz.ntmps108
  go_wp2_with fail
  refine (parts_at x m e n _ hx.out fx.out pm'.out pe'.out hn.out).mono ?_
  rintro e w' ⟨rfl, rfl⟩
  go_wp2_with fail
  refine (near_at m k r _ lm.out k1 hr.out).mono ?_
  rintro e w' ⟨rfl, rfl⟩
  go_wp2_with fail
  refine (whole_at n r i ok _ lr.out hi.out hk.out).mono ?_
  rintro e w' ⟨rfl, rfl⟩
  go_wp2
  go_ret2
  exact ⟨rfl, rfl⟩

end Go.Proofs.YtgeipbegpflkhaaGreatDoor.Ref2

/-
  Round, Floor and Clamp of the reference of layer 2 answer what the code's do: walks over the program.
-/
namespace Go.Proofs.YtgeipbegpflkhaaGreatDoor.Ref2
open Go.RowKit Tf
attribute [local go_sem] run_bits run_from raw_feq raw_fne raw_flt raw_fgt run_neg

theorem cut_up (way : Ieee.Toward) (x : Nat) (h : 0 ≤ pe x) : cutq way (ng x) (mv (mg x)) one = pm x * 2 ^ (pe x).toNat := by
  have hK := K_eq
  have e : (pe x + 1074).toNat = (pe x).toNat + K := by omega
  rw [mv_parts, e, Nat.pow_add, ← Nat.mul_assoc, ← one_pow, cutq_mul _ _ _ _ one_pos]
theorem cut_dn (way : Ieee.Toward) (x k : Nat) (h : pe x = -(k : Int)) : cutq way (ng x) (mv (mg x)) one = cutq way (ng x) (pm x) (2 ^ k) := by
  have hK := K_eq
  have hg := pe_ge x
  have e : (pe x + 1074).toNat = K - k := by omega
  have e2 : one = 2 ^ k * 2 ^ (K - k) := by rw [one_pow, ← Nat.pow_add]; congr 1; omega
  rw [mv_parts, e, e2, cutq_scale _ _ _ _ _ (pow_pos _)]
theorem cOk_wk (way : Ieee.Toward) (x : Nat) (fx : mg x < 9218868437227405312) : cOk way x = wk (ng x) (cutq way (ng x) (mv (mg x)) one) ∧ cI way x = wi (ng x) (cutq way (ng x) (mv (mg x)) one) := by
  have e : cOk way x = wk (ng x) (cutq way (ng x) (mv (mg x)) one) := by
    unfold cOk wk cq fin
    rw [decide_eq_true fx, Bool.true_and]
    generalize cutq way (ng x) (mv (mg x)) one = M
    cases ng x
    · simp only [Bool.false_eq_true, if_false]
      rw [decide_eq_true (by omega), Bool.true_and]
      exact decide_eq_decide.2 (by omega)
    · simp only [if_true]
      rw [show decide (-(M : Int) < 9223372036854775808) = true from decide_eq_true (by omega), Bool.and_true]
      exact decide_eq_decide.2 (by omega)
  refine ⟨e, ?_⟩
  unfold cI wi
  rw [e]
  rfl
theorem pm_great (x : Nat) (h : 0 ≤ pe x) : 4503599627370496 ≤ pm x := by
  unfold pm pe at *
  by_cases c : mg x / 4503599627370496 = 0
  · rw [if_pos c] at h; omega
  · rw [if_neg c]; omega
theorem gr_true (x : Nat) (h : 0 ≤ pe x) (g : gr (pm x) (pe x).toNat = true) : 9223372036854775808 < pm x * 2 ^ (pe x).toNat := by
  have h1 := pm_great x h
  unfold gr at g
  simp only [Bool.and_eq_true, Bool.or_eq_true, decide_eq_true_eq] at g
  generalize (pe x).toNat = k at *
  rcases g.2 with c | c
  · have : 2 ^ 12 ≤ 2 ^ k := Nat.pow_le_pow_right (by omega) (by omega)
    have := Nat.mul_le_mul h1 this
    omega
  · exact (Nat.div_lt_iff_lt_mul (pow_pos k)).1 c
theorem gr_false (x : Nat) (h : 0 ≤ pe x) (g : gr (pm x) (pe x).toNat = false) : pe x < 12 ∧ pm x * 2 ^ (pe x).toNat ≤ 9223372036854775808 := by
  have h1 := pm_great x h
  unfold gr at g
  rw [decide_eq_true (show pm x ≠ 0 by omega), Bool.true_and, Bool.or_eq_false_iff] at g
  have g1 := of_decide_eq_false g.1
  have g2 := of_decide_eq_false g.2
  refine ⟨by omega, ?_⟩
  rw [Nat.div_lt_iff_lt_mul (pow_pos _)] at g2
  omega
theorem wrap_pow (m k p : Nat) (hp : p = m * 2 ^ k) (h : p < 18446744073709551616) : IntKind.u64.wrap ((m : Int) * 2 ^ k) = (p : Int) := by
  have e : (m : Int) * 2 ^ k = (p : Int) := by rw [hp, Int.natCast_mul]; rfl
  rw [e, wrap_id] <;> omega
theorem wk_great (n : Bool) (M : Nat) (h : 9223372036854775808 < M) : wk n M = false ∧ wi n M = 0 := by
  have e : wk n M = false := by unfold wk; cases n <;> simp <;> omega
  exact ⟨e, by unfold wi; rw [e]; rfl⟩

theorem refRound_at (x : Nat) (i : Int) (ok : Bool) (w : World) (hx : x < 18446744073709551616) (hi : cI .even x = i) (ho : cOk .even x = ok) :
    Calls Tryz.prog 108 #[.float .f64 x] w fun e w' => e = .returned (.tuple #[.int .i64 i, .bool ok]) ∧ w' = w := by
  subst hi ho
  cases n : isN x
  · have hle := isN_false.1 n
    by_cases fx : mg x < 9218868437227405312
    · obtain ⟨k1, k2⟩ := cOk_wk .even x fx
      have lm := pm_lt x
      by_cases h : 0 ≤ pe x
      · rw [cut_up .even x h] at k1 k2
        cases g : gr (pm x) (pe x).toNat
        · obtain ⟨e1, l⟩ := gr_false x h g
          exact rr_up x _ w hx rfl fx _ rfl _ h e1 rfl g _ (wrap_pow _ _ _ rfl (by omega)) (show _ < _ by omega) _ _ k2.symm k1.symm
        · have l := gr_true x h g
          obtain ⟨z1, z2⟩ := wk_great (ng x) _ l
          rw [k1, k2, z1, z2]
          exact rr_gr x _ w hx rfl fx _ rfl _ h rfl g
      · have hg := pe_ge x
        obtain ⟨k, hk⟩ : ∃ k : Nat, pe x = -(k : Int) := ⟨(-pe x).toNat, by omega⟩
        rw [cut_dn .even x k hk] at k1 k2
        have lk : pm x / 2 ^ k ≤ pm x := Nat.div_le_self ..
        rw [cutq_even] at k1 k2
        have lr := rne_le (pm x) (2 ^ k)
        exact rr_dn x _ w hx rfl fx _ rfl k (okm_of _ _ (by omega)) (by omega) _ (by omega) (show -pe x = (k : Int) by omega) rfl _ rfl (show _ < _ by omega) _ _ k2.symm k1.symm
    · have o : cOk .even x = false ∧ cI .even x = 0 := by
        have e : cOk .even x = false := by unfold cOk fin; rw [decide_eq_false fx]; rfl
        exact ⟨e, by unfold cI; rw [e]; rfl⟩
      rw [o.1, o.2]
      exact rr_inf x _ w hx rfl (show _ = _ by omega)
  · obtain ⟨o1, o2⟩ := cOk_nan .even n
    rw [o1, o2]
    exact rr_nan x _ w hx rfl n

theorem clamp_mag (x : Nat) (most : Int) (hx : x < 18446744073709551616) (fx : mg x < 9218868437227405312) (hm : clampM most ≤ 9223372036854775807) :
    clampB x most = if ng x then -(min ((cutq .even (ng x) (mv (mg x)) one : Nat) : Int) (clampM most)) else min ((cutq .even (ng x) (mv (mg x)) one : Nat) : Int) (clampM most) := by
  have n : isN x = false := isN_false.2 (by omega)
  have m0 := clampM_nonneg most
  obtain ⟨k1, k2⟩ := cOk_wk .even x fx
  have hg := fgt_zero x hx n
  unfold clampB
  rw [n, if_neg (by decide), k1, k2, hg]
  have hM : mg x = 0 → cutq .even (ng x) (mv (mg x)) one = 0 := by
    intro h
    rw [h, mv_zero]
    have := cutq_mul .even (ng x) 0 one one_pos
    rwa [Nat.zero_mul] at this
  generalize cutq .even (ng x) (mv (mg x)) one = M at *
  unfold wi wk rk
  cases hn : ng x
  · simp only [Bool.false_eq_true, if_false]
    by_cases c : M < 9223372036854775808
    · rw [decide_eq_true c, if_pos rfl, if_pos rfl]; omega
    · rw [decide_eq_false c, if_neg (by decide)]
      have : 0 < mg x := by
        by_cases z : mg x = 0
        · have := hM z; omega
        · omega
      rw [decide_eq_true (by omega), if_pos rfl]; omega
  · simp only [if_true]
    by_cases c : M ≤ 9223372036854775808
    · rw [decide_eq_true c, if_pos rfl, if_pos rfl]; omega
    · rw [decide_eq_false c, if_neg (by decide), decide_eq_false (by omega), if_neg (by decide)]; omega

end Go.Proofs.YtgeipbegpflkhaaGreatDoor.Ref2
