/-
  Some of the texts of this proof, one behind the other.
-/
import Derived.ProofKit
import Derived.OpenShut
import Derived.WalkLawsBesides
import Derived.Stop.Joined
import Derived.Carry
import Derived.Lib.SmallJoins
import Derived.Deep.SlicePairs
import Derived.Deep.Slices
import Derived.Lib.SliceRun
import Derived.Test.YtcmpiohiganliaaGreatDoorSb12
namespace Go.Proofs.YtcmpiohiganliaaGreatDoor
open Go.RowKit Tf Cu Go.Deep
attribute [local go_sem] run_bits run_from raw_feq raw_fne raw_flt raw_fgt run_neg run_store_float
namespace Ss
theorem mul_p1 (x : Nat) (hx : x < 18446744073709551616) (fx : mg x < 9218868437227405312) : Ieee.double.mul x 4607182418800017408 = some x := by
  rw [mul_exact x 4607182418800017408 (mg x) hx fx (by omega) (by omega) rfl]
  unfold ng mg
  by_cases c : 9223372036854775808 ≤ x
  · rw [decide_eq_true c, if_pos rfl]
    refine congrArg some ?_
    omega
  · rw [decide_eq_false c, if_neg (by decide)]
    refine congrArg some ?_
    omega
theorem mul_m1 (x : Nat) (hx : x < 18446744073709551616) (fx : mg x < 9218868437227405312) : Ieee.double.mul x 13830554455654793216 = some (negB x) := by
  have hK : (1074 : Nat) = K := rfl
  have m1 : mg 13830554455654793216 = 4607182418800017408 := by decide
  have n1 : ng 13830554455654793216 = true := by decide
  have rg : rung 52 K (mv (mg x) * 2 ^ K) = mg x := rung_mag 52 K (mg x) (by omega)
  rw [mul_d x 13830554455654793216 hx (by omega) fx (by rw [m1]; omega), m1, n1, show mv 4607182418800017408 = one from rfl, one_pow, hK, rg, Nat.min_eq_left (by omega)]
  unfold negB ng mg
  by_cases c : 9223372036854775808 ≤ x
  · rw [decide_eq_true c]
    simp only [Bool.xor_true, Bool.not_true, Bool.false_eq_true, if_false, if_true]
    refine congrArg some ?_
    omega
  · rw [decide_eq_false c]
    simp only [Bool.xor_true, Bool.not_false, if_true, Bool.false_eq_true, if_false]
    refine congrArg some ?_
    omega
/-- a speed times a sign -/
def msg (x : Nat) (s : Int) : Nat := if s < 0 then negB x else x
theorem fs_1 : floatOfInt .f64 1 = 4607182418800017408 := by decide +kernel
theorem fs_n1 : floatOfInt .f64 (-1) = 13830554455654793216 := by decide +kernel
theorem mul_sg {x : Nat} {s : Int} (hx : x < 18446744073709551616) (fx : mg x < 9218868437227405312) (hs : s = 1 ∨ s = -1) : Ieee.double.mul x (floatOfInt .f64 s) = some (msg x s) := by
  rcases hs with rfl | rfl
  · rw [fs_1, mul_p1 x hx fx]; rfl
  · rw [fs_n1, mul_m1 x hx fx]; rfl
theorem bS_fin {S : Nat → Nat} {i : Nat} (h : S i < 18446744073709551616) (k : bS S i = false) : mg (S i) < 9218868437227405312 := by
  have q := (bS_iff h).1 k
  have r := q.2.1
  unfold rk at r
  split at r <;> omega
section
variable {n r : Nat}
theorem eS_one (n t : Nat) : eS n t = 1 ∨ eS n t = -1 := by
  unfold eS
  split
  · exact .inl rfl
  · exact .inr rfl
theorem rk_seen (hn : 1 ≤ n) {S : Nat → Nat} (hS : ∀ e, e < 12 * n * n → cnF (S e)) {t : Nat} (ht : t < 24 * n * n) : rk (msg (S (eE n t)) (eS n t)) = rk (seen n S t) := by
  cases h : isL n t with
  | true =>
    have e1 : eE n t = eN n t := by unfold eE; rw [if_pos h]
    have e2 : eS n t = 1 := by unfold eS; rw [if_pos h]
    unfold msg
    rw [seen_l h, e1, e2, if_neg (by decide)]
  | false =>
    have m := isL_mt hn ht
    rw [h] at m
    have c := hS _ (ed_lt hn (mt_lt hn ht) m)
    have e1 : eE n t = eN n (mt n t) := by unfold eE; rw [if_neg (by rw [h]; decide)]
    have e2 : eS n t = -1 := by unfold eS; rw [if_neg (by rw [h]; decide)]
    unfold msg
    rw [seen_r h, e1, e2, if_pos (by decide), rk_ngC c]
    exact rk_negB _ c.1
/-- WATER GOES THE SAME WAY -/
theorem moves_pure (hn : 1 ≤ n) (hr : r < 24) {S : Nat → Nat} (hS : ∀ e, e < 12 * n * n → cnF (S e)) {t : Nat} (ht : t < 24 * n * n) : feq (msg (S (eE n t)) (eS n t)) (msg (tuS n r S (eE n (tnT n r t))) (eS n (tnT n r t))) = true := by
  have h1 := tnT_lt hn ht hr
  have c1 := hS _ (eE_lt hn ht)
  have c2 := tuS_cn hn hr hS (eE_lt hn h1)
  have m : ∀ x s, cnF x → msg x s < 18446744073709551616 ∧ isN (msg x s) = false := fun x s c => by
    unfold msg
    split
    · exact ⟨negB_lt c.1, by rw [isN_neg]; exact c.2.1⟩
    · exact ⟨c.1, c.2.1⟩
  have m1 := m _ (eS n t) c1
  have m2 := m _ (eS n (tnT n r t)) c2
  rw [feq_rk _ _ m1.1 m2.1, m1.2, m2.2, rk_seen hn hS ht, rk_seen hn (fun e he => tuS_cn hn hr hS he) h1, tuS_seen hn hr hS ht]
  simp
end
set_option maxRecDepth 100000 in
set_option maxHeartbeats 16000000 in
theorem smoves_w (side : Int) (pb : Option Addr) (lb cb : Nat) (pw : Option Addr) (lw cw : Nat) (pt : Option Addr) (lt ct : Nat) (ps : Option Addr) (ls cs : Nat) (sky st : Int) (turn : Int) (w : World) (LV : Hid (∀ v, Ab w v → Calls Tryz.prog 5 #[] v fun e w' => e = .returned (.bool true) ∧ Below v.heap.size v w'))
    (WA : Hid (∀ v, Calls Tryz.prog 6 #[.agg #[.slice pb lb cb, .slice pw lw cw, .slice pt lt ct, .slice ps ls cs, .int .i64 sky, .int .i64 st]] v fun e w' => e = .returned (.bool true) ∧ Below v.heap.size v w')) :
    Calls Tryz.prog 4 #[.int .i64 side, .agg #[.slice pb lb cb, .slice pw lw cw, .slice pt lt ct, .slice ps ls cs, .int .i64 sky, .int .i64 st], .int .i64 turn] w fun e w' => e = .returned (.bool true) ∧ Below w.heap.size w w' := by
  have A0 : Hid (Ab w (w.alloc (.cells #[.slice pb lb cb, .slice pw lw cw, .slice pt lt ct, .slice ps ls cs, .int .i64 sky, .int .i64 st] 25))) := bl1 _ _
  have R0 : Hid ((w.alloc (.cells #[.slice pb lb cb, .slice pw lw cw, .slice pt lt ct, .slice ps ls cs, .int .i64 sky, .int .i64 st] 25)).heap[w.heap.size]? = some (.cells #[.slice pb lb cb, .slice pw lw cw, .slice pt lt ct, .slice ps ls cs, .int .i64 sky, .int .i64 st] 25)) := heap_alloc_new _ _
  go_enter Tryz.func4, Tryz.ntmps4
  go_upto_region 1 with fail
  generalize hW : World.alloc w _ = V0 at *
  obtain ⟨g0, hga⟩ : ∃ g, w.heap.size = g := ⟨_, rfl⟩
  rw [hga] at R0 ⊢
  clear hga hW
  go_wp2_with fail
  refine (LV.out _ A0.out).mono ?_
  rintro e9 v1 ⟨rfl, b1⟩
  have A1 : Hid (Ab w v1) := A0.out.trans b1
  have R1 := hid (Ab.heap b1 R0.out)
  clear b1 A0 R0  
  have x0 := cell_of_row _ _ 0 _ _ _ R1.out
  have x1 := cell_of_row _ _ 1 _ _ _ R1.out
  have x2 := cell_of_row _ _ 2 _ _ _ R1.out
  have x3 := cell_of_row _ _ 3 _ _ _ R1.out
  have x4 := cell_of_row _ _ 4 _ _ _ R1.out
  have x5 := cell_of_row _ _ 5 _ _ _ R1.out
  go_wp2_with fail
  refine (WA.out _).mono ?_
  rintro e9 v2 ⟨rfl, b2⟩
  have A2 : Hid (Ab w v2) := A1.out.trans b2
  have R2 := hid (Ab.heap b2 R1.out)
  clear b2 A1 R1  x0 x1 x2 x3 x4 x5
  go_wp2
  go_ret
  exact ⟨rfl, A2.out⟩
set_option maxRecDepth 100000 in
set_option maxHeartbeats 64000000 in
theorem smoves_bad (side : Int) (pb : Option Addr) (lb cb : Nat) (pw : Option Addr) (lw cw : Nat) (pt : Option Addr) (lt ct : Nat) (ps : Option Addr) (ls cs : Nat) (sky st : Int) (turn y1 : Int) (k : Nat) (ce : Int) (Z0 : Nat → Nat) (Z1 : Nat → Int) (w : World) (LV : Hid (∀ v, Ab w v → Calls Tryz.prog 5 #[] v fun e w' => e = .returned (.bool true) ∧ Below v.heap.size v w'))
    (WA : Hid (∀ v, Calls Tryz.prog 6 #[.agg #[.slice pb lb cb, .slice pw lw cw, .slice pt lt ct, .slice ps ls cs, .int .i64 sky, .int .i64 st]] v fun e w' => e = .returned (.bool false) ∧ Below v.heap.size v w'))
    (ew : IntKind.u64.wrap turn = y1) (_y0 : 0 ≤ y1 ∧ y1 < 18446744073709551616) (et : y1.tmod 24 = k) (lti : (k : Int) < 24)
    (T1 : Hid (∀ v, Ab w v → Calls Tryz.prog 7 #[.int .i64 side, .agg #[.slice pb lb cb, .slice pw lw cw, .slice pt lt ct, .slice ps ls cs, .int .i64 sky, .int .i64 st], .int .i64 (k : Nat)] v fun e w' => ∃ vv, e = .returned (.tuple #[vv, .int .i64 ce]) ∧ Below v.heap.size v w' ∧ OwnS v.heap.size vv 0 0 0 0 Z0 Z1 Z1 Z0 0 0 w'))
    (BZ : Hid (Bnd 0 0 0 0 Z0 Z1 Z1 Z0))
    (n1 : (ce != 0) = true) :
    Calls Tryz.prog 4 #[.int .i64 side, .agg #[.slice pb lb cb, .slice pw lw cw, .slice pt lt ct, .slice ps ls cs, .int .i64 sky, .int .i64 st], .int .i64 turn] w fun e w' => e = .returned (.bool true) ∧ Below w.heap.size w w' := by
  have A0 : Hid (Ab w (w.alloc (.cells #[.slice pb lb cb, .slice pw lw cw, .slice pt lt ct, .slice ps ls cs, .int .i64 sky, .int .i64 st] 25))) := bl1 _ _
  have R0 : Hid ((w.alloc (.cells #[.slice pb lb cb, .slice pw lw cw, .slice pt lt ct, .slice ps ls cs, .int .i64 sky, .int .i64 st] 25)).heap[w.heap.size]? = some (.cells #[.slice pb lb cb, .slice pw lw cw, .slice pt lt ct, .slice ps ls cs, .int .i64 sky, .int .i64 st] 25)) := heap_alloc_new _ _
  go_enter Tryz.func4, Tryz.ntmps4
  go_upto_region 1 with fail
  generalize hW : World.alloc w _ = V0 at *
  obtain ⟨g0, hga⟩ : ∃ g, w.heap.size = g := ⟨_, rfl⟩
  rw [hga] at R0 ⊢
  clear hga hW
  go_wp2_with fail
  refine (LV.out _ A0.out).mono ?_
  rintro e9 v1 ⟨rfl, b1⟩
  have A1 : Hid (Ab w v1) := A0.out.trans b1
  have R1 := hid (Ab.heap b1 R0.out)
  clear b1 A0 R0  
  have x0 := cell_of_row _ _ 0 _ _ _ R1.out
  have x1 := cell_of_row _ _ 1 _ _ _ R1.out
  have x2 := cell_of_row _ _ 2 _ _ _ R1.out
  have x3 := cell_of_row _ _ 3 _ _ _ R1.out
  have x4 := cell_of_row _ _ 4 _ _ _ R1.out
  have x5 := cell_of_row _ _ 5 _ _ _ R1.out
  go_wp2_with fail
  refine (WA.out _).mono ?_
  rintro e9 v2 ⟨rfl, b2⟩
  have A2 : Hid (Ab w v2) := A1.out.trans b2
  have R2 := hid (Ab.heap b2 R1.out)
  clear b2 A1 R1  x0 x1 x2 x3 x4 x5
  have x0 := cell_of_row _ _ 0 _ _ _ R2.out
  have x1 := cell_of_row _ _ 1 _ _ _ R2.out
  have x2 := cell_of_row _ _ 2 _ _ _ R2.out
  have x3 := cell_of_row _ _ 3 _ _ _ R2.out
  have x4 := cell_of_row _ _ 4 _ _ _ R2.out
  have x5 := cell_of_row _ _ 5 _ _ _ R2.out
  go_wp2_with fail
  refine (T1.out v2 A2.out).mono ?_
  rintro e9 u3 ⟨vv, rfl, b3, os⟩
  obtain ⟨ap1, ac1, ap2, ac2, ap3, ac3, ap4, ac4, rfl, sn⟩ := sea_new os BZ.out
  have La : Hid (v2.heap.size ≤ u3.heap.size) := Ab.size (show Ab v2 u3 from b3)
  have BB : Hid (Ab v2 (u3.alloc (.cells #[.slice ap1 0 ac1, .slice ap2 0 ac2, .slice ap3 0 ac3, .slice ap4 0 ac4, .int .i64 0, .int .i64 0] 25))) := (show Ab v2 u3 from b3).trans (bl1 _ _)
  have Sa3 := hid sn
  have Y3 : Hid (u3.heap.size + 1 ≤ (u3.alloc (.cells #[.slice ap1 0 ac1, .slice ap2 0 ac2, .slice ap3 0 ac3, .slice ap4 0 ac4, .int .i64 0, .int .i64 0] 25)).heap.size) := by show _ ≤ (u3.heap.push _).size; simp
  clear os sn b3 x0 x1 x2 x3 x4 x5
  go_upto_region 6 with fail
  generalize hW : World.alloc u3 _ = v3 at *
  obtain ⟨ga, hg⟩ : ∃ g, u3.heap.size = g := ⟨_, rfl⟩
  rw [hg] at Sa3 La Y3 ⊢
  clear hg hW
  have A3 : Hid (Ab w v3) := A2.out.trans BB.out
  have R3 := hid (Ab.heap BB.out R2.out)
  have Wa : Hid (w.heap.size ≤ v2.heap.size) := Ab.size A2.out
  obtain ⟨Ma, hM⟩ : ∃ m, v2.heap.size = m := ⟨_, rfl⟩
  rw [hM] at Sa3 La Wa
  clear hM
  clear BB A2 R2 
  have x0 := cell_of_row _ _ 0 _ _ _ Sa3.out.1
  have x1 := cell_of_row _ _ 1 _ _ _ Sa3.out.1
  have x2 := cell_of_row _ _ 2 _ _ _ Sa3.out.1
  have x3 := cell_of_row _ _ 3 _ _ _ Sa3.out.1
  have x4 := cell_of_row _ _ 4 _ _ _ Sa3.out.1
  have x5 := cell_of_row _ _ 5 _ _ _ Sa3.out.1
  go_wp2
  go_ret
  exact ⟨rfl, A3.out⟩
set_option maxRecDepth 100000 in
set_option maxHeartbeats 128000000 in
theorem smoves_go (n N M : Nat) (q1 r1 cb q2 r2 cw q3 r3 ct q4 r4 cs : Nat) (B : Nat → Nat) (W T : Nat → Int) (S : Nat → Nat) (sky st : Int) (turn y1 : Int) (k : Nat) (F1 : Nat → Nat) (F2 F3 : Nat → Int) (F4 : Nat → Nat) (tc tq : Nat → Nat) (ed : Nat → Nat → Nat) (sg : Nat → Nat → Int) (w : World) (LV : Hid (∀ v, Ab w v → Calls Tryz.prog 5 #[] v fun e w' => e = .returned (.bool true) ∧ Below v.heap.size v w')) (hN : N ≤ 6144) (hN0 : 0 < N) (hM0 : 0 < M) (hM : M ≤ 12288)
    (WA : Hid (∀ v, Calls Tryz.prog 6 #[.agg #[.slice (some ⟨q1, r1, none⟩) N cb, .slice (some ⟨q2, r2, none⟩) N cw, .slice (some ⟨q3, r3, none⟩) N ct, .slice (some ⟨q4, r4, none⟩) M cs, .int .i64 sky, .int .i64 st]] v fun e w' => e = .returned (.bool false) ∧ Below v.heap.size v w'))
    (ew : IntKind.u64.wrap turn = y1) (_y0 : 0 ≤ y1 ∧ y1 < 18446744073709551616) (et : y1.tmod 24 = k) (lti : (k : Int) < 24)
    (T1 : Hid (∀ v, Ab w v → Calls Tryz.prog 7 #[.int .i64 (n : Nat), .agg #[.slice (some ⟨q1, r1, none⟩) N cb, .slice (some ⟨q2, r2, none⟩) N cw, .slice (some ⟨q3, r3, none⟩) N ct, .slice (some ⟨q4, r4, none⟩) M cs, .int .i64 sky, .int .i64 st], .int .i64 (k : Nat)] v fun e w' => ∃ vv, e = .returned (.tuple #[vv, .int .i64 0]) ∧ Below v.heap.size v w' ∧ OwnS v.heap.size vv N N N M F1 F2 F3 F4 sky st w'))
    (NW : Hid (∀ v, Ab w v → Calls Tryz.prog 11 #[.int .i64 (n : Nat)] v fun e w' => ∃ gb, e = .returned (.tuple #[.pointer (some ⟨gb, 0, none⟩), .int .i64 0]) ∧ Ab v w' ∧ GridOf n gb w'))
    (CE : Hid (∀ v gb, GridOf n gb v → Calls Tryz.prog 12 #[.pointer (some ⟨gb, 0, none⟩)] v fun e w' => e = .returned (.int .i64 (N : Nat)) ∧ Below v.heap.size v w'))
    (TN : Hid (∀ v (c : Nat), Ab w v → c < N → Calls Tryz.prog 13 #[.int .i64 (n : Nat), .int .i64 (k : Nat), .int .i64 (c : Nat)] v fun e w' => e = .returned (.tuple #[.int .i64 (tc c : Nat), .int .i64 (tq c : Nat)]) ∧ Below v.heap.size v w'))
    (AR0 : Hid (∀ v gb (c o : Nat), GridOf n gb v → c < N → o < 4 → Calls Tryz.prog 15 #[.pointer (some ⟨gb, 0, none⟩), .int .i64 (c : Nat), .int .i64 (o : Nat)] v fun e w' => e = .returned (.tuple #[.int .i64 (ed c o : Nat), .int .i64 (sg c o)]) ∧ Below v.heap.size v w'))
    (TL : Hid (∀ c, c < N → tc c < N ∧ tq c < 4 ∧ F1 (tc c) = B c ∧ F2 (tc c) = W c ∧ F3 (tc c) = T c))
    (EL : Hid (∀ c o, c < N → o < 4 → ed c o < M ∧ (sg c o = 1 ∨ sg c o = -1)))
    (MV : Hid (∀ c o, c < N → o < 4 → feq (msg (S (ed c o)) (sg c o)) (msg (F4 (ed (tc c) ((o + tq c) % 4))) (sg (tc c) ((o + tq c) % 4))) = true))
    (FN : Hid (∀ e, e < M → mg (S e) < 9218868437227405312 ∧ mg (F4 e) < 9218868437227405312 ∧ F4 e ≠ 9223372036854775808))
    (B1 : Hid (Bnd N N N M F1 F2 F3 F4))
    (I1 : Hid (IsFl w (some ⟨q1, r1, none⟩) N B)) (I2 : Hid (Sh.IsI w (some ⟨q2, r2, none⟩) N W)) (I3 : Hid (Sh.IsI w (some ⟨q3, r3, none⟩) N T)) (I4 : Hid (IsFl w (some ⟨q4, r4, none⟩) M S)) :
    Calls Tryz.prog 4 #[.int .i64 (n : Nat), .agg #[.slice (some ⟨q1, r1, none⟩) N cb, .slice (some ⟨q2, r2, none⟩) N cw, .slice (some ⟨q3, r3, none⟩) N ct, .slice (some ⟨q4, r4, none⟩) M cs, .int .i64 sky, .int .i64 st], .int .i64 turn] w fun e w' => e = .returned (.bool true) ∧ Below w.heap.size w w' := by
  have HN := hid (And.intro hN (And.intro hN0 (And.intro hM0 hM)))
  have n1 : (sky != sky) = false := by simp
  have n2 : (st != st) = false := by simp
  clear hN hN0 hM0 hM
  have A0 : Hid (Ab w (w.alloc (.cells #[.slice (some ⟨q1, r1, none⟩) N cb, .slice (some ⟨q2, r2, none⟩) N cw, .slice (some ⟨q3, r3, none⟩) N ct, .slice (some ⟨q4, r4, none⟩) M cs, .int .i64 sky, .int .i64 st] 25))) := bl1 _ _
  have R0 : Hid ((w.alloc (.cells #[.slice (some ⟨q1, r1, none⟩) N cb, .slice (some ⟨q2, r2, none⟩) N cw, .slice (some ⟨q3, r3, none⟩) N ct, .slice (some ⟨q4, r4, none⟩) M cs, .int .i64 sky, .int .i64 st] 25)).heap[w.heap.size]? = some (.cells #[.slice (some ⟨q1, r1, none⟩) N cb, .slice (some ⟨q2, r2, none⟩) N cw, .slice (some ⟨q3, r3, none⟩) N ct, .slice (some ⟨q4, r4, none⟩) M cs, .int .i64 sky, .int .i64 st] 25)) := heap_alloc_new _ _
  go_enter Tryz.func4, Tryz.ntmps4
  go_upto_region 1 with fail
  generalize hW : World.alloc w _ = V0 at *
  obtain ⟨g0, hga⟩ : ∃ g, w.heap.size = g := ⟨_, rfl⟩
  rw [hga] at R0 ⊢
  clear hga hW
  go_wp2_with fail
  refine (LV.out _ A0.out).mono ?_
  rintro e9 v1 ⟨rfl, b1⟩
  have A1 : Hid (Ab w v1) := A0.out.trans b1
  have R1 := hid (Ab.heap b1 R0.out)
  clear b1 A0 R0  
  have x0 := cell_of_row _ _ 0 _ _ _ R1.out
  have x1 := cell_of_row _ _ 1 _ _ _ R1.out
  have x2 := cell_of_row _ _ 2 _ _ _ R1.out
  have x3 := cell_of_row _ _ 3 _ _ _ R1.out
  have x4 := cell_of_row _ _ 4 _ _ _ R1.out
  have x5 := cell_of_row _ _ 5 _ _ _ R1.out
  go_wp2_with fail
  refine (WA.out _).mono ?_
  rintro e9 v2 ⟨rfl, b2⟩
  have A2 : Hid (Ab w v2) := A1.out.trans b2
  have R2 := hid (Ab.heap b2 R1.out)
  clear b2 A1 R1  x0 x1 x2 x3 x4 x5
  have x0 := cell_of_row _ _ 0 _ _ _ R2.out
  have x1 := cell_of_row _ _ 1 _ _ _ R2.out
  have x2 := cell_of_row _ _ 2 _ _ _ R2.out
  have x3 := cell_of_row _ _ 3 _ _ _ R2.out
  have x4 := cell_of_row _ _ 4 _ _ _ R2.out
  have x5 := cell_of_row _ _ 5 _ _ _ R2.out
  go_wp2_with fail
  refine (T1.out v2 A2.out).mono ?_
  rintro e9 u3 ⟨vv, rfl, b3, os⟩
  obtain ⟨ap1, ac1, ap2, ac2, ap3, ac3, ap4, ac4, rfl, sn⟩ := sea_new os B1.out
  have La : Hid (v2.heap.size ≤ u3.heap.size) := Ab.size (show Ab v2 u3 from b3)
  have BB : Hid (Ab v2 (u3.alloc (.cells #[.slice ap1 N ac1, .slice ap2 N ac2, .slice ap3 N ac3, .slice ap4 M ac4, .int .i64 sky, .int .i64 st] 25))) := (show Ab v2 u3 from b3).trans (bl1 _ _)
  have Sa3 := hid sn
  have Y3 : Hid (u3.heap.size + 1 ≤ (u3.alloc (.cells #[.slice ap1 N ac1, .slice ap2 N ac2, .slice ap3 N ac3, .slice ap4 M ac4, .int .i64 sky, .int .i64 st] 25)).heap.size) := by show _ ≤ (u3.heap.push _).size; simp
  clear os sn b3 x0 x1 x2 x3 x4 x5
  go_upto_region 6 with fail
  generalize hW : World.alloc u3 _ = v3 at *
  obtain ⟨ga, hg⟩ : ∃ g, u3.heap.size = g := ⟨_, rfl⟩
  rw [hg] at Sa3 La Y3 ⊢
  clear hg hW
  have A3 : Hid (Ab w v3) := A2.out.trans BB.out
  have R3 := hid (Ab.heap BB.out R2.out)
  have Wa : Hid (w.heap.size ≤ v2.heap.size) := Ab.size A2.out
  obtain ⟨Ma, hM⟩ : ∃ m, v2.heap.size = m := ⟨_, rfl⟩
  rw [hM] at Sa3 La Wa
  clear hM
  clear BB A2 R2 
  go_wp2_with fail
  refine (NW.out v3 A3.out).mono ?_
  rintro e9 v4 ⟨gb, rfl, b4, g4⟩
  have A4 : Hid (Ab w v4) := A3.out.trans b4
  have Sa4 := hid (SeaIn.to Sa3.out b4 La.out)
  have R4 := hid (Ab.heap b4 R3.out)
  have G := hid g4
  clear b4 g4 A3 Sa3 Y3 R3
  have j1 := Sa4.out.2.1.1
  have j2 := Sa4.out.2.1.2.1
  have j3 := Sa4.out.2.1.2.2.1
  have j4 := Sa4.out.2.1.2.2.2
  obtain ⟨s1, o1, rfl⟩ := j1.some0 HN.out.2.1
  obtain ⟨s2, o2, rfl⟩ := j2.some0 HN.out.2.1
  obtain ⟨s3, o3, rfl⟩ := j3.some0 HN.out.2.1
  obtain ⟨s4, o4, rfl⟩ := j4.some0 HN.out.2.2.1
  have J1 := hid j1
  have J2 := hid j2
  have J3 := hid j3
  have J4 := hid j4
  have RA := hid Sa4.out.1
  clear j1 j2 j3 j4
  have x0 := cell_of_row _ _ 0 _ _ _ RA.out
  have x1 := cell_of_row _ _ 1 _ _ _ RA.out
  have x2 := cell_of_row _ _ 2 _ _ _ RA.out
  have x3 := cell_of_row _ _ 3 _ _ _ RA.out
  have x4 := cell_of_row _ _ 4 _ _ _ RA.out
  have x5 := cell_of_row _ _ 5 _ _ _ RA.out
  have y0 := cell_of_row _ _ 0 _ _ _ R4.out
  have y1 := cell_of_row _ _ 1 _ _ _ R4.out
  have y2 := cell_of_row _ _ 2 _ _ _ R4.out
  have y3 := cell_of_row _ _ 3 _ _ _ R4.out
  have y4 := cell_of_row _ _ 4 _ _ _ R4.out
  have y5 := cell_of_row _ _ 5 _ _ _ R4.out
  go_wp2
  go_loopw [13] (fun iv wr => ∃ c : Nat, c ≤ N ∧ iv = .int .i64 (c : Nat) ∧ Ab v4 wr) (fun iv _ => N - (intOf iv).toNat)
  case atStart => exact ⟨0, by omega, rfl, Ab.refl _⟩
  case round =>
    obtain ⟨c, hc, rfl, ar'⟩ := hrel
    have AR := hid ar'
    clear ar' x0 x1 x2 x3 x4 x5 y0 y1 y2 y3 y4 y5
    go_wp2_with fail
    refine (CE.out wr gb (G.out.to AR.out)).mono ?_
    rintro e9 u1 ⟨rfl, b1⟩
    have AU : Hid (Ab v4 u1) := AR.out.trans b1
    clear b1 AR
    by_cases hcn : c < N
    · have HC := hid hcn
      have cI : (c : Int) < N := by omega
      have cB : (c : Int) ≤ 6144 := by have := HN.out; omega
      have dN : decide (c < N) = true := decide_eq_true hcn
      obtain ⟨t1, t2, t3, t4, t5⟩ := TL.out c hcn
      have CT := fun v (q : Ab v4 v) => TN.out v c (A4.out.trans q) hcn
      have AR1 := fun v (o : Nat) (q : Ab v4 v) (ho : o < 4) => AR0.out v gb c o (G.out.to q) hcn ho
      have AR2 := fun v (o : Nat) (q : Ab v4 v) (ho : o < 4) => AR0.out v gb (tc c) o (G.out.to q) t1 ho
      have EL1 := fun o (ho : o < 4) => EL.out c o hcn ho
      have EL2 := fun o (ho : o < 4) => EL.out (tc c) o t1 ho
      have MV1 := fun o (ho : o < 4) => MV.out c o hcn ho
      obtain ⟨dd, hto⟩ : ∃ x, tc c = x := ⟨_, rfl⟩
      obtain ⟨q, hq⟩ : ∃ x, tq c = x := ⟨_, rfl⟩
      rw [hto] at t1 t3 t4 t5 CT AR2 EL2 MV1
      rw [hq] at t2 CT MV1
      obtain ⟨b, hb⟩ : ∃ x, B c = x := ⟨_, rfl⟩
      obtain ⟨x, hx⟩ : ∃ x, W c = x := ⟨_, rfl⟩
      obtain ⟨y, hy⟩ : ∃ x, T c = x := ⟨_, rfl⟩
      have XC : Hid (∀ v, Ab v4 v → v.cell? ⟨s1, o1 + dd, none⟩ = some (.float .f64 b) ∧ v.cell? ⟨q1, r1 + c, none⟩ = some (.float .f64 b) ∧ v.cell? ⟨s2, o2 + dd, none⟩ = some (.int .i64 x) ∧ v.cell? ⟨q2, r2 + c, none⟩ = some (.int .i64 x) ∧ v.cell? ⟨s3, o3 + dd, none⟩ = some (.int .i64 y) ∧ v.cell? ⟨q3, r3 + c, none⟩ = some (.int .i64 y)) := fun v z => by
        refine ⟨?_, ?_, ?_, ?_, ?_, ?_⟩
        · rw [← hb, ← t3]; exact ((J1.out.below z).at0 t1).2.2
        · rw [← hb]; exact ((I1.out.below (A4.out.trans z)).at0 hcn).2.2
        · rw [← hx, ← t4]; exact ((J2.out.below z).at0 t1).2.2
        · rw [← hx]; exact ((I2.out.below (A4.out.trans z)).at0 hcn).2.2
        · rw [← hy, ← t5]; exact ((J3.out.below z).at0 t1).2.2
        · rw [← hy]; exact ((I3.out.below (A4.out.trans z)).at0 hcn).2.2
      have HT := hid CT
      have HA1 := hid AR1
      have HA2 := hid AR2
      have HE1 := hid EL1
      have HE2 := hid EL2
      have HM1 := hid MV1
      have tI : (dd : Int) < N := by omega
      have t0 : decide ((dd : Int) < 0) = false := decide_eq_false (by omega)
      have tg : decide (N ≤ dd) = false := decide_eq_false (by omega)
      have tgI : decide ((N : Int) ≤ (dd : Int)) = false := decide_eq_false (by omega)
      have tB : (dd : Int) ≤ 6144 := by have := HN.out; omega
      have qI : (q : Int) < 4 := by omega
      have xe : (x != x) = false := by simp
      have ye : (y != y) = false := by simp
      have SS : Hid (∀ v, Calls Tryz.prog 14 #[.float .f64 b, .float .f64 b] v fun e w' => e = .returned (.bool true) ∧ Below v.heap.size v w') := fun v => (rawSame9 b v).mono fun _ _ ⟨he, hw⟩ => ⟨he, by rw [hw]; exact Below.refl _ _⟩
      clear CT AR1 AR2 EL1 EL2 MV1 hto hq hb hx hy t1 t2 t3 t4 t5 hcn hc
      go_wp2_with fail
      refine (HT.out u1 AU.out).mono ?_
      rintro e9 u2 ⟨rfl, b2⟩
      have AT : Hid (Ab v4 u2) := AU.out.trans b2
      clear b2 AU HT
      go_upto_region 15 with fail
      obtain ⟨UU, E, hF1, hF2⟩ := cls u2
      have HU := hid hF2
      have HU1 := hid hF1
      have e0 : ∀ u, (E u).cell? ⟨ga, 0, none⟩ = some (.slice (some ⟨s1, o1, none⟩) N ac1) := fun u => cell_of_row _ _ 0 _ _ _ ((AT.out.trans (hF1 u)).heap RA.out)
      have e1 : ∀ u, (E u).cell? ⟨ga, 1, none⟩ = some (.slice (some ⟨s2, o2, none⟩) N ac2) := fun u => cell_of_row _ _ 1 _ _ _ ((AT.out.trans (hF1 u)).heap RA.out)
      have e2 : ∀ u, (E u).cell? ⟨ga, 2, none⟩ = some (.slice (some ⟨s3, o3, none⟩) N ac3) := fun u => cell_of_row _ _ 2 _ _ _ ((AT.out.trans (hF1 u)).heap RA.out)
      have f0 : ∀ u, (E u).cell? ⟨g0, 0, none⟩ = some (.slice (some ⟨q1, r1, none⟩) N cb) := fun u => cell_of_row _ _ 0 _ _ _ ((AT.out.trans (hF1 u)).heap R4.out)
      have f1 : ∀ u, (E u).cell? ⟨g0, 1, none⟩ = some (.slice (some ⟨q2, r2, none⟩) N cw) := fun u => cell_of_row _ _ 1 _ _ _ ((AT.out.trans (hF1 u)).heap R4.out)
      have f2 : ∀ u, (E u).cell? ⟨g0, 2, none⟩ = some (.slice (some ⟨q3, r3, none⟩) N ct) := fun u => cell_of_row _ _ 2 _ _ _ ((AT.out.trans (hF1 u)).heap R4.out)
      have h1 : ∀ u, (E u).cell? ⟨s1, o1 + dd, none⟩ = some (.float .f64 b) := fun u => (XC.out _ (AT.out.trans (hF1 u))).1
      have h2 : ∀ u, (E u).cell? ⟨q1, r1 + c, none⟩ = some (.float .f64 b) := fun u => (XC.out _ (AT.out.trans (hF1 u))).2.1
      have h3 : ∀ u, (E u).cell? ⟨s2, o2 + dd, none⟩ = some (.int .i64 x) := fun u => (XC.out _ (AT.out.trans (hF1 u))).2.2.1
      have h4 : ∀ u, (E u).cell? ⟨q2, r2 + c, none⟩ = some (.int .i64 x) := fun u => (XC.out _ (AT.out.trans (hF1 u))).2.2.2.1
      have h5 : ∀ u, (E u).cell? ⟨s3, o3 + dd, none⟩ = some (.int .i64 y) := fun u => (XC.out _ (AT.out.trans (hF1 u))).2.2.2.2.1
      have h6 : ∀ u, (E u).cell? ⟨q3, r3 + c, none⟩ = some (.int .i64 y) := fun u => (XC.out _ (AT.out.trans (hF1 u))).2.2.2.2.2
      have DD0 := HU.out _ (Ab.refl u2).drew
      clear hF1 hF2
      refine region_cls E (by kernel_rfl) (by kernel_rfl) DD0 ?_
      repeat (go_big_quiet_step (first | (go_at_call 14; exact calls_cls HU HU1 (SS.out _)) | (with_reducible rfl)))
      refine wpQuiet_nil ?_
      intro u3 hwz
      obtain ⟨u0, hu⟩ := hwz
      have AZ : Hid (Ab u2 u3) := by rw [hu]; exact HU1.out u0
      clear hu u0
      clear HU HU1 DD0 e0 e1 e2 f0 f1 f2 h1 h2 h3 h4 h5 h6
      clear E UU
      have A3 : Hid (Ab v4 u3) := AT.out.trans AZ.out
      clear AZ AT SS XC
      go_wp2
      go_loopw [16] (fun iv wr => ∃ o : Nat, o ≤ 4 ∧ iv = .int .i64 (o : Nat) ∧ Ab v4 wr) (fun iv _ => 4 - (intOf iv).toNat)
      case atStart => exact ⟨0, by omega, rfl, A3.out⟩
      case round =>
        obtain ⟨o, ho, rfl, ar'⟩ := hrel
        rename World => wz
        have AR := hid ar'
        clear ar'
        by_cases hon : o < 4
        · have HO := hid hon
          have oI : (o : Int) < 4 := by omega
          have oN : decide (o < 4) = true := decide_eq_true hon
          obtain ⟨s, hs⟩ : ∃ s, (o + q) % 4 = s := ⟨_, rfl⟩
          have s4' : s < 4 := by omega
          have rm : ((o : Int) + (q : Int)).tmod 4 = (s : Nat) := by rw [Int.tmod_eq_emod_of_nonneg (by omega)]; omega
          have C1 := HA1.out wz o AR.out hon
          have C2 := fun v (a : Ab v4 v) => HA2.out v s a s4'
          have E1 := HE1.out o hon
          have E2 := HE2.out s s4'
          have MM := HM1.out o hon
          rw [hs] at MM
          obtain ⟨i, hi⟩ : ∃ x, ed c o = x := ⟨_, rfl⟩
          obtain ⟨j, hj⟩ : ∃ x, ed dd s = x := ⟨_, rfl⟩
          obtain ⟨g1, hg1⟩ : ∃ x, sg c o = x := ⟨_, rfl⟩
          obtain ⟨g2, hg2⟩ : ∃ x, sg dd s = x := ⟨_, rfl⟩
          rw [hi] at E1 MM C1
          rw [hj] at E2 MM C2
          rw [hg1] at E1 MM C1
          rw [hg2] at E2 MM C2
          have K1 := hid C1
          have K2 := hid C2
          have f1 := FN.out i E1.1
          have f2 := FN.out j E2.1
          have iI : (i : Int) < M := by omega
          have jI : (j : Int) < M := by omega
          have iB : (i : Int) ≤ 12288 := by have := HN.out; omega
          have jB : (j : Int) ≤ 12288 := by have := HN.out; omega
          obtain ⟨x1, hx1⟩ : ∃ x, S i = x := ⟨_, rfl⟩
          obtain ⟨x2, hx2⟩ : ∃ x, F4 j = x := ⟨_, rfl⟩
          have l1 := (I4.out.at0 E1.1).1
          have l2 := (J4.out.at0 E2.1).1
          rw [hx1] at f1 MM l1
          rw [hx2] at f2 MM l2
          have YC : Hid (∀ v, Ab v4 v → v.cell? ⟨q4, r4 + i, none⟩ = some (.float .f64 x1) ∧ v.cell? ⟨s4, o4 + j, none⟩ = some (.float .f64 x2)) := fun v z => by
            refine ⟨?_, ?_⟩
            · rw [← hx1]; exact ((I4.out.below (A4.out.trans z)).at0 E1.1).2.2
            · rw [← hx2]; exact ((J4.out.below z).at0 E2.1).2.2
          obtain ⟨y1', hy1⟩ : ∃ x, floatOfInt .f64 g1 = x := ⟨_, rfl⟩
          obtain ⟨y2', hy2⟩ : ∃ x, floatOfInt .f64 g2 = x := ⟨_, rfl⟩
          have p1 := mul_sg l1 f1.1 E1.2
          have p2 := mul_sg l2 f2.2.1 E2.2
          rw [hy1] at p1
          rw [hy2] at p2
          obtain ⟨z1, hz1⟩ : ∃ x, msg x1 g1 = x := ⟨_, rfl⟩
          obtain ⟨z2, hz2⟩ : ∃ x, msg x2 g2 = x := ⟨_, rfl⟩
          rw [hz1] at p1 MM
          rw [hz2] at p2 MM
          have pr1 := fun t w => run_float_arith (P := Tryz.prog) w .mul t .f64 x1 y1' z1 p1
          have pr2 := fun t w => run_float_arith (P := Tryz.prog) w .mul t .f64 x2 y2' z2 p2
          have nz : ((x2 : Int) == 9223372036854775808) = false := by have := f2.2.2; simp; omega
          have RB : Hid (∀ v, Calls Tryz.prog 16 #[.float .f64 x2] v fun e w' => e = .returned (.int .u64 ((x2 : Nat) : Int)) ∧ Below v.heap.size v w') := fun v => (rawBits20 x2 v).mono fun _ _ ⟨he, hw⟩ => ⟨he, by rw [hw]; exact Below.refl _ _⟩
          clear C1 C2 E1 E2 hs s4' hi hj hg1 hg2 f1 f2 hx1 hx2 l1 l2 p1 p2 hz1 hz2 hon ho
          go_wp2_with fail
          refine K1.out.mono ?_
          rintro e9 u4 ⟨rfl, b4⟩
          have A4 : Hid (Ab v4 u4) := AR.out.trans b4
          clear b4 AR K1
          go_wp2_with fail
          refine (K2.out u4 A4.out).mono ?_
          rintro e9 u5 ⟨rfl, b5⟩
          have A8 : Hid (Ab v4 u5) := A4.out.trans b5
          clear b5 A4 K2
          go_upto_region 22 with fail
          obtain ⟨UU, E, hF1, hF2⟩ := cls u5
          have HU := hid hF2
          have HU1 := hid hF1
          have e3 : ∀ u, (E u).cell? ⟨ga, 3, none⟩ = some (.slice (some ⟨s4, o4, none⟩) M ac4) := fun u => cell_of_row _ _ 3 _ _ _ ((A8.out.trans (hF1 u)).heap RA.out)
          have f3 : ∀ u, (E u).cell? ⟨g0, 3, none⟩ = some (.slice (some ⟨q4, r4, none⟩) M cs) := fun u => cell_of_row _ _ 3 _ _ _ ((A8.out.trans (hF1 u)).heap R4.out)
          have h1 : ∀ u, (E u).cell? ⟨q4, r4 + i, none⟩ = some (.float .f64 x1) := fun u => (YC.out _ (A8.out.trans (hF1 u))).1
          have h2 : ∀ u, (E u).cell? ⟨s4, o4 + j, none⟩ = some (.float .f64 x2) := fun u => (YC.out _ (A8.out.trans (hF1 u))).2
          have DD0 := HU.out _ (Ab.refl u5).drew
          clear hF1 hF2
          refine region_cls E (by kernel_rfl) (by kernel_rfl) DD0 ?_
          repeat (go_big_quiet_step (first | (go_at_call 16; exact calls_cls HU HU1 (RB.out _)) | (with_reducible rfl)))
          refine wpQuiet_nil ?_
          intro u6 hwz
          obtain ⟨u0, hu⟩ := hwz
          have A9 : Hid (Ab u5 u6) := by rw [hu]; exact HU1.out u0
          clear hu u0
          clear HU HU1 DD0 e3 f3 h1 h2
          clear E UU
          go_wp2
          exact ⟨⟨o + 1, by have := HO.out; omega, by simp, A8.out.trans A9.out⟩, by have := HO.out; simp [intOf]; omega⟩
        · have e7 : o = 4 := by omega
          subst e7
          go_wp2
          exact ⟨⟨c + 1, by have := HC.out; omega, by simp, AR.out⟩, by have := HC.out; simp [intOf]; omega⟩
    · have e6 : N = c := by omega
      subst e6
      go_wp2
      go_ret
      exact ⟨rfl, A4.out.trans AU.out⟩
/-- WHAT A TURNED SEA HAS -/
theorem smoves_at (PC : PlanC) (CC : CheckC) (SC : SameC) (YC : CopyC) (TC : TurnedC) (LC : LakeC) (side : Int) {pb : Option Addr} {lb cb : Nat} {B : Nat → Nat} {pw : Option Addr} {lw cw : Nat} {W : Nat → Int} {pt : Option Addr} {lt ct : Nat} {T : Nat → Int} {ps : Option Addr} {ls cs : Nat} {S : Nat → Nat} {sky st : Int} (turn : Int) (w : World) (hF : Fr w) (h1 : Sh.W64 side) (h2 : Sh.W64 sky) (h3 : Sh.W64 st) (hl : lb ≤ 281474976710656 ∧ lw ≤ 281474976710656 ∧ lt ≤ 281474976710656 ∧ ls ≤ 281474976710656) (i1 : IsFl w pb lb B) (i2 : Sh.IsI w pw lw W) (i3 : Sh.IsI w pt lt T) (i4 : IsFl w ps ls S) :
    Calls Tryz.prog 4 #[.int .i64 side, .agg #[.slice pb lb cb, .slice pw lw cw, .slice pt lt ct, .slice ps ls cs, .int .i64 sky, .int .i64 st], .int .i64 turn] w fun e w' => e = .returned (.bool true) ∧ Below w.heap.size w w' := by
  have LV : Hid (∀ v, Ab w v → Calls Tryz.prog 5 #[] v fun e w' => e = .returned (.bool true) ∧ Below v.heap.size v w') := fun v a => awake20_at PC CC SC YC TC LC v (hF.to a)
  have WA := fun v => wide20_at pb lb cb pw lw cw pt lt ct ps ls cs sky st v hl
  by_cases h : 131072 < lb + lw + lt + ls
  · rw [decide_eq_true h] at WA
    exact smoves_w side pb lb cb pw lw cw pt lt ct ps ls cs sky st turn w LV WA
  · rw [decide_eq_false h] at WA
    have le : (lb ≤ 131072 ∧ lw ≤ 131072 ∧ lt ≤ 131072 ∧ ls ≤ 131072) := by omega
    have bm : Bnd lb lw lt ls B W T S := ⟨fun i hi => (i1 i hi).1, fun i hi => (i2 i hi).1, fun i hi => (i3 i hi).1, fun i hi => (i4 i hi).1⟩
    obtain ⟨y1, hy1⟩ : ∃ y, turn % 18446744073709551616 = y := ⟨_, rfl⟩
    have y0 : 0 ≤ y1 ∧ y1 < 18446744073709551616 := by omega
    obtain ⟨t, ht⟩ : ∃ c : Nat, y1 % 24 = c := ⟨(y1 % 24).toNat, by omega⟩
    have lt24 : t < 24 := by omega
    have ew : IntKind.u64.wrap turn = y1 := by rw [IntKind.wrap_u64, hy1]
    have et : y1.tmod 24 = t := by rw [Int.tmod_eq_emod_of_nonneg y0.1, ht]
    have w3 : Sh.W64 ((t : Nat) : Int) := by unfold Sh.W64; omega
    have TT := fun v (a : Ab w v) => TC side pb lb cb B pw lw cw W pt lt ct T ps ls cs S sky st (t : Nat) v (hF.to a) h1 h2 h3 w3 le (i1.below a) (i2.below a) (i3.below a) (i4.below a)
    by_cases q : tuE side lb lw lt ls B W T S sky st (t : Nat) = 0
    · obtain ⟨s1, s2, s3⟩ := tuE_ok q
      have b1 := bnd_turn lt24 q bm
      have T1 := fun v (a : Ab w v) => (TT v a).1 q
      obtain ⟨n, rfl⟩ : ∃ n : Nat, side = (n : Nat) := ⟨side.toNat, by omega⟩
      have hn : 1 ≤ n ∧ n ≤ 32 := by omega
      have sq := side_sq s1
      rw [Int.toNat_natCast] at s2 s3 sq b1 T1
      rw [Int.toNat_natCast] at b1 T1
      have n0 : 0 < 6 * n * n := by
        have p1 : 0 < n * n := Nat.mul_pos (by omega) (by omega)
        rw [Nat.mul_assoc]
        omega
      have e2 : 2 * (6 * n * n) = 12 * n * n := by rw [Nat.mul_assoc, Nat.mul_assoc]; omega
      have e24 : 24 * n * n = 4 * (6 * n * n) := by rw [Nat.mul_assoc, Nat.mul_assoc]; omega
      rw [e2] at s2
      have okS : ∀ e, e < 12 * n * n → S e < 18446744073709551616 ∧ bS S e = false := fun e he => ⟨bm.2.2.2 e (by omega), s3.2.2.2.2.1 e (by omega)⟩
      have cn : ∀ e, e < 12 * n * n → cnF (S e) := fun e he => bS_cn (okS e he).1 (okS e he).2
      have ok1 := okN_turn hn.1 lt24 (fun e he => (cn e he).1) s3
      obtain ⟨rfl, rfl, rfl, rfl⟩ := s2
      obtain ⟨q1, r1, rfl⟩ := i1.some0 n0
      obtain ⟨q2, r2, rfl⟩ := i2.some0 n0
      obtain ⟨q3, r3, rfl⟩ := i3.some0 n0
      obtain ⟨q4, r4, rfl⟩ := i4.some0 (show 0 < 12 * n * n by omega)
      have tt : ∀ c o, c < 6 * n * n → o < 4 → 4 * c + o < 24 * n * n := fun c o hc ho => by omega
      refine smoves_go n (6 * n * n) (12 * n * n) q1 r1 cb q2 r2 cw q3 r3 ct q4 r4 cs B W T S sky st turn y1 t _ _ _ _ (tnC n t) (tnS n t) (fun c o => eE n (4 * c + o)) (fun c o => eS n (4 * c + o)) w LV sq.2 n0 (by omega) (by omega) WA ew y0 et (by omega) T1 (fun v a => (new_at n v hn (hF.to a)).mono fun e w' h => ?_) (fun v gb g => (gCells_at g).mono fun e w' h => ⟨h.1, by rw [h.2]; exact Below.refl _ _⟩) (fun v c a hc => turn_at n t c v hn hc lt24 (hF.to a)) (fun v gb c o g hc ho => gAround_n hn hc ho g) (fun c hc => ⟨(tn_lt9 hn.1 hc lt24).1, (tn_lt9 hn.1 hc lt24).2, tuC_at hn.1 lt24 B hc, tuC_at hn.1 lt24 W hc, tuC_at hn.1 lt24 T hc⟩) (fun c o hc ho => ⟨eE_lt hn.1 (tt c o hc ho), eS_one _ _⟩) (fun c o hc ho => ?_) (fun e he => ⟨bS_fin (okS e he).1 (okS e he).2, bS_fin (b1.2.2.2 e he) (ok1.2.2.2.2.1 e (by omega)), (tuS_cn hn.1 lt24 cn he).2.2⟩) b1 i1 i2 i3 i4
      · obtain ⟨gb, rfl, a1, -, g⟩ := h
        exact ⟨gb, rfl, a1, g⟩
      · have m := moves_pure hn.1 lt24 cn (tt c o hc ho)
        have e1 : tnT n t (4 * c + o) = 4 * tnC n t c + (o + tnS n t c) % 4 := by
          unfold tnT
          rw [show (4 * c + o) / 4 = c by omega, show (4 * c + o) % 4 = o by omega]
        rw [e1] at m
        exact m
    · exact smoves_bad side pb lb cb pw lw cw pt lt ct ps ls cs sky st turn y1 t _ (fun _ => 0) (fun _ => 0) w LV WA ew y0 et (by omega) (fun v a => ((TT v a).2 q).mono fun e w' k => ⟨_, k.1, k.2, own_zero _ _⟩) bnd_zero (by simpa using q)
end Ss
end Go.Proofs.YtcmpiohiganliaaGreatDoor

namespace Go.Proofs.YtcmpiohiganliaaGreatDoor
open Go.ChangeShapes Go.WideShapes Go.ChangeAt Go.WideMaps Go.WideElems Go.RowKit Go.Deep
namespace Sh
theorem trod_int {H : Type} {enc : TypeId × Value → H} {P : Program} {w : World} {base : Nat} {spare : Nat → Bool} {held : Bool} {t : TypeId} {fuel : Nat} {v : Value} {x : DataW H × List MemPlace} (ht : P.underlying t = some (.int .i64)) (h : DataW.trod enc P w base spare held fuel t [v] = some x) :
    ∃ b, v = .int .i64 b ∧ (-9223372036854775808 ≤ b ∧ b ≤ 9223372036854775807) := by
  obtain ⟨k, e, _, wf⟩ := DataW.trod_int ht h
  simp at e
  simp only [Lit.wf, Bool.and_eq_true, decide_eq_true_eq] at wf
  have q1 : IntKind.i64.min = -9223372036854775808 := by decide
  have q2 : IntKind.i64.max = 9223372036854775807 := by decide
  rw [q1, q2] at wf
  exact ⟨k, e, wf⟩
theorem cell_block {w : World} {a : Addr} {v : Value} (h : w.cell? a = some v) : a.block < w.heap.size := by
  by_cases c : a.block < w.heap.size
  · exact c
  · exfalso
    have : w.heap[a.block]? = none := by simp; omega
    simp [World.cell?, this] at h
theorem pick_fn {α : Type} {n : Nat} {R : Nat → α → Prop} (d : α) (h : ∀ i, i < n → ∃ x, R i x) : ∃ f : Nat → α, ∀ i, i < n → R i (f i) := by
  have : ∀ i, ∃ x, i < n → R i x := fun i => by
    by_cases c : i < n
    · obtain ⟨x, h1⟩ := h i c
      exact ⟨x, fun _ => h1⟩
    · exact ⟨d, fun h => absurd h c⟩
  exact ⟨fun i => (this i).choose, fun i hi => (this i).choose_spec hi⟩
theorem list_open {H : Type} {enc : TypeId × Value → H} {W : World} {cs : List Value} {fuel : Nat} {x : DataW H × List MemPlace}
    (hf : DataW.trod enc Tryz.prog W 0 (fun _ => true) true fuel 23 cs = some x) : ∃ a0 len cap xs, cs = [.slice a0 len cap] ∧ IsI W a0 len xs ∧ len ≤ cap ∧ cap ≤ maxLen := by
  rcases open_slice1 Tryz.underlying23 (by kernel_rfl) hf with ⟨hcs, _⟩ | ⟨a, l, c, m, n, V, D, Pl, hcs, _, hl, hm, hmm, _, hx⟩
  · exact ⟨none, 0, 0, fun _ => 0, hcs, fun k hk => by omega, Nat.le_refl _, Nat.zero_le _⟩
  · simp only [if_true] at hmm
    have each : ∀ i, i < l → ∃ x : Int, W.cell? (a.add i) = some (.int .i64 x) ∧ (-9223372036854775808 ≤ x ∧ x ≤ 9223372036854775807) := by
      intro i hi
      obtain ⟨h1, h2⟩ := hx i (by omega)
      obtain ⟨x, e, wx⟩ := trod_int Tryz.underlying2 h2
      rw [e] at h1
      exact ⟨x, h1, wx⟩
    obtain ⟨f, hf⟩ := pick_fn 0 each
    refine ⟨some a, l, c, f, hcs, fun k hk => ⟨(hf k hk).2, ?_⟩, hl, hm⟩
    have h0 := (hf k hk).1
    have z := (hf 0 (by omega)).1
    obtain ⟨b, off, spot⟩ := a
    have hspot : spot = none := by simpa [Addr.add] using World.cell?_spot z
    subst hspot
    rw [add_off] at h0
    exact ⟨b, off, rfl, cell_block h0, h0⟩
end Sh
end Go.Proofs.YtcmpiohiganliaaGreatDoor

namespace Go.Proofs.YtcmpiohiganliaaGreatDoor
open Go.RowKit Go.Deep
namespace Sh
theorem lit_w {x : Int} (h : (Lit.int .i64 x).wf = true) : -9223372036854775808 ≤ x ∧ x ≤ 9223372036854775807 := by
  simp only [Lit.wf, Bool.and_eq_true, decide_eq_true_eq] at h
  have q1 : IntKind.i64.min = -9223372036854775808 := by decide
  have q2 : IntKind.i64.max = 9223372036854775807 := by decide
  omega
end Sh
end Go.Proofs.YtcmpiohiganliaaGreatDoor

namespace Go.Proofs.YtcmpiohiganliaaGreatDoor
open Go.RowKit Tf Cu Go.Deep
attribute [local go_sem] run_bits run_from raw_feq raw_fne raw_flt raw_fgt run_neg run_store_float
namespace Ss
set_option maxRecDepth 100000 in
set_option maxHeartbeats 16000000 in
theorem sameF_at (a b : Nat) (r : Bool) (w : World) (hr : decide (a = b) = r) :
    Calls Tryz.prog 33 #[.float .f64 a, .float .f64 b] w fun e w' => e = .returned (.bool r) ∧ w' = w := by
  by_cases h : a = b
  · have d1 : ((a : Int) == (b : Int)) = true := by simp [h]
    have R : Hid (r = true) := hr.symm.trans (decide_eq_true h)
    clear hr h
    go_enter Tryz.func33, Tryz.ntmps33
    go_wp2
    go_ret
    exact ⟨by rw [R.out]; rfl, rfl⟩
  · have d1 : ((a : Int) == (b : Int)) = false := by simp; omega
    have R : Hid (r = false) := hr.symm.trans (decide_eq_false h)
    clear hr h
    go_enter Tryz.func33, Tryz.ntmps33
    go_wp2
    go_ret
    exact ⟨by rw [R.out]; rfl, rfl⟩
set_option maxRecDepth 100000 in
set_option maxHeartbeats 16000000 in
theorem sameQ_at (a b : Int) (r : Bool) (w : World) (hr : decide (a = b) = r) :
    Calls Tryz.prog 35 #[.int .i64 a, .int .i64 b] w fun e w' => e = .returned (.bool r) ∧ w' = w := by
  by_cases h : a = b
  · have d1 : (a == b) = true := by simp [h]
    have R : Hid (r = true) := hr.symm.trans (decide_eq_true h)
    clear hr h
    go_enter Tryz.func35, Tryz.ntmps35
    go_wp2
    go_ret
    exact ⟨by rw [R.out]; rfl, rfl⟩
  · have d1 : (a == b) = false := by simp; omega
    have R : Hid (r = false) := hr.symm.trans (decide_eq_false h)
    clear hr h
    go_enter Tryz.func35, Tryz.ntmps35
    go_wp2
    go_ret
    exact ⟨by rw [R.out]; rfl, rfl⟩
set_option maxRecDepth 100000 in
set_option maxHeartbeats 16000000 in
theorem within_at (x lo hi : Nat) (r : Bool) (w : World) (hr : ((fgt x lo || feq x lo) && (flt x hi || feq x hi)) = r) :
    Calls Tryz.prog 52 #[.float .f64 x, .float .f64 lo, .float .f64 hi] w fun e w' => e = .returned (.bool r) ∧ w' = w := by
  cases h1 : (fgt x lo || feq x lo) with
  | false =>
    have R : Hid (r = false) := hr.symm.trans (by rw [h1]; rfl)
    clear hr
    go_enter Tryz.func52, Tryz.ntmps52
    go_wp2
    go_ret
    exact ⟨by rw [R.out]; rfl, rfl⟩
  | true =>
    cases h2 : (flt x hi || feq x hi) with
    | false =>
      have R : Hid (r = false) := hr.symm.trans (by rw [h1, h2]; rfl)
      clear hr
      go_enter Tryz.func52, Tryz.ntmps52
      go_wp2
      go_ret
      exact ⟨by rw [R.out]; rfl, rfl⟩
    | true =>
      have R : Hid (r = true) := hr.symm.trans (by rw [h1, h2]; rfl)
      clear hr
      go_enter Tryz.func52, Tryz.ntmps52
      go_wp2
      go_ret
      exact ⟨by rw [R.out]; rfl, rfl⟩
/-- a float above another isn't a NaN; Canon leaves it but for -0 -/
theorem canon_in {x lo : Nat} (hx : x < 18446744073709551616) (hl : lo < 18446744073709551616) (h : (fgt x lo || feq x lo) = true) : decide (x = canonB x) = decide (x ≠ 9223372036854775808) := by
  have n : isN x = false := by
    rw [fgt_rk x lo hx hl, feq_rk x lo hx hl] at h
    cases q : isN x with
    | false => rfl
    | true => rw [q] at h; simp at h
  unfold canonB
  rw [if_neg (by rw [n]; decide)]
  unfold mg
  by_cases z : x % 9223372036854775808 = 0
  · rw [if_pos z]
    by_cases e : x = 9223372036854775808
    · rw [decide_eq_false (by omega), decide_eq_false (fun q => q e)]
    · rw [decide_eq_true (by omega), decide_eq_true e]
  · rw [if_neg z, decide_eq_true rfl, decide_eq_true (by omega)]
set_option maxRecDepth 100000 in
set_option maxHeartbeats 16000000 in
theorem kept_at (x lo hi : Nat) (r : Bool) (w : World) (hx : x < 18446744073709551616) (hl : lo < 18446744073709551616) (hr : btw x lo hi = r) :
    Calls Tryz.prog 63 #[.float .f64 x, .float .f64 lo, .float .f64 hi] w fun e w' => e = .returned (.bool r) ∧ w' = w := by
  unfold btw at hr
  cases h1 : ((fgt x lo || feq x lo) && (flt x hi || feq x hi)) with
  | false =>
    have R : Hid (r = false) := hr.symm.trans (by rw [h1]; rfl)
    have CW := hid (within_at x lo hi false w h1)
    clear hr hx hl h1
    go_enter Tryz.func63, Tryz.ntmps63
    go_wp2_with fail
    refine CW.out.mono ?_
    rintro e9 v9 ⟨rfl, hv9⟩
    have hv8 := hv9.symm
    subst hv8
    go_wp2
    go_ret
    exact ⟨by rw [R.out]; rfl, rfl⟩
  | true =>
    have R : Hid (decide (x ≠ 9223372036854775808) = r) := by
      show _ = _
      rw [← hr, h1]
      rfl
    have CW := hid (within_at x lo hi true w h1)
    have h3 := canon_in hx hl ((Bool.and_eq_true _ _).mp h1).1
    have CC := hid (canon_at x _ w hx rfl)
    have CS := hid (sameF_at x (canonB x) r w (by rw [h3]; exact R.out))
    generalize canonB x = y at *
    clear hr hx hl h1 h3 R
    go_enter Tryz.func63, Tryz.ntmps63
    go_wp2_with fail
    refine CW.out.mono ?_
    rintro e9 v9 ⟨rfl, hv9⟩
    have hv8 := hv9.symm
    subst hv8
    go_wp2_with fail
    refine CC.out.mono ?_
    rintro e9 v9 ⟨rfl, hv9⟩
    have hv8 := hv9.symm
    subst hv8
    go_wp2_with fail
    refine CS.out.mono ?_
    rintro e9 v9 ⟨rfl, hv9⟩
    have hv8 := hv9.symm
    subst hv8
    go_wp2
    go_ret
    exact ⟨rfl, rfl⟩
set_option maxRecDepth 100000 in
set_option maxHeartbeats 16000000 in
theorem beyond_at (p : Option Addr) (N c : Nat) (f : Nat → Nat) (m nm : Nat) (q : Nat → Bool) (w : World) (hm : Op.negFloat .f64 m = nm) (hn : nm < 18446744073709551616) (hN : N ≤ 281474976710656) (hf : IsFl w p N f) (hq : ∀ i, i < N → q i = !btw (f i) nm m) :
    Calls Tryz.prog 25 #[.slice p N c, .float .f64 m] w fun e w' => e = .returned (.int .i64 (fp q N)) ∧ w' = w := by
  have HF := hid hf
  have HN := hid hN
  have HQ := hid hq
  have HNM := hid hn
  clear hf hN hq hn
  go_enter Tryz.func25, Tryz.ntmps25
  go_wp2
  go_loopw [9] (fun iv wr => ∃ k : Nat, k ≤ N ∧ iv = .int .i64 (k : Nat) ∧ (∀ i, i < k → q i = false) ∧ wr = w) (fun iv _ => N - (intOf iv).toNat)
  case atStart => exact ⟨0, by omega, rfl, fun i hi => absurd hi (Nat.not_lt_zero i), rfl⟩
  case round =>
    obtain ⟨k, hk, rfl, g1, hwr⟩ := hrel
    have hwr2 := hwr.symm
    subst hwr2
    have G1 := hid g1
    clear g1
    by_cases hkn : k < N
    · have HK := hid hkn
      have kI : (k : Int) < N := by omega
      have kB : (k : Int) ≤ 281474976710656 := by have := HN.out; omega
      obtain ⟨b0, o0, rfl⟩ := HF.out.some0 (show 0 < N by omega)
      obtain ⟨x, hx⟩ : ∃ x, f k = x := ⟨_, rfl⟩
      have xa := HF.out.at0 hkn
      have xc := xa.2.2
      have xl := (HF.out k hkn).1
      rw [hx] at xc xl
      have qk := HQ.out k hkn
      rw [hx] at qk
      clear hx hkn hk xa
      cases hb : btw x nm m with
      | false =>
        have CB := hid (kept_at x nm m false w xl HNM.out hb)
        have QK : Hid (q k = true) := qk.trans (by rw [hb]; rfl)
        have E : Hid (fp q N = (k : Nat)) := fp_hit G1.out QK.out HK.out
        clear qk hb xl
        go_wp2_with fail
        refine CB.out.mono ?_
        rintro e9 v9 ⟨rfl, hv9⟩
        have hv8 := hv9.symm
        subst hv8
        go_wp2
        go_ret
        exact ⟨by rw [E.out]; rfl, by first | trivial | rfl⟩
      | true =>
        have CB := hid (kept_at x nm m true w xl HNM.out hb)
        have QK : Hid (q k = false) := qk.trans (by rw [hb]; rfl)
        clear qk hb xl
        go_wp2_with fail
        refine CB.out.mono ?_
        rintro e9 v9 ⟨rfl, hv9⟩
        have hv8 := hv9.symm
        subst hv8
        go_wp2
        refine ⟨⟨k + 1, by have := HK.out; omega, by simp, fun i hi => ?_, by first | trivial | rfl⟩, by have := HK.out; simp [intOf]; omega⟩
        by_cases l : i < k
        · exact G1.out i l
        · obtain rfl : i = k := by omega
          exact QK.out
    · have e6 : N = k := by omega
      subst e6
      have E : Hid (fp q N = -1) := fp_none G1.out
      go_wp2
      go_ret
      exact ⟨by rw [E.out]; rfl, by first | trivial | rfl⟩
set_option maxRecDepth 100000 in
set_option maxHeartbeats 16000000 in
theorem much_at (p : Option Addr) (N c : Nat) (f : Nat → Int) (th rm : Int) (w : World) (hN : N ≤ 281474976710656) (hf : Sh.IsI w p N f) (ht : 0 ≤ th ∧ th ≤ 4503599627370496) (hrm : rm = 4503599627370496 - th) :
    Calls Tryz.prog 26 #[.slice p N c, .int .i64 rm] w fun e w' => e = .returned (.int .i64 (fp (bQ f th) N)) ∧ w' = w := by
  have HF := hid hf
  have HN := hid hN
  have HT := hid ht
  have HR := hid hrm
  clear hf hN ht hrm
  go_enter Tryz.func26, Tryz.ntmps26
  go_wp2
  go_loopw [1, 9] (fun sv iv wr => ∃ k : Nat, k ≤ N ∧ iv = .int .i64 (k : Nat) ∧ sv = .int .i64 (4503599627370496 - (th + Sh.sumN f k)) ∧ (0 ≤ th + Sh.sumN f k ∧ th + Sh.sumN f k ≤ 4503599627370496) ∧ (∀ i, i < k → bQ f th i = false) ∧ wr = w) (fun _ iv _ => N - (intOf iv).toNat)
  case atStart => exact ⟨0, by omega, rfl, by show _ = Value.int .i64 (4503599627370496 - (th + 0)); rw [Int.add_zero, HR.out], by show 0 ≤ th + 0 ∧ th + 0 ≤ _; have := HT.out; omega, fun i hi => absurd hi (Nat.not_lt_zero i), rfl⟩
  case round =>
    obtain ⟨k, hk, rfl, rfl, hb, g1, hwr⟩ := hrel
    have hwr2 := hwr.symm
    subst hwr2
    have G1 := hid g1
    clear g1
    obtain ⟨s, hs⟩ : ∃ s, 4503599627370496 - (th + Sh.sumN f k) = s := ⟨_, rfl⟩
    have s1 : 0 ≤ s := by omega
    have s2 : s ≤ 4503599627370496 := by omega
    rw [hs]
    clear hb
    by_cases hkn : k < N
    · have HK := hid hkn
      have kI : (k : Int) < N := by omega
      have kB : (k : Int) ≤ 281474976710656 := by have := HN.out; omega
      obtain ⟨b0, o0, rfl⟩ := HF.out.some0 (show 0 < N by omega)
      obtain ⟨x, hx⟩ : ∃ x, f k = x := ⟨_, rfl⟩
      have xc := (HF.out.at0 hkn).2.2
      rw [hx] at xc
      have QE : Hid (bQ f th k = (decide (x < 0) || decide (s < x))) := by show bQ f th k = _; unfold bQ; rw [hs, hx]
      have M3 : Hid (th + Sh.sumN f (k + 1) = 4503599627370496 - s + x) := by show th + (Sh.sumN f k + f k) = _; rw [hx]; omega
      clear hx hs hkn hk
      by_cases q1 : x < 0
      · have d1 : decide (x < 0) = true := decide_eq_true q1
        have E : Hid (fp (bQ f th) N = (k : Nat)) := fp_hit G1.out (QE.out.trans (by rw [d1]; rfl)) HK.out
        go_wp2
        go_ret
        exact ⟨by rw [E.out]; rfl, by first | trivial | rfl⟩
      · have d1 : decide (x < 0) = false := decide_eq_false q1
        by_cases q2 : s < x
        · have d2 : decide (s < x) = true := decide_eq_true q2
          have E : Hid (fp (bQ f th) N = (k : Nat)) := fp_hit G1.out (QE.out.trans (by rw [d1, d2]; rfl)) HK.out
          go_wp2
          go_ret
          exact ⟨by rw [E.out]; rfl, by first | trivial | rfl⟩
        · have d2 : decide (s < x) = false := decide_eq_false q2
          have QF : Hid (bQ f th k = false) := QE.out.trans (by rw [d1, d2]; rfl)
          have n1 : 0 ≤ s - x := by omega
          have n2 : s - x ≤ 4503599627370496 := by omega
          have N3 : Hid (4503599627370496 - (4503599627370496 - s + x) = s - x) := by show _ = _; omega
          have N4 : Hid (0 ≤ 4503599627370496 - s + x ∧ 4503599627370496 - s + x ≤ 4503599627370496) := by show _ ∧ _; omega
          clear q1 q2
          go_wp2
          refine ⟨⟨k + 1, by have := HK.out; omega, by simp, by rw [M3.out, N3.out], by rw [M3.out]; exact N4.out, fun i hi => ?_, by first | trivial | rfl⟩, by have := HK.out; simp [intOf]; omega⟩
          by_cases l : i < k
          · exact G1.out i l
          · obtain rfl : i = k := by omega
            exact QF.out
    · have e6 : N = k := by omega
      subst e6
      have E : Hid (fp (bQ f th) N = -1) := fp_none G1.out
      go_wp2
      go_ret
      exact ⟨by rw [E.out]; rfl, by first | trivial | rfl⟩
end Ss
end Go.Proofs.YtcmpiohiganliaaGreatDoor

namespace Go.Proofs.YtcmpiohiganliaaGreatDoor
open Go.RowKit Go.Deep
namespace Rn
open Sh
set_option maxRecDepth 100000 in
set_option maxHeartbeats 16000000 in
theorem valid18 (n r1 r2 r3 r4 : Int) (w : World) :
    Calls Tryz.prog 79 #[.int .i64 n, .agg #[.int .i64 r1, .int .i64 r2, .int .i64 r3, .int .i64 r4]] w fun e w' => e = .returned (.bool (vB n (r1, r2, r3, r4))) ∧ Below w.heap.size w w' := by
  have A0 : Hid (Ab w (w.alloc (.cells #[.int .i64 r1, .int .i64 r2, .int .i64 r3, .int .i64 r4] 122))) := bl1 _ _
  have R0 : Hid ((w.alloc (.cells #[.int .i64 r1, .int .i64 r2, .int .i64 r3, .int .i64 r4] 122)).heap[w.heap.size]? = some (.cells #[.int .i64 r1, .int .i64 r2, .int .i64 r3, .int .i64 r4] 122)) := heap_alloc_new _ _
  have VE : Hid (vB n (r1, r2, r3, r4) = (decide (0 ≤ r1) && decide (r1 < n) && decide (-4503599627370496 ≤ r2) && decide (r2 ≤ 4503599627370496) && decide (0 ≤ r3) && decide (r3 ≤ r4))) := rfl
  cases h0 : decide (0 ≤ r1) with
  | false =>
    have KO : Hid (vB n (r1, r2, r3, r4) = false) := VE.out.trans (by rw [h0] <;> rfl)
    clear VE
    go_enter Tryz.func79, Tryz.ntmps79
    go_upto_region 1 with fail
    generalize hW : World.alloc w _ = W0 at *
    obtain ⟨gw, hgw⟩ : ∃ g, w.heap.size = g := ⟨_, rfl⟩
    rw [hgw] at R0 ⊢
    clear hgw hW
    have x0 := cell_of_row _ _ 0 _ _ _ R0.out
    have x1 := cell_of_row _ _ 1 _ _ _ R0.out
    have x2 := cell_of_row _ _ 2 _ _ _ R0.out
    have x3 := cell_of_row _ _ 3 _ _ _ R0.out
    go_wp2
    go_ret
    exact ⟨by rw [KO.out]; rfl, A0.out⟩
  | true =>
    cases h1 : decide (r1 < n) with
    | false =>
      have KO : Hid (vB n (r1, r2, r3, r4) = false) := VE.out.trans (by rw [h0, h1] <;> rfl)
      clear VE
      go_enter Tryz.func79, Tryz.ntmps79
      go_upto_region 1 with fail
      generalize hW : World.alloc w _ = W0 at *
      obtain ⟨gw, hgw⟩ : ∃ g, w.heap.size = g := ⟨_, rfl⟩
      rw [hgw] at R0 ⊢
      clear hgw hW
      have x0 := cell_of_row _ _ 0 _ _ _ R0.out
      have x1 := cell_of_row _ _ 1 _ _ _ R0.out
      have x2 := cell_of_row _ _ 2 _ _ _ R0.out
      have x3 := cell_of_row _ _ 3 _ _ _ R0.out
      go_wp2
      go_ret
      exact ⟨by rw [KO.out]; rfl, A0.out⟩
    | true =>
      cases h2 : decide (-4503599627370496 ≤ r2) with
      | false =>
        have KO : Hid (vB n (r1, r2, r3, r4) = false) := VE.out.trans (by rw [h0, h1, h2] <;> rfl)
        clear VE
        go_enter Tryz.func79, Tryz.ntmps79
        go_upto_region 1 with fail
        generalize hW : World.alloc w _ = W0 at *
        obtain ⟨gw, hgw⟩ : ∃ g, w.heap.size = g := ⟨_, rfl⟩
        rw [hgw] at R0 ⊢
        clear hgw hW
        have x0 := cell_of_row _ _ 0 _ _ _ R0.out
        have x1 := cell_of_row _ _ 1 _ _ _ R0.out
        have x2 := cell_of_row _ _ 2 _ _ _ R0.out
        have x3 := cell_of_row _ _ 3 _ _ _ R0.out
        go_wp2
        go_ret
        exact ⟨by rw [KO.out]; rfl, A0.out⟩
      | true =>
        cases h3 : decide (r2 ≤ 4503599627370496) with
        | false =>
          have KO : Hid (vB n (r1, r2, r3, r4) = false) := VE.out.trans (by rw [h0, h1, h2, h3] <;> rfl)
          clear VE
          go_enter Tryz.func79, Tryz.ntmps79
          go_upto_region 1 with fail
          generalize hW : World.alloc w _ = W0 at *
          obtain ⟨gw, hgw⟩ : ∃ g, w.heap.size = g := ⟨_, rfl⟩
          rw [hgw] at R0 ⊢
          clear hgw hW
          have x0 := cell_of_row _ _ 0 _ _ _ R0.out
          have x1 := cell_of_row _ _ 1 _ _ _ R0.out
          have x2 := cell_of_row _ _ 2 _ _ _ R0.out
          have x3 := cell_of_row _ _ 3 _ _ _ R0.out
          go_wp2
          go_ret
          exact ⟨by rw [KO.out]; rfl, A0.out⟩
        | true =>
          cases h4 : decide (0 ≤ r3) with
          | false =>
            have KO : Hid (vB n (r1, r2, r3, r4) = false) := VE.out.trans (by rw [h0, h1, h2, h3, h4] <;> rfl)
            clear VE
            go_enter Tryz.func79, Tryz.ntmps79
            go_upto_region 1 with fail
            generalize hW : World.alloc w _ = W0 at *
            obtain ⟨gw, hgw⟩ : ∃ g, w.heap.size = g := ⟨_, rfl⟩
            rw [hgw] at R0 ⊢
            clear hgw hW
            have x0 := cell_of_row _ _ 0 _ _ _ R0.out
            have x1 := cell_of_row _ _ 1 _ _ _ R0.out
            have x2 := cell_of_row _ _ 2 _ _ _ R0.out
            have x3 := cell_of_row _ _ 3 _ _ _ R0.out
            go_wp2
            go_ret
            exact ⟨by rw [KO.out]; rfl, A0.out⟩
          | true =>
            cases h5 : decide (r3 ≤ r4) with
            | false =>
              have KO : Hid (vB n (r1, r2, r3, r4) = false) := VE.out.trans (by rw [h0, h1, h2, h3, h4, h5] <;> rfl)
              clear VE
              go_enter Tryz.func79, Tryz.ntmps79
              go_upto_region 1 with fail
              generalize hW : World.alloc w _ = W0 at *
              obtain ⟨gw, hgw⟩ : ∃ g, w.heap.size = g := ⟨_, rfl⟩
              rw [hgw] at R0 ⊢
              clear hgw hW
              have x0 := cell_of_row _ _ 0 _ _ _ R0.out
              have x1 := cell_of_row _ _ 1 _ _ _ R0.out
              have x2 := cell_of_row _ _ 2 _ _ _ R0.out
              have x3 := cell_of_row _ _ 3 _ _ _ R0.out
              go_wp2
              go_ret
              exact ⟨by rw [KO.out]; rfl, A0.out⟩
            | true =>
              have KO : Hid (vB n (r1, r2, r3, r4) = true) := VE.out.trans (by rw [h0, h1, h2, h3, h4, h5] <;> rfl)
              clear VE
              go_enter Tryz.func79, Tryz.ntmps79
              go_upto_region 1 with fail
              generalize hW : World.alloc w _ = W0 at *
              obtain ⟨gw, hgw⟩ : ∃ g, w.heap.size = g := ⟨_, rfl⟩
              rw [hgw] at R0 ⊢
              clear hgw hW
              have x0 := cell_of_row _ _ 0 _ _ _ R0.out
              have x1 := cell_of_row _ _ 1 _ _ _ R0.out
              have x2 := cell_of_row _ _ 2 _ _ _ R0.out
              have x3 := cell_of_row _ _ 3 _ _ _ R0.out
              go_wp2
              go_ret
              exact ⟨by rw [KO.out]; rfl, A0.out⟩
end Rn
end Go.Proofs.YtcmpiohiganliaaGreatDoor
