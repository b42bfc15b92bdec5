/-
  The statement on numbers and their opposites: a walk over the program.
-/
import Derived.Test.YtpnijbdoceladaaHb
namespace Go.Proofs.Ytpnijbdoceladaa
open Go.RowKit Tf
attribute [local go_sem] run_bits run_from raw_feq raw_fne raw_flt raw_fgt

set_option maxHeartbeats 8000000 in
set_option maxRecDepth 100000 in
theorem walk_go (th : Nat) (a1 a2 : Option Addr) (len cap len2 cap2 : Nat) (xs ys : Nat → Nat) (w : World) (hth0 : Hid (th < 18446744073709551616)) (n0 : Hid (mg th ≠ 0)) (fth : Hid (mg th < 9218868437227405312)) (hl : Hid (len ≤ 16384)) (hl2 : (len : Int) ≤ 16384) (h1 : Hid (IsFl w a1 len xs)) (h2 : Hid (IsFl w a2 len2 ys)) :
    Calls Try.prog 6 #[.float .f64 th, .slice a1 len cap, .slice a2 len2 cap2] w fun e w' => e = .returned (.bool true) ∧ Below w.heap.size w w' := by
  have hth := hth0.out
  have AW := hid awake_any
  have hz : feq th 0 = false := by rw [feq_zero th hth]; exact decide_eq_false n0.out
  have hsub := fun (ty : TypeId) (w : World) => run_float_arith (P := Try.prog) w .sub ty .f64 th th 0 (sub_self th hth fth.out)
  have f00 : feq 0 0 = true := by decide +kernel
  have HTH := hid hth
  clear hth
  have hng := run_neg
  go_enter Try.func6, Try.ntmps6
  go_wp2_with fail
  refine (AW.out _).mono ?_
  rintro e w1 ⟨rfl, b1⟩
  go_wp2_with fail
  refine (new_go _).mono ?_
  rintro e w2 ⟨rfl, rfl⟩
  have hs2 := b1.out.size
  have I2 : Hid (IsAcc w1.heap.size S0 (w1.alloc (.cells (encA S0) 56))) := heap_alloc_new _ _
  have B2 : Hid (Below w.heap.size w (w1.alloc (.cells (encA S0) 56))) := b1.out.alloc hs2 _
  obtain ⟨g, hg⟩ : ∃ g, w1.heap.size = g := ⟨_, rfl⟩
  obtain ⟨w2, hw2⟩ : ∃ W, w1.alloc (.cells (encA S0) 56) = W := ⟨_, rfl⟩
  rw [hg] at hs2 I2 ⊢
  rw [hw2] at I2 B2 ⊢
  have HS := hid hs2
  clear hg hw2 b1 hs2 AW hz hsub
  go_wp2_with fail
  refine (add_at g th S0 w2 HTH.out I2.out good0 (by decide)).mono ?_
  rintro e w3 ⟨rfl, I3, b3⟩
  have B3 : Hid (Below w.heap.size w w3) := B2.out.trans (b3.out.below HS.out B2.out.size)
  clear B2 b3 I2
  go_wp2
  go_loopw [9, 10] (fun nv tv wr => ∃ (t : Nat) (S : AS), t ≤ 2 ∧ nv = .int .i64 S.c ∧ tv = .int .i64 (t : Nat) ∧ IsAcc g S wr ∧ CI (sv th * ((2 ^ K : Nat) : Int) + turnV (canD len2 xs ys) len t 0) (1 + 2 * (len * t)) S ∧ Below w.heap.size w wr) (fun _ tv _ => 2 - (intOf tv).toNat)
  case atStart =>
    have ci := CI.start th HTH.out n0.out fth.out
    refine ⟨0, stepA S0 th, by omega, ?_, rfl, I3.out, ?_, B3.out⟩
    · show _ = Value.int .i64 (stepP _ _ _).c; rw [stepP_c]; rfl
    · rw [turnV_zero, Int.add_zero]; exact ci
  case round =>
    clear B3 I3
    obtain ⟨t, S, ht, rfl, rfl, iS, cS, bS⟩ := hrel
    by_cases ht2 : t < 2
    · have tl : ((t : Nat) : Int) < 2 := by omega
      have IS := hid iS
      have CS := hid cS
      have BS := hid bS
      obtain ⟨c, hc⟩ : ∃ c, S.c = c := ⟨_, rfl⟩
      rw [hc]
      have HC := hid hc
      clear iS cS bS hc
      go_wp2
      go_loopw [9, 11] (fun nv iv wr => ∃ (i : Nat) (S : AS), i ≤ len ∧ nv = .int .i64 S.c ∧ iv = .int .i64 (i : Nat) ∧ IsAcc g S wr ∧ CI (sv th * ((2 ^ K : Nat) : Int) + turnV (canD len2 xs ys) len t i) (1 + 2 * (len * t + i)) S ∧ Below w.heap.size w wr) (fun _ iv _ => len - (intOf iv).toNat)
      case atStart => exact ⟨0, S, by omega, by rw [HC.out], rfl, IS.out, CS.out, BS.out⟩
      case round =>
        clear IS CS BS HC S
        obtain ⟨i, S, hi, rfl, rfl, iS, cS, bS⟩ := hrel
        have hl' := hl.out
        by_cases hil : i < len
        · obtain ⟨x0, b, o, ea, hb, cx⟩ := h1.out i hil
          have cx2 : wr.cell? ⟨b, o + i, none⟩ = some (.float .f64 (xs i)) := by rw [bS.cell (p := ⟨b, o + i, none⟩) hb]; exact cx
          subst ea
          have il : ((i : Nat) : Int) < len := by omega
          have i2 : ((i : Nat) : Int) < 16384 := by omega
          have hlt : len * t ≤ 16384 * 1 := Nat.mul_le_mul hl' (by omega)
          have hm : 1 + 2 * (len * t + i) + 2 ≤ 1048576 := by omega
          have HM := hid hm
          have HX := hid x0
          have HI := hid hil
          have IS := hid iS
          have CS := hid cS
          have BS := hid bS
          have c0 := cS.good.c0
          have c1 : S.c < 1048574 := by have := cS.c1; omega
          obtain ⟨c, hc⟩ : ∃ c, S.c = c := ⟨_, rfl⟩
          rw [hc] at c0 c1 ⊢
          have HC := hid hc
          obtain ⟨x, hx⟩ : ∃ x, xs i = x := ⟨_, rfl⟩
          rw [hx] at cx2 HX
          have EX := hid hx
          clear hb cx x0 hl' hlt hm hil hi iS cS bS hc hx
          by_cases hyl : i < len2
          · obtain ⟨y0, b', o', ea', hb', cy⟩ := h2.out i hyl
            have cy2 : wr.cell? ⟨b', o' + i, none⟩ = some (.float .f64 (ys i)) := by rw [BS.out.cell (p := ⟨b', o' + i, none⟩) hb']; exact cy
            subst ea'
            have yl : ((i : Nat) : Int) < len2 := by omega
            have EY : Hid (canY len2 ys i = ys i) := by show _ = _; unfold canY; rw [if_pos hyl]
            have HY : Hid (ys i < 18446744073709551616) := y0
            obtain ⟨y, hy⟩ : ∃ y, ys i = y := ⟨_, rfl⟩
            rw [hy] at cy2 EY HY
            clear hb' cy y0 hy hyl
            by_cases fx : mg x < 9218868437227405312
            · have sx := fun (ty : TypeId) (w : World) => run_float_arith (P := Try.prog) w .sub ty .f64 x x 0 (sub_self x HX.out fx)
              have FX := hid fx
              clear fx
              by_cases fy : mg y < 9218868437227405312
              · have sy := fun (ty : TypeId) (w : World) => run_float_arith (P := Try.prog) w .sub ty .f64 y y 0 (sub_self y HY.out fy)
                have FY := hid fy
                clear fy
                have hd : canD len2 xs ys i = sv x * ((2 ^ K : Nat) : Int) + sv x * sv y := by unfold canD; rw [EX.out, EY.out, if_pos ⟨FX.out, FY.out⟩]
                have HD := hid hd
                clear hd
                by_cases t0 : t = 0
                · have tq : (((t : Nat) : Int) == 0) = true := by rw [t0]; rfl
                  have T0 := hid t0
                  clear t0
                  have A1 := hid (add_at g x S wr HX.out IS.out CS.out.good (by rw [HC.out]; omega))
                  go_wp2_with fail
                  refine A1.out.mono ?_
                  rintro e w4 ⟨rfl, I4, b4⟩
                  have G4 := stepP_good CS.out.good x ONE (by rw [HC.out]; omega)
                  have B4 : Hid (Below w.heap.size w w4) := BS.out.trans (b4.out.below HS.out BS.out.size)
                  have A2 := hid (addp_at g x y (stepA S x) w4 HX.out HY.out I4.out G4.c0 (by show (stepP _ _ _).c < _; rw [stepP_c, HC.out]; omega) G4.n0 G4.n1)
                  clear b4 A1 G4
                  go_wp2_with fail
                  refine A2.out.mono ?_
                  rintro e w5 ⟨rfl, I5, b5⟩
                  have B5 : Hid (Below w.heap.size w w5) := B4.out.trans (b5.out.below HS.out B4.out.size)
                  clear b5 A2 B4 I4
                  go_wp2
                  go_roundw
                  case measure => have := HI.out; simp [intOf]; omega
                  refine ⟨i + 1, stepP (stepA S x) x y, HI.out, ?_, by simp, I5.out, ?_, B5.out⟩
                  · rw [stepP_c]; show _ = Value.int .i64 ((stepP _ _ _).c + 1); rw [stepP_c, HC.out]; congr 1; omega
                  · have t0 := T0.out
                    subst t0
                    rw [turnV_up _ _ _, HD.out, ← Int.add_assoc, show 1 + 2 * (len * 0 + (i + 1)) = 1 + 2 * (len * 0 + i) + 2 by omega]
                    exact CS.out.two x y FX.out FY.out HM.out
                · have t1 : t = 1 := by omega
                  have tq : (((t : Nat) : Int) == 0) = false := by rw [t1]; rfl
                  have T0 := hid t1
                  clear t1 t0
                  have lx := negB_lt HX.out
                  have mx := mg_negB x
                  have sx2 := sv_negB x HX.out
                  have hn := negFloat_eq x HX.out
                  have A1 := hid (addp_at g y (negB x) S wr HY.out lx IS.out CS.out.good.c0 (by rw [HC.out]; omega) CS.out.good.n0 CS.out.good.n1)
                  have HMX := hid mx
                  have HSX := hid sx2
                  have HLX := hid lx
                  obtain ⟨nx, hnx⟩ : ∃ n, negB x = n := ⟨_, rfl⟩
                  rw [hnx] at A1 HMX HSX HLX hn
                  clear hnx lx mx sx2
                  go_wp2_with fail
                  refine A1.out.mono ?_
                  rintro e w4 ⟨rfl, I4, b4⟩
                  have G4 := stepP_good CS.out.good y nx (by rw [HC.out]; omega)
                  have B4 : Hid (Below w.heap.size w w4) := BS.out.trans (b4.out.below HS.out BS.out.size)
                  have A2 := hid (add_at g nx (stepP S y nx) w4 HLX.out I4.out G4 (by rw [stepP_c, HC.out]; omega))
                  clear b4 A1 G4
                  go_wp2_with fail
                  refine A2.out.mono ?_
                  rintro e w5 ⟨rfl, I5, b5⟩
                  have B5 : Hid (Below w.heap.size w w5) := B4.out.trans (b5.out.below HS.out B4.out.size)
                  clear b5 A2 B4 I4
                  go_wp2
                  go_roundw
                  case measure => have := HI.out; simp [intOf]; omega
                  refine ⟨i + 1, stepA (stepP S y nx) nx, HI.out, ?_, by simp, I5.out, ?_, B5.out⟩
                  · show _ = Value.int .i64 (stepP _ _ _).c; rw [stepP_c, stepP_c, HC.out]; congr 1; omega
                  · have t0 := T0.out
                    subst t0
                    rw [turnV_down _ _ _, HD.out, show 1 + 2 * (len * 1 + (i + 1)) = 1 + 2 * (len * 1 + i) + 2 by omega]
                    have h := CS.out.two' y nx FY.out (by rw [HMX.out]; exact FX.out) HM.out
                    rw [HSX.out] at h
                    have e : sv y * -sv x + -sv x * ((2 ^ K : Nat) : Int) = -(sv x * ((2 ^ K : Nat) : Int) + sv x * sv y) := by
                      rw [Int.mul_neg, Int.neg_mul, Int.mul_comm (sv y)]; omega
                    rw [Int.add_assoc, e] at h
                    rw [Int.sub_eq_add_neg, ← Int.add_assoc]
                    exact h
              · have sy := fun (ty : TypeId) (w : World) => run_nan_sub (P := Try.prog) w ty y y (sub_out y fy)
                have ny := fun (w : World) => feq_nan (nanOf w y y) 0 (.inl (isN_nanOf w y y))
                have hd : canD len2 xs ys i = 0 := by unfold canD; rw [EX.out, EY.out, if_neg (fun h => fy h.2)]
                have HD := hid hd
                clear hd fy
                go_wp2
                go_roundw
                case measure => have := HI.out; simp [intOf]; omega
                refine ⟨i + 1, S, HI.out, by rw [HC.out], by simp, IS.out, ?_, BS.out.drew⟩
                rw [turnV_flat _ _ _ _ HD.out]
                exact CS.out.more (by omega)
            · have sx := fun (ty : TypeId) (w : World) => run_nan_sub (P := Try.prog) w ty x x (sub_out x fx)
              have nx := fun (w : World) => feq_nan (nanOf w x x) 0 (.inl (isN_nanOf w x x))
              have hd : canD len2 xs ys i = 0 := by unfold canD; rw [EX.out, if_neg (fun h => fx h.1)]
              have HD := hid hd
              clear hd fx
              go_wp2
              go_roundw
              case measure => have := HI.out; simp [intOf]; omega
              refine ⟨i + 1, S, HI.out, by rw [HC.out], by simp, IS.out, ?_, BS.out.drew⟩
              rw [turnV_flat _ _ _ _ HD.out]
              exact CS.out.more (by omega)
          · have yl : (len2 : Int) ≤ (i : Nat) := by omega
            have EY : Hid (canY len2 ys i = ONE) := by show _ = _; unfold canY; rw [if_neg hyl]
            have HY : Hid (ONE < 18446744073709551616) := by show _ < _; decide
            have hone : ONE = 4607182418800017408 := rfl
            obtain ⟨y, hy⟩ : ∃ y, ONE = y := ⟨_, rfl⟩
            rw [hy] at EY HY hone
            have HO := hid hone
            clear hyl hy hone
            go_upto_region 17 with fail
            rw [← HO.out]
            clear HO
            by_cases fx : mg x < 9218868437227405312
            · have sx := fun (ty : TypeId) (w : World) => run_float_arith (P := Try.prog) w .sub ty .f64 x x 0 (sub_self x HX.out fx)
              have FX := hid fx
              clear fx
              by_cases fy : mg y < 9218868437227405312
              · have sy := fun (ty : TypeId) (w : World) => run_float_arith (P := Try.prog) w .sub ty .f64 y y 0 (sub_self y HY.out fy)
                have FY := hid fy
                clear fy
                have hd : canD len2 xs ys i = sv x * ((2 ^ K : Nat) : Int) + sv x * sv y := by unfold canD; rw [EX.out, EY.out, if_pos ⟨FX.out, FY.out⟩]
                have HD := hid hd
                clear hd
                by_cases t0 : t = 0
                · have tq : (((t : Nat) : Int) == 0) = true := by rw [t0]; rfl
                  have T0 := hid t0
                  clear t0
                  have A1 := hid (add_at g x S wr HX.out IS.out CS.out.good (by rw [HC.out]; omega))
                  go_wp2_with fail
                  refine A1.out.mono ?_
                  rintro e w4 ⟨rfl, I4, b4⟩
                  have G4 := stepP_good CS.out.good x ONE (by rw [HC.out]; omega)
                  have B4 : Hid (Below w.heap.size w w4) := BS.out.trans (b4.out.below HS.out BS.out.size)
                  have A2 := hid (addp_at g x y (stepA S x) w4 HX.out HY.out I4.out G4.c0 (by show (stepP _ _ _).c < _; rw [stepP_c, HC.out]; omega) G4.n0 G4.n1)
                  clear b4 A1 G4
                  go_wp2_with fail
                  refine A2.out.mono ?_
                  rintro e w5 ⟨rfl, I5, b5⟩
                  have B5 : Hid (Below w.heap.size w w5) := B4.out.trans (b5.out.below HS.out B4.out.size)
                  clear b5 A2 B4 I4
                  go_wp2
                  go_roundw
                  case measure => have := HI.out; simp [intOf]; omega
                  refine ⟨i + 1, stepP (stepA S x) x y, HI.out, ?_, by simp, I5.out, ?_, B5.out⟩
                  · rw [stepP_c]; show _ = Value.int .i64 ((stepP _ _ _).c + 1); rw [stepP_c, HC.out]; congr 1; omega
                  · have t0 := T0.out
                    subst t0
                    rw [turnV_up _ _ _, HD.out, ← Int.add_assoc, show 1 + 2 * (len * 0 + (i + 1)) = 1 + 2 * (len * 0 + i) + 2 by omega]
                    exact CS.out.two x y FX.out FY.out HM.out
                · have t1 : t = 1 := by omega
                  have tq : (((t : Nat) : Int) == 0) = false := by rw [t1]; rfl
                  have T0 := hid t1
                  clear t1 t0
                  have lx := negB_lt HX.out
                  have mx := mg_negB x
                  have sx2 := sv_negB x HX.out
                  have hn := negFloat_eq x HX.out
                  have A1 := hid (addp_at g y (negB x) S wr HY.out lx IS.out CS.out.good.c0 (by rw [HC.out]; omega) CS.out.good.n0 CS.out.good.n1)
                  have HMX := hid mx
                  have HSX := hid sx2
                  have HLX := hid lx
                  obtain ⟨nx, hnx⟩ : ∃ n, negB x = n := ⟨_, rfl⟩
                  rw [hnx] at A1 HMX HSX HLX hn
                  clear hnx lx mx sx2
                  go_wp2_with fail
                  refine A1.out.mono ?_
                  rintro e w4 ⟨rfl, I4, b4⟩
                  have G4 := stepP_good CS.out.good y nx (by rw [HC.out]; omega)
                  have B4 : Hid (Below w.heap.size w w4) := BS.out.trans (b4.out.below HS.out BS.out.size)
                  have A2 := hid (add_at g nx (stepP S y nx) w4 HLX.out I4.out G4 (by rw [stepP_c, HC.out]; omega))
                  clear b4 A1 G4
                  go_wp2_with fail
                  refine A2.out.mono ?_
                  rintro e w5 ⟨rfl, I5, b5⟩
                  have B5 : Hid (Below w.heap.size w w5) := B4.out.trans (b5.out.below HS.out B4.out.size)
                  clear b5 A2 B4 I4
                  go_wp2
                  go_roundw
                  case measure => have := HI.out; simp [intOf]; omega
                  refine ⟨i + 1, stepA (stepP S y nx) nx, HI.out, ?_, by simp, I5.out, ?_, B5.out⟩
                  · show _ = Value.int .i64 (stepP _ _ _).c; rw [stepP_c, stepP_c, HC.out]; congr 1; omega
                  · have t0 := T0.out
                    subst t0
                    rw [turnV_down _ _ _, HD.out, show 1 + 2 * (len * 1 + (i + 1)) = 1 + 2 * (len * 1 + i) + 2 by omega]
                    have h := CS.out.two' y nx FY.out (by rw [HMX.out]; exact FX.out) HM.out
                    rw [HSX.out] at h
                    have e : sv y * -sv x + -sv x * ((2 ^ K : Nat) : Int) = -(sv x * ((2 ^ K : Nat) : Int) + sv x * sv y) := by
                      rw [Int.mul_neg, Int.neg_mul, Int.mul_comm (sv y)]; omega
                    rw [Int.add_assoc, e] at h
                    rw [Int.sub_eq_add_neg, ← Int.add_assoc]
                    exact h
              · have sy := fun (ty : TypeId) (w : World) => run_nan_sub (P := Try.prog) w ty y y (sub_out y fy)
                have ny := fun (w : World) => feq_nan (nanOf w y y) 0 (.inl (isN_nanOf w y y))
                have hd : canD len2 xs ys i = 0 := by unfold canD; rw [EX.out, EY.out, if_neg (fun h => fy h.2)]
                have HD := hid hd
                clear hd fy
                go_wp2
                go_roundw
                case measure => have := HI.out; simp [intOf]; omega
                refine ⟨i + 1, S, HI.out, by rw [HC.out], by simp, IS.out, ?_, BS.out.drew⟩
                rw [turnV_flat _ _ _ _ HD.out]
                exact CS.out.more (by omega)
            · have sx := fun (ty : TypeId) (w : World) => run_nan_sub (P := Try.prog) w ty x x (sub_out x fx)
              have nx := fun (w : World) => feq_nan (nanOf w x x) 0 (.inl (isN_nanOf w x x))
              have hd : canD len2 xs ys i = 0 := by unfold canD; rw [EX.out, if_neg (fun h => fx h.1)]
              have HD := hid hd
              clear hd fx
              go_wp2
              go_roundw
              case measure => have := HI.out; simp [intOf]; omega
              refine ⟨i + 1, S, HI.out, by rw [HC.out], by simp, IS.out, ?_, BS.out.drew⟩
              rw [turnV_flat _ _ _ _ HD.out]
              exact CS.out.more (by omega)
        · have e : i = len := by omega
          subst e
          have il : decide (((i : Nat) : Int) < (i : Nat)) = false := by simp
          have IS := hid iS
          have CS := hid cS
          have BS := hid bS
          obtain ⟨c, hc⟩ : ∃ c, S.c = c := ⟨_, rfl⟩
          rw [hc]
          have HC := hid hc
          clear iS cS bS hc hil hi
          go_wp2
          go_roundw
          case measure => simp [intOf]; omega
          refine ⟨t + 1, S, by omega, by rw [HC.out], by simp, IS.out, ?_, BS.out⟩
          have e1 : turnV (canD len2 xs ys) i (t + 1) 0 = turnV (canD len2 xs ys) i t i := turnV_next _ _ _ (by omega)
          have e2 : 1 + 2 * (i * (t + 1)) = 1 + 2 * (i * t + i) := by rw [Nat.mul_add, Nat.mul_one]
          rw [e1, e2]; exact CS.out
    · have e : t = 2 := by omega
      subst e
      have gS := cS.good
      have hv : valB S = th := by
        have h := cS.val
        have e : turnV (canD len2 xs ys) len 2 0 = 0 := turnV_two _ _
        rw [e, Int.add_zero] at h
        rw [h, canon_rv_scale]
        exact rn_sv false th HTH.out (by have := n0.out; omega) (by have := fth.out; omega)
      have C1 := hid (count_at g S.c wr iS.c0)
      have V1 := hid (value_at g S wr iS gS.c0 gS.h0 gS.h1)
      rw [hv] at V1
      have BS := hid bS
      have RS := hid same_self
      obtain ⟨c, hc⟩ : ∃ c, S.c = c := ⟨_, rfl⟩
      rw [hc] at C1 ⊢
      clear iS cS bS hc gS hv ht ht2
      go_wp2_with fail
      refine C1.out.mono ?_
      rintro e w4 ⟨rfl, rfl⟩
      go_wp2_with fail
      refine V1.out.mono ?_
      rintro e w5 ⟨rfl, b5⟩
      have B5 : Hid (Below w.heap.size w w5) := BS.out.trans (b5.mono BS.out.size)
      clear b5 BS
      go_wp2_with fail
      refine (RS.out _ _).mono ?_
      rintro e w6 ⟨rfl, rfl⟩
      go_wp2
      go_ret
      exact ⟨rfl, B5.out⟩
end Go.Proofs.Ytpnijbdoceladaa
