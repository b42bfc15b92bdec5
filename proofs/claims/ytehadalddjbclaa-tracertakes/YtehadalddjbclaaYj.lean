/-
  The long division: a walk over the program (layer 14).
-/
import Derived.Test.YtehadalddjbclaaYi
import Derived.Test.YtehadalddjbclaaUz
namespace Go.Proofs.Ytehadalddjbclaa
open Go.RowKit
namespace Sh
set_option maxRecDepth 100000 in
set_option maxHeartbeats 4000000 in
theorem div_zero_go (lo y : Int) (w : World) (hy : 0 < y) (hy2 : y < 18446744073709551616) (hl : 0 ≤ lo) (hl2 : lo < 18446744073709551616) :
    Calls Try.prog 12 #[.int .u64 0, .int .u64 lo, .int .u64 y] w fun e w' => (∃ r, e = .returned (.tuple #[.int .u64 (lo / y), .int .u64 r])) ∧ w' = w.drew := by
  have h0 : (y == 0) = false := by simp; omega
  have h1 : decide (y ≤ 0) = false := decide_eq_false (by omega)
  go_enter Try.func12, Try.ntmps12
  go_wp2
  go_region
  go_wp2
  go_ret2
  exact ⟨⟨_, rfl⟩, rfl⟩
set_option maxRecDepth 100000 in
set_option maxHeartbeats 8000000 in
theorem div_go (hi lo y s Y a1 a0 u32 u10 u1 u0 U Q1 qa ra n21 V Q0 qb rb R : Int) (w : World) (h0 : 0 < hi) (hy : hi < y) (_hy2 : y < 9223372036854775808) (_hl : 0 ≤ lo) (_hl2 : lo < 18446744073709551616)
    (LZ : Hid (∀ v, Calls Try.prog 14 #[.int .u64 y] v fun e w' => e = .returned (.int .i64 s) ∧ w' = v))
    (s0 : 0 < s) (s1 : s < 64)
    (eY : IntKind.u64.wrap (y * 2 ^ s.toNat) = Y) (_Y0 : 0 ≤ Y) (_Y1 : Y < 18446744073709551616) (e1 : Y / 4294967296 = a1) (e0 : bits .and .u64 Y 4294967295 = a0)
    (eu : bits .or .u64 (IntKind.u64.wrap (hi * 2 ^ s.toNat)) (lo / 2 ^ (64 - s).toNat) = u32)
    (el : IntKind.u64.wrap (lo * 2 ^ s.toNat) = u10) (_l0 : 0 ≤ u10) (_l1 : u10 < 18446744073709551616) (f1 : u10 / 4294967296 = u1) (f0 : bits .and .u64 u10 4294967295 = u0) (a1p : 0 < a1) (a1q : a1 < 4294967296) (a0p : 0 ≤ a0) (a0q : a0 < 4294967296) (u32p : 0 ≤ u32) (u32q : u32 < 18446744073709551616) (u1p : 0 ≤ u1) (u1q : u1 < 4294967296) (u0p : 0 ≤ u0) (u0q : u0 < 4294967296)
    (eqa : u32 / a1 = qa) (era : IntKind.u64.wrap (u32 - IntKind.u64.wrap (qa * a1)) = ra) (qap : 0 ≤ qa) (qaq : qa < 18446744073709551616) (_rap : 0 ≤ ra) (raq : ra < 4294967296)
    (HY : Hid (Y = a1 * 4294967296 + a0)) (HY0 : Hid (0 < Y)) (HAU : Hid (U = u32 * 4294967296 + u1)) (HA0 : Hid (0 ≤ U)) (HAL : Hid (u32 < Y)) (HAQ : Hid (U / Y = Q1)) (HAS : Hid (DI Y a1 u32 U qa ra))
    (en : IntKind.u64.wrap (IntKind.u64.wrap (IntKind.u64.wrap (u32 * 4294967296) + u1) - IntKind.u64.wrap (Q1 * Y)) = n21) (np : 0 ≤ n21) (nq : n21 < 18446744073709551616) (Q1p : 0 ≤ Q1) (Q1q : Q1 < 4294967296)
    (eqb : n21 / a1 = qb) (erb : IntKind.u64.wrap (n21 - IntKind.u64.wrap (qb * a1)) = rb) (_qbp : 0 ≤ qb) (qbq : qb < 18446744073709551616) (_rbp : 0 ≤ rb) (rbq : rb < 4294967296)
    (HBU : Hid (V = n21 * 4294967296 + u0)) (HB0 : Hid (0 ≤ V)) (HBL : Hid (n21 < Y)) (HBQ : Hid (V / Y = Q0)) (HBS : Hid (DI Y a1 n21 V qb rb)) (Q0p : 0 ≤ Q0) (Q0q : Q0 < 4294967296) (RE : Hid (Q1 * 4294967296 + Q0 = R)) :
    Calls Try.prog 12 #[.int .u64 hi, .int .u64 lo, .int .u64 y] w fun e w' => (∃ r, e = .returned (.tuple #[.int .u64 R, .int .u64 r])) ∧ w' = w := by
  have g0 : (y == 0) = false := by simp; omega
  have g1 : decide (y ≤ hi) = false := decide_eq_false (by omega)
  have g2 : (hi == 0) = false := by simp; omega
  go_enter Try.func12, Try.ntmps12
  go_wp2_with fail
  refine (LZ.out _).mono ?_
  rintro e9 v ⟨rfl, hv⟩
  have hv2 := hv.symm
  subst hv2
  go_wp2
  clear g0 g1 g2 LZ eY eu el
  go_loopw [15, 16] (fun qv rv w8 => ∃ (q r : Int), qv = .int .u64 q ∧ rv = .int .u64 r ∧ DI Y a1 u32 U q r ∧ r < 4294967296 ∧ q < 18446744073709551616 ∧ w8 = w) (fun qv _ _ => (intOf qv).toNat)
  case atStart => exact ⟨_, _, rfl, rfl, by first | exact HAS.out | (rw [eqa]; exact HAS.out), by omega, by omega, rfl⟩
  case round =>
    obtain ⟨q, r, rfl, rfl, iv, rbd, qbd, hw8⟩ := hrel
    have hw9 := hw8.symm
    subst hw9
    have q0 := iv.2.2.2
    have r0 := iv.2.2.1
    have IV := hid iv
    clear iv
    by_cases c1 : 4294967296 ≤ q
    · have d1 : decide (4294967296 ≤ q) = true := decide_eq_true c1
      have CC : Hid (4294967296 ≤ q ∨ 4294967296 * r + u1 < q * a0) := Or.inl c1
      have NX := hid (DI.next HY.out HY0.out HAU.out ⟨by omega, by omega⟩ HAL.out HA0.out a1p IV.out CC.out)
      have q1 : 1 ≤ q := by have := NX.out.2.2.2; omega
      clear CC
      by_cases b : 4294967296 ≤ r + a1
      · have d3 : decide (4294967296 ≤ r + a1) = true := decide_eq_true b
        have GR := hid (DI.great (u1 := u1) HY.out ⟨by omega, by omega⟩ a1p (by omega) HAL.out NX.out b)
        have qe : q - 1 = Q1 := (DI.done HY.out HY0.out HAU.out NX.out GR.out.2).trans HAQ.out
        clear IV NX GR
        go_wp2
        go_loopw [16, 18] (fun rv qv w8 => ∃ (q r : Int), qv = .int .u64 q ∧ rv = .int .u64 r ∧ DI Y a1 n21 V q r ∧ r < 4294967296 ∧ q < 18446744073709551616 ∧ w8 = w) (fun _ qv _ => (intOf qv).toNat)
        case atStart => exact ⟨_, _, rfl, rfl, by first | exact HBS.out | (rw [eqb]; exact HBS.out), by omega, by omega, rfl⟩
        case round =>
          obtain ⟨q, r, rfl, rfl, iv, rbd, qbd, hw8⟩ := hrel
          have hw9 := hw8.symm
          subst hw9
          have q0 := iv.2.2.2
          have r0 := iv.2.2.1
          have IV := hid iv
          clear iv
          by_cases c1 : 4294967296 ≤ q
          · have d1 : decide (4294967296 ≤ q) = true := decide_eq_true c1
            have CC : Hid (4294967296 ≤ q ∨ 4294967296 * r + u0 < q * a0) := Or.inl c1
            have NX := hid (DI.next HY.out HY0.out HBU.out ⟨by omega, by omega⟩ HBL.out HB0.out a1p IV.out CC.out)
            have q1 : 1 ≤ q := by have := NX.out.2.2.2; omega
            clear CC
            by_cases b : 4294967296 ≤ r + a1
            · have d3 : decide (4294967296 ≤ r + a1) = true := decide_eq_true b
              have GR := hid (DI.great (u1 := u0) HY.out ⟨by omega, by omega⟩ a1p (by omega) HBL.out NX.out b)
              have qe : q - 1 = Q0 := (DI.done HY.out HY0.out HBU.out NX.out GR.out.2).trans HBQ.out
              clear IV NX GR
              go_wp2
              go_ret2
              exact ⟨⟨_, by rw [← RE.out]; rfl⟩, by first | trivial | rfl⟩
            · have d3 : decide (4294967296 ≤ r + a1) = false := decide_eq_false b
              go_wp2
              exact ⟨⟨_, _, rfl, rfl, NX.out, by omega, by omega, by first | trivial | rfl⟩, by simp [intOf] <;> omega⟩
          · have d1 : decide (4294967296 ≤ q) = false := decide_eq_false c1
            have pb := mul_bd (a := q) (b := a0) (m := 4294967295) (by omega) (by omega) (by omega) (by omega)
            obtain ⟨p, hp⟩ : ∃ p, q * a0 = p := ⟨_, rfl⟩
            have PE := hid hp
            rw [hp] at pb
            have p0 := pb.1
            have p1 : p ≤ 18446744065119617025 := Int.le_trans pb.2 (by decide)
            clear pb
            by_cases c2 : 4294967296 * r + u0 < p
            · have d2 : decide (4294967296 * r + u0 < p) = true := decide_eq_true c2
              have CC : Hid (4294967296 ≤ q ∨ 4294967296 * r + u0 < q * a0) := Or.inr (by rw [PE.out]; exact c2)
              have NX := hid (DI.next HY.out HY0.out HBU.out ⟨by omega, by omega⟩ HBL.out HB0.out a1p IV.out CC.out)
              have q1 : 1 ≤ q := by have := NX.out.2.2.2; omega
              clear CC
              by_cases b : 4294967296 ≤ r + a1
              · have d3 : decide (4294967296 ≤ r + a1) = true := decide_eq_true b
                have GR := hid (DI.great (u1 := u0) HY.out ⟨by omega, by omega⟩ a1p (by omega) HBL.out NX.out b)
                have qe : q - 1 = Q0 := (DI.done HY.out HY0.out HBU.out NX.out GR.out.2).trans HBQ.out
                clear IV NX GR
                go_wp2
                go_ret2
                exact ⟨⟨_, by rw [← RE.out]; rfl⟩, by first | trivial | rfl⟩
              · have d3 : decide (4294967296 ≤ r + a1) = false := decide_eq_false b
                go_wp2
                exact ⟨⟨_, _, rfl, rfl, NX.out, by omega, by omega, by first | trivial | rfl⟩, by simp [intOf] <;> omega⟩
            · have d2 : decide (4294967296 * r + u0 < p) = false := decide_eq_false c2
              have qe : q = Q0 := (DI.done HY.out HY0.out HBU.out IV.out (by rw [PE.out]; exact c2)).trans HBQ.out
              clear IV
              subst qe
              go_wp2
              go_ret2
              exact ⟨⟨_, by rw [← RE.out]; rfl⟩, by first | trivial | rfl⟩
      · have d3 : decide (4294967296 ≤ r + a1) = false := decide_eq_false b
        go_wp2
        exact ⟨⟨_, _, rfl, rfl, NX.out, by omega, by omega, by first | trivial | rfl⟩, by simp [intOf] <;> omega⟩
    · have d1 : decide (4294967296 ≤ q) = false := decide_eq_false c1
      have pb := mul_bd (a := q) (b := a0) (m := 4294967295) (by omega) (by omega) (by omega) (by omega)
      obtain ⟨p, hp⟩ : ∃ p, q * a0 = p := ⟨_, rfl⟩
      have PE := hid hp
      rw [hp] at pb
      have p0 := pb.1
      have p1 : p ≤ 18446744065119617025 := Int.le_trans pb.2 (by decide)
      clear pb
      by_cases c2 : 4294967296 * r + u1 < p
      · have d2 : decide (4294967296 * r + u1 < p) = true := decide_eq_true c2
        have CC : Hid (4294967296 ≤ q ∨ 4294967296 * r + u1 < q * a0) := Or.inr (by rw [PE.out]; exact c2)
        have NX := hid (DI.next HY.out HY0.out HAU.out ⟨by omega, by omega⟩ HAL.out HA0.out a1p IV.out CC.out)
        have q1 : 1 ≤ q := by have := NX.out.2.2.2; omega
        clear CC
        by_cases b : 4294967296 ≤ r + a1
        · have d3 : decide (4294967296 ≤ r + a1) = true := decide_eq_true b
          have GR := hid (DI.great (u1 := u1) HY.out ⟨by omega, by omega⟩ a1p (by omega) HAL.out NX.out b)
          have qe : q - 1 = Q1 := (DI.done HY.out HY0.out HAU.out NX.out GR.out.2).trans HAQ.out
          clear IV NX GR
          go_wp2
          go_loopw [16, 18] (fun rv qv w8 => ∃ (q r : Int), qv = .int .u64 q ∧ rv = .int .u64 r ∧ DI Y a1 n21 V q r ∧ r < 4294967296 ∧ q < 18446744073709551616 ∧ w8 = w) (fun _ qv _ => (intOf qv).toNat)
          case atStart => exact ⟨_, _, rfl, rfl, by first | exact HBS.out | (rw [eqb]; exact HBS.out), by omega, by omega, rfl⟩
          case round =>
            obtain ⟨q, r, rfl, rfl, iv, rbd, qbd, hw8⟩ := hrel
            have hw9 := hw8.symm
            subst hw9
            have q0 := iv.2.2.2
            have r0 := iv.2.2.1
            have IV := hid iv
            clear iv
            by_cases c1 : 4294967296 ≤ q
            · have d1 : decide (4294967296 ≤ q) = true := decide_eq_true c1
              have CC : Hid (4294967296 ≤ q ∨ 4294967296 * r + u0 < q * a0) := Or.inl c1
              have NX := hid (DI.next HY.out HY0.out HBU.out ⟨by omega, by omega⟩ HBL.out HB0.out a1p IV.out CC.out)
              have q1 : 1 ≤ q := by have := NX.out.2.2.2; omega
              clear CC
              by_cases b : 4294967296 ≤ r + a1
              · have d3 : decide (4294967296 ≤ r + a1) = true := decide_eq_true b
                have GR := hid (DI.great (u1 := u0) HY.out ⟨by omega, by omega⟩ a1p (by omega) HBL.out NX.out b)
                have qe : q - 1 = Q0 := (DI.done HY.out HY0.out HBU.out NX.out GR.out.2).trans HBQ.out
                clear IV NX GR
                go_wp2
                go_ret2
                exact ⟨⟨_, by rw [← RE.out]; rfl⟩, by first | trivial | rfl⟩
              · have d3 : decide (4294967296 ≤ r + a1) = false := decide_eq_false b
                go_wp2
                exact ⟨⟨_, _, rfl, rfl, NX.out, by omega, by omega, by first | trivial | rfl⟩, by simp [intOf] <;> omega⟩
            · have d1 : decide (4294967296 ≤ q) = false := decide_eq_false c1
              have pb := mul_bd (a := q) (b := a0) (m := 4294967295) (by omega) (by omega) (by omega) (by omega)
              obtain ⟨p, hp⟩ : ∃ p, q * a0 = p := ⟨_, rfl⟩
              have PE := hid hp
              rw [hp] at pb
              have p0 := pb.1
              have p1 : p ≤ 18446744065119617025 := Int.le_trans pb.2 (by decide)
              clear pb
              by_cases c2 : 4294967296 * r + u0 < p
              · have d2 : decide (4294967296 * r + u0 < p) = true := decide_eq_true c2
                have CC : Hid (4294967296 ≤ q ∨ 4294967296 * r + u0 < q * a0) := Or.inr (by rw [PE.out]; exact c2)
                have NX := hid (DI.next HY.out HY0.out HBU.out ⟨by omega, by omega⟩ HBL.out HB0.out a1p IV.out CC.out)
                have q1 : 1 ≤ q := by have := NX.out.2.2.2; omega
                clear CC
                by_cases b : 4294967296 ≤ r + a1
                · have d3 : decide (4294967296 ≤ r + a1) = true := decide_eq_true b
                  have GR := hid (DI.great (u1 := u0) HY.out ⟨by omega, by omega⟩ a1p (by omega) HBL.out NX.out b)
                  have qe : q - 1 = Q0 := (DI.done HY.out HY0.out HBU.out NX.out GR.out.2).trans HBQ.out
                  clear IV NX GR
                  go_wp2
                  go_ret2
                  exact ⟨⟨_, by rw [← RE.out]; rfl⟩, by first | trivial | rfl⟩
                · have d3 : decide (4294967296 ≤ r + a1) = false := decide_eq_false b
                  go_wp2
                  exact ⟨⟨_, _, rfl, rfl, NX.out, by omega, by omega, by first | trivial | rfl⟩, by simp [intOf] <;> omega⟩
              · have d2 : decide (4294967296 * r + u0 < p) = false := decide_eq_false c2
                have qe : q = Q0 := (DI.done HY.out HY0.out HBU.out IV.out (by rw [PE.out]; exact c2)).trans HBQ.out
                clear IV
                subst qe
                go_wp2
                go_ret2
                exact ⟨⟨_, by rw [← RE.out]; rfl⟩, by first | trivial | rfl⟩
        · have d3 : decide (4294967296 ≤ r + a1) = false := decide_eq_false b
          go_wp2
          exact ⟨⟨_, _, rfl, rfl, NX.out, by omega, by omega, by first | trivial | rfl⟩, by simp [intOf] <;> omega⟩
      · have d2 : decide (4294967296 * r + u1 < p) = false := decide_eq_false c2
        have qe : q = Q1 := (DI.done HY.out HY0.out HAU.out IV.out (by rw [PE.out]; exact c2)).trans HAQ.out
        clear IV
        subst qe
        go_wp2
        go_loopw [16, 18] (fun rv qv w8 => ∃ (q r : Int), qv = .int .u64 q ∧ rv = .int .u64 r ∧ DI Y a1 n21 V q r ∧ r < 4294967296 ∧ q < 18446744073709551616 ∧ w8 = w) (fun _ qv _ => (intOf qv).toNat)
        case atStart => exact ⟨_, _, rfl, rfl, by first | exact HBS.out | (rw [eqb]; exact HBS.out), by omega, by omega, rfl⟩
        case round =>
          obtain ⟨q, r, rfl, rfl, iv, rbd, qbd, hw8⟩ := hrel
          have hw9 := hw8.symm
          subst hw9
          have q0 := iv.2.2.2
          have r0 := iv.2.2.1
          have IV := hid iv
          clear iv
          by_cases c1 : 4294967296 ≤ q
          · have d1 : decide (4294967296 ≤ q) = true := decide_eq_true c1
            have CC : Hid (4294967296 ≤ q ∨ 4294967296 * r + u0 < q * a0) := Or.inl c1
            have NX := hid (DI.next HY.out HY0.out HBU.out ⟨by omega, by omega⟩ HBL.out HB0.out a1p IV.out CC.out)
            have q1 : 1 ≤ q := by have := NX.out.2.2.2; omega
            clear CC
            by_cases b : 4294967296 ≤ r + a1
            · have d3 : decide (4294967296 ≤ r + a1) = true := decide_eq_true b
              have GR := hid (DI.great (u1 := u0) HY.out ⟨by omega, by omega⟩ a1p (by omega) HBL.out NX.out b)
              have qe : q - 1 = Q0 := (DI.done HY.out HY0.out HBU.out NX.out GR.out.2).trans HBQ.out
              clear IV NX GR
              go_wp2
              go_ret2
              exact ⟨⟨_, by rw [← RE.out]; rfl⟩, by first | trivial | rfl⟩
            · have d3 : decide (4294967296 ≤ r + a1) = false := decide_eq_false b
              go_wp2
              exact ⟨⟨_, _, rfl, rfl, NX.out, by omega, by omega, by first | trivial | rfl⟩, by simp [intOf] <;> omega⟩
          · have d1 : decide (4294967296 ≤ q) = false := decide_eq_false c1
            have pb := mul_bd (a := q) (b := a0) (m := 4294967295) (by omega) (by omega) (by omega) (by omega)
            obtain ⟨p, hp⟩ : ∃ p, q * a0 = p := ⟨_, rfl⟩
            have PE := hid hp
            rw [hp] at pb
            have p0 := pb.1
            have p1 : p ≤ 18446744065119617025 := Int.le_trans pb.2 (by decide)
            clear pb
            by_cases c2 : 4294967296 * r + u0 < p
            · have d2 : decide (4294967296 * r + u0 < p) = true := decide_eq_true c2
              have CC : Hid (4294967296 ≤ q ∨ 4294967296 * r + u0 < q * a0) := Or.inr (by rw [PE.out]; exact c2)
              have NX := hid (DI.next HY.out HY0.out HBU.out ⟨by omega, by omega⟩ HBL.out HB0.out a1p IV.out CC.out)
              have q1 : 1 ≤ q := by have := NX.out.2.2.2; omega
              clear CC
              by_cases b : 4294967296 ≤ r + a1
              · have d3 : decide (4294967296 ≤ r + a1) = true := decide_eq_true b
                have GR := hid (DI.great (u1 := u0) HY.out ⟨by omega, by omega⟩ a1p (by omega) HBL.out NX.out b)
                have qe : q - 1 = Q0 := (DI.done HY.out HY0.out HBU.out NX.out GR.out.2).trans HBQ.out
                clear IV NX GR
                go_wp2
                go_ret2
                exact ⟨⟨_, by rw [← RE.out]; rfl⟩, by first | trivial | rfl⟩
              · have d3 : decide (4294967296 ≤ r + a1) = false := decide_eq_false b
                go_wp2
                exact ⟨⟨_, _, rfl, rfl, NX.out, by omega, by omega, by first | trivial | rfl⟩, by simp [intOf] <;> omega⟩
            · have d2 : decide (4294967296 * r + u0 < p) = false := decide_eq_false c2
              have qe : q = Q0 := (DI.done HY.out HY0.out HBU.out IV.out (by rw [PE.out]; exact c2)).trans HBQ.out
              clear IV
              subst qe
              go_wp2
              go_ret2
              exact ⟨⟨_, by rw [← RE.out]; rfl⟩, by first | trivial | rfl⟩
end Sh
end Go.Proofs.Ytehadalddjbclaa
