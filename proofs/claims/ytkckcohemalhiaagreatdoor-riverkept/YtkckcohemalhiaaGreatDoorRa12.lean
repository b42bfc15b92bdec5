/-
  Some of the texts of this proof, one behind the other.
-/
import Derived.Lib.SliceRun
import Derived.Test.YtkckcohemalhiaaGreatDoorTie
import Derived.Test.YtkckcohemalhiaaGreatDoorCards
import Derived.ProofKit
import Derived.LaidMore
import Derived.OpenShut
import Derived.Stop.Joined
import Derived.Carry
import Derived.Lib.SmallJoins
import Derived.WalkLawsBesides
import Derived.Test.YtkckcohemalhiaaGreatDoorRa11
namespace Go.Proofs.YtkckcohemalhiaaGreatDoor
open Go.RowKit
namespace Sh
set_option maxRecDepth 100000 in
set_option maxHeartbeats 4000000 in
theorem div_zero_go (lo y : Int) (w : World) (hy : 0 < y) (hy2 : y < 18446744073709551616) (hl : 0 ≤ lo) (hl2 : lo < 18446744073709551616) :
    Calls Tryz.prog 68 #[.int .u64 0, .int .u64 lo, .int .u64 y] w fun e w' => (∃ r, e = .returned (.tuple #[.int .u64 (lo / y), .int .u64 r])) ∧ w' = w.drew := by
  have h0 : (y == 0) = false := by simp; omega
  have h1 : decide (y ≤ 0) = false := decide_eq_false (by omega)
  go_enter Tryz.func68, Tryz.ntmps68
  go_wp2
  go_region
  go_wp2
  go_ret2
  exact ⟨⟨_, rfl⟩, rfl⟩
set_option maxRecDepth 100000 in
set_option maxHeartbeats 8000000 in
theorem div_go (hi lo y s Y a1 a0 u32 u10 u1 u0 U Q1 qa ra n21 V Q0 qb rb R : Int) (w : World) (h0 : 0 < hi) (hy : hi < y) (_hy2 : y < 9223372036854775808) (_hl : 0 ≤ lo) (_hl2 : lo < 18446744073709551616)
    (LZ : Hid (∀ v, Calls Tryz.prog 88 #[.int .u64 y] v fun e w' => e = .returned (.int .i64 s) ∧ w' = v))
    (s0 : 0 < s) (s1 : s < 64)
    (eY : IntKind.u64.wrap (y * 2 ^ s.toNat) = Y) (_Y0 : 0 ≤ Y) (_Y1 : Y < 18446744073709551616) (e1 : Y / 4294967296 = a1) (e0 : bits .and .u64 Y 4294967295 = a0)
    (eu : bits .or .u64 (IntKind.u64.wrap (hi * 2 ^ s.toNat)) (lo / 2 ^ (64 - s).toNat) = u32)
    (el : IntKind.u64.wrap (lo * 2 ^ s.toNat) = u10) (_l0 : 0 ≤ u10) (_l1 : u10 < 18446744073709551616) (f1 : u10 / 4294967296 = u1) (f0 : bits .and .u64 u10 4294967295 = u0) (a1p : 0 < a1) (a1q : a1 < 4294967296) (a0p : 0 ≤ a0) (a0q : a0 < 4294967296) (u32p : 0 ≤ u32) (u32q : u32 < 18446744073709551616) (u1p : 0 ≤ u1) (u1q : u1 < 4294967296) (u0p : 0 ≤ u0) (u0q : u0 < 4294967296)
    (eqa : u32 / a1 = qa) (era : IntKind.u64.wrap (u32 - IntKind.u64.wrap (qa * a1)) = ra) (qap : 0 ≤ qa) (qaq : qa < 18446744073709551616) (_rap : 0 ≤ ra) (raq : ra < 4294967296)
    (HY : Hid (Y = a1 * 4294967296 + a0)) (HY0 : Hid (0 < Y)) (HAU : Hid (U = u32 * 4294967296 + u1)) (HA0 : Hid (0 ≤ U)) (HAL : Hid (u32 < Y)) (HAQ : Hid (U / Y = Q1)) (HAS : Hid (DI Y a1 u32 U qa ra))
    (en : IntKind.u64.wrap (IntKind.u64.wrap (IntKind.u64.wrap (u32 * 4294967296) + u1) - IntKind.u64.wrap (Q1 * Y)) = n21) (np : 0 ≤ n21) (nq : n21 < 18446744073709551616) (Q1p : 0 ≤ Q1) (Q1q : Q1 < 4294967296)
    (eqb : n21 / a1 = qb) (erb : IntKind.u64.wrap (n21 - IntKind.u64.wrap (qb * a1)) = rb) (_qbp : 0 ≤ qb) (qbq : qb < 18446744073709551616) (_rbp : 0 ≤ rb) (rbq : rb < 4294967296)
    (HBU : Hid (V = n21 * 4294967296 + u0)) (HB0 : Hid (0 ≤ V)) (HBL : Hid (n21 < Y)) (HBQ : Hid (V / Y = Q0)) (HBS : Hid (DI Y a1 n21 V qb rb)) (Q0p : 0 ≤ Q0) (Q0q : Q0 < 4294967296) (RE : Hid (Q1 * 4294967296 + Q0 = R)) :
    Calls Tryz.prog 68 #[.int .u64 hi, .int .u64 lo, .int .u64 y] w fun e w' => (∃ r, e = .returned (.tuple #[.int .u64 R, .int .u64 r])) ∧ w' = w := by
  have g0 : (y == 0) = false := by simp; omega
  have g1 : decide (y ≤ hi) = false := decide_eq_false (by omega)
  have g2 : (hi == 0) = false := by simp; omega
  go_enter Tryz.func68, Tryz.ntmps68
  go_wp2_with fail
  refine (LZ.out _).mono ?_
  rintro e9 v ⟨rfl, hv⟩
  have hv2 := hv.symm
  subst hv2
  go_wp2
  clear g0 g1 g2 LZ eY eu el
  go_loopw [15, 16] (fun qv rv w8 => ∃ (q r : Int), qv = .int .u64 q ∧ rv = .int .u64 r ∧ DI Y a1 u32 U q r ∧ r < 4294967296 ∧ q < 18446744073709551616 ∧ w8 = w) (fun qv _ _ => (intOf qv).toNat)
  case atStart => exact ⟨_, _, rfl, rfl, by first | exact HAS.out | (rw [eqa]; exact HAS.out), by omega, by omega, rfl⟩
  case round =>
    obtain ⟨q, r, rfl, rfl, iv, rbd, qbd, hw8⟩ := hrel
    have hw9 := hw8.symm
    subst hw9
    have q0 := iv.2.2.2
    have r0 := iv.2.2.1
    have IV := hid iv
    clear iv
    by_cases c1 : 4294967296 ≤ q
    · have d1 : decide (4294967296 ≤ q) = true := decide_eq_true c1
      have CC : Hid (4294967296 ≤ q ∨ 4294967296 * r + u1 < q * a0) := Or.inl c1
      have NX := hid (DI.next HY.out HY0.out HAU.out ⟨by omega, by omega⟩ HAL.out HA0.out a1p IV.out CC.out)
      have q1 : 1 ≤ q := by have := NX.out.2.2.2; omega
      clear CC
      by_cases b : 4294967296 ≤ r + a1
      · have d3 : decide (4294967296 ≤ r + a1) = true := decide_eq_true b
        have GR := hid (DI.great (u1 := u1) HY.out ⟨by omega, by omega⟩ a1p (by omega) HAL.out NX.out b)
        have qe : q - 1 = Q1 := (DI.done HY.out HY0.out HAU.out NX.out GR.out.2).trans HAQ.out
        clear IV NX GR
        go_wp2
        go_loopw [16, 18] (fun rv qv w8 => ∃ (q r : Int), qv = .int .u64 q ∧ rv = .int .u64 r ∧ DI Y a1 n21 V q r ∧ r < 4294967296 ∧ q < 18446744073709551616 ∧ w8 = w) (fun _ qv _ => (intOf qv).toNat)
        case atStart => exact ⟨_, _, rfl, rfl, by first | exact HBS.out | (rw [eqb]; exact HBS.out), by omega, by omega, rfl⟩
        case round =>
          obtain ⟨q, r, rfl, rfl, iv, rbd, qbd, hw8⟩ := hrel
          have hw9 := hw8.symm
          subst hw9
          have q0 := iv.2.2.2
          have r0 := iv.2.2.1
          have IV := hid iv
          clear iv
          by_cases c1 : 4294967296 ≤ q
          · have d1 : decide (4294967296 ≤ q) = true := decide_eq_true c1
            have CC : Hid (4294967296 ≤ q ∨ 4294967296 * r + u0 < q * a0) := Or.inl c1
            have NX := hid (DI.next HY.out HY0.out HBU.out ⟨by omega, by omega⟩ HBL.out HB0.out a1p IV.out CC.out)
            have q1 : 1 ≤ q := by have := NX.out.2.2.2; omega
            clear CC
            by_cases b : 4294967296 ≤ r + a1
            · have d3 : decide (4294967296 ≤ r + a1) = true := decide_eq_true b
              have GR := hid (DI.great (u1 := u0) HY.out ⟨by omega, by omega⟩ a1p (by omega) HBL.out NX.out b)
              have qe : q - 1 = Q0 := (DI.done HY.out HY0.out HBU.out NX.out GR.out.2).trans HBQ.out
              clear IV NX GR
              go_wp2
              go_ret2
              exact ⟨⟨_, by rw [← RE.out]; rfl⟩, by first | trivial | rfl⟩
            · have d3 : decide (4294967296 ≤ r + a1) = false := decide_eq_false b
              go_wp2
              exact ⟨⟨_, _, rfl, rfl, NX.out, by omega, by omega, by first | trivial | rfl⟩, by simp [intOf] <;> omega⟩
          · have d1 : decide (4294967296 ≤ q) = false := decide_eq_false c1
            have pb := mul_bd (a := q) (b := a0) (m := 4294967295) (by omega) (by omega) (by omega) (by omega)
            obtain ⟨p, hp⟩ : ∃ p, q * a0 = p := ⟨_, rfl⟩
            have PE := hid hp
            rw [hp] at pb
            have p0 := pb.1
            have p1 : p ≤ 18446744065119617025 := Int.le_trans pb.2 (by decide)
            clear pb
            by_cases c2 : 4294967296 * r + u0 < p
            · have d2 : decide (4294967296 * r + u0 < p) = true := decide_eq_true c2
              have CC : Hid (4294967296 ≤ q ∨ 4294967296 * r + u0 < q * a0) := Or.inr (by rw [PE.out]; exact c2)
              have NX := hid (DI.next HY.out HY0.out HBU.out ⟨by omega, by omega⟩ HBL.out HB0.out a1p IV.out CC.out)
              have q1 : 1 ≤ q := by have := NX.out.2.2.2; omega
              clear CC
              by_cases b : 4294967296 ≤ r + a1
              · have d3 : decide (4294967296 ≤ r + a1) = true := decide_eq_true b
                have GR := hid (DI.great (u1 := u0) HY.out ⟨by omega, by omega⟩ a1p (by omega) HBL.out NX.out b)
                have qe : q - 1 = Q0 := (DI.done HY.out HY0.out HBU.out NX.out GR.out.2).trans HBQ.out
                clear IV NX GR
                go_wp2
                go_ret2
                exact ⟨⟨_, by rw [← RE.out]; rfl⟩, by first | trivial | rfl⟩
              · have d3 : decide (4294967296 ≤ r + a1) = false := decide_eq_false b
                go_wp2
                exact ⟨⟨_, _, rfl, rfl, NX.out, by omega, by omega, by first | trivial | rfl⟩, by simp [intOf] <;> omega⟩
            · have d2 : decide (4294967296 * r + u0 < p) = false := decide_eq_false c2
              have qe : q = Q0 := (DI.done HY.out HY0.out HBU.out IV.out (by rw [PE.out]; exact c2)).trans HBQ.out
              clear IV
              subst qe
              go_wp2
              go_ret2
              exact ⟨⟨_, by rw [← RE.out]; rfl⟩, by first | trivial | rfl⟩
      · have d3 : decide (4294967296 ≤ r + a1) = false := decide_eq_false b
        go_wp2
        exact ⟨⟨_, _, rfl, rfl, NX.out, by omega, by omega, by first | trivial | rfl⟩, by simp [intOf] <;> omega⟩
    · have d1 : decide (4294967296 ≤ q) = false := decide_eq_false c1
      have pb := mul_bd (a := q) (b := a0) (m := 4294967295) (by omega) (by omega) (by omega) (by omega)
      obtain ⟨p, hp⟩ : ∃ p, q * a0 = p := ⟨_, rfl⟩
      have PE := hid hp
      rw [hp] at pb
      have p0 := pb.1
      have p1 : p ≤ 18446744065119617025 := Int.le_trans pb.2 (by decide)
      clear pb
      by_cases c2 : 4294967296 * r + u1 < p
      · have d2 : decide (4294967296 * r + u1 < p) = true := decide_eq_true c2
        have CC : Hid (4294967296 ≤ q ∨ 4294967296 * r + u1 < q * a0) := Or.inr (by rw [PE.out]; exact c2)
        have NX := hid (DI.next HY.out HY0.out HAU.out ⟨by omega, by omega⟩ HAL.out HA0.out a1p IV.out CC.out)
        have q1 : 1 ≤ q := by have := NX.out.2.2.2; omega
        clear CC
        by_cases b : 4294967296 ≤ r + a1
        · have d3 : decide (4294967296 ≤ r + a1) = true := decide_eq_true b
          have GR := hid (DI.great (u1 := u1) HY.out ⟨by omega, by omega⟩ a1p (by omega) HAL.out NX.out b)
          have qe : q - 1 = Q1 := (DI.done HY.out HY0.out HAU.out NX.out GR.out.2).trans HAQ.out
          clear IV NX GR
          go_wp2
          go_loopw [16, 18] (fun rv qv w8 => ∃ (q r : Int), qv = .int .u64 q ∧ rv = .int .u64 r ∧ DI Y a1 n21 V q r ∧ r < 4294967296 ∧ q < 18446744073709551616 ∧ w8 = w) (fun _ qv _ => (intOf qv).toNat)
          case atStart => exact ⟨_, _, rfl, rfl, by first | exact HBS.out | (rw [eqb]; exact HBS.out), by omega, by omega, rfl⟩
          case round =>
            obtain ⟨q, r, rfl, rfl, iv, rbd, qbd, hw8⟩ := hrel
            have hw9 := hw8.symm
            subst hw9
            have q0 := iv.2.2.2
            have r0 := iv.2.2.1
            have IV := hid iv
            clear iv
            by_cases c1 : 4294967296 ≤ q
            · have d1 : decide (4294967296 ≤ q) = true := decide_eq_true c1
              have CC : Hid (4294967296 ≤ q ∨ 4294967296 * r + u0 < q * a0) := Or.inl c1
              have NX := hid (DI.next HY.out HY0.out HBU.out ⟨by omega, by omega⟩ HBL.out HB0.out a1p IV.out CC.out)
              have q1 : 1 ≤ q := by have := NX.out.2.2.2; omega
              clear CC
              by_cases b : 4294967296 ≤ r + a1
              · have d3 : decide (4294967296 ≤ r + a1) = true := decide_eq_true b
                have GR := hid (DI.great (u1 := u0) HY.out ⟨by omega, by omega⟩ a1p (by omega) HBL.out NX.out b)
                have qe : q - 1 = Q0 := (DI.done HY.out HY0.out HBU.out NX.out GR.out.2).trans HBQ.out
                clear IV NX GR
                go_wp2
                go_ret2
                exact ⟨⟨_, by rw [← RE.out]; rfl⟩, by first | trivial | rfl⟩
              · have d3 : decide (4294967296 ≤ r + a1) = false := decide_eq_false b
                go_wp2
                exact ⟨⟨_, _, rfl, rfl, NX.out, by omega, by omega, by first | trivial | rfl⟩, by simp [intOf] <;> omega⟩
            · have d1 : decide (4294967296 ≤ q) = false := decide_eq_false c1
              have pb := mul_bd (a := q) (b := a0) (m := 4294967295) (by omega) (by omega) (by omega) (by omega)
              obtain ⟨p, hp⟩ : ∃ p, q * a0 = p := ⟨_, rfl⟩
              have PE := hid hp
              rw [hp] at pb
              have p0 := pb.1
              have p1 : p ≤ 18446744065119617025 := Int.le_trans pb.2 (by decide)
              clear pb
              by_cases c2 : 4294967296 * r + u0 < p
              · have d2 : decide (4294967296 * r + u0 < p) = true := decide_eq_true c2
                have CC : Hid (4294967296 ≤ q ∨ 4294967296 * r + u0 < q * a0) := Or.inr (by rw [PE.out]; exact c2)
                have NX := hid (DI.next HY.out HY0.out HBU.out ⟨by omega, by omega⟩ HBL.out HB0.out a1p IV.out CC.out)
                have q1 : 1 ≤ q := by have := NX.out.2.2.2; omega
                clear CC
                by_cases b : 4294967296 ≤ r + a1
                · have d3 : decide (4294967296 ≤ r + a1) = true := decide_eq_true b
                  have GR := hid (DI.great (u1 := u0) HY.out ⟨by omega, by omega⟩ a1p (by omega) HBL.out NX.out b)
                  have qe : q - 1 = Q0 := (DI.done HY.out HY0.out HBU.out NX.out GR.out.2).trans HBQ.out
                  clear IV NX GR
                  go_wp2
                  go_ret2
                  exact ⟨⟨_, by rw [← RE.out]; rfl⟩, by first | trivial | rfl⟩
                · have d3 : decide (4294967296 ≤ r + a1) = false := decide_eq_false b
                  go_wp2
                  exact ⟨⟨_, _, rfl, rfl, NX.out, by omega, by omega, by first | trivial | rfl⟩, by simp [intOf] <;> omega⟩
              · have d2 : decide (4294967296 * r + u0 < p) = false := decide_eq_false c2
                have qe : q = Q0 := (DI.done HY.out HY0.out HBU.out IV.out (by rw [PE.out]; exact c2)).trans HBQ.out
                clear IV
                subst qe
                go_wp2
                go_ret2
                exact ⟨⟨_, by rw [← RE.out]; rfl⟩, by first | trivial | rfl⟩
        · have d3 : decide (4294967296 ≤ r + a1) = false := decide_eq_false b
          go_wp2
          exact ⟨⟨_, _, rfl, rfl, NX.out, by omega, by omega, by first | trivial | rfl⟩, by simp [intOf] <;> omega⟩
      · have d2 : decide (4294967296 * r + u1 < p) = false := decide_eq_false c2
        have qe : q = Q1 := (DI.done HY.out HY0.out HAU.out IV.out (by rw [PE.out]; exact c2)).trans HAQ.out
        clear IV
        subst qe
        go_wp2
        go_loopw [16, 18] (fun rv qv w8 => ∃ (q r : Int), qv = .int .u64 q ∧ rv = .int .u64 r ∧ DI Y a1 n21 V q r ∧ r < 4294967296 ∧ q < 18446744073709551616 ∧ w8 = w) (fun _ qv _ => (intOf qv).toNat)
        case atStart => exact ⟨_, _, rfl, rfl, by first | exact HBS.out | (rw [eqb]; exact HBS.out), by omega, by omega, rfl⟩
        case round =>
          obtain ⟨q, r, rfl, rfl, iv, rbd, qbd, hw8⟩ := hrel
          have hw9 := hw8.symm
          subst hw9
          have q0 := iv.2.2.2
          have r0 := iv.2.2.1
          have IV := hid iv
          clear iv
          by_cases c1 : 4294967296 ≤ q
          · have d1 : decide (4294967296 ≤ q) = true := decide_eq_true c1
            have CC : Hid (4294967296 ≤ q ∨ 4294967296 * r + u0 < q * a0) := Or.inl c1
            have NX := hid (DI.next HY.out HY0.out HBU.out ⟨by omega, by omega⟩ HBL.out HB0.out a1p IV.out CC.out)
            have q1 : 1 ≤ q := by have := NX.out.2.2.2; omega
            clear CC
            by_cases b : 4294967296 ≤ r + a1
            · have d3 : decide (4294967296 ≤ r + a1) = true := decide_eq_true b
              have GR := hid (DI.great (u1 := u0) HY.out ⟨by omega, by omega⟩ a1p (by omega) HBL.out NX.out b)
              have qe : q - 1 = Q0 := (DI.done HY.out HY0.out HBU.out NX.out GR.out.2).trans HBQ.out
              clear IV NX GR
              go_wp2
              go_ret2
              exact ⟨⟨_, by rw [← RE.out]; rfl⟩, by first | trivial | rfl⟩
            · have d3 : decide (4294967296 ≤ r + a1) = false := decide_eq_false b
              go_wp2
              exact ⟨⟨_, _, rfl, rfl, NX.out, by omega, by omega, by first | trivial | rfl⟩, by simp [intOf] <;> omega⟩
          · have d1 : decide (4294967296 ≤ q) = false := decide_eq_false c1
            have pb := mul_bd (a := q) (b := a0) (m := 4294967295) (by omega) (by omega) (by omega) (by omega)
            obtain ⟨p, hp⟩ : ∃ p, q * a0 = p := ⟨_, rfl⟩
            have PE := hid hp
            rw [hp] at pb
            have p0 := pb.1
            have p1 : p ≤ 18446744065119617025 := Int.le_trans pb.2 (by decide)
            clear pb
            by_cases c2 : 4294967296 * r + u0 < p
            · have d2 : decide (4294967296 * r + u0 < p) = true := decide_eq_true c2
              have CC : Hid (4294967296 ≤ q ∨ 4294967296 * r + u0 < q * a0) := Or.inr (by rw [PE.out]; exact c2)
              have NX := hid (DI.next HY.out HY0.out HBU.out ⟨by omega, by omega⟩ HBL.out HB0.out a1p IV.out CC.out)
              have q1 : 1 ≤ q := by have := NX.out.2.2.2; omega
              clear CC
              by_cases b : 4294967296 ≤ r + a1
              · have d3 : decide (4294967296 ≤ r + a1) = true := decide_eq_true b
                have GR := hid (DI.great (u1 := u0) HY.out ⟨by omega, by omega⟩ a1p (by omega) HBL.out NX.out b)
                have qe : q - 1 = Q0 := (DI.done HY.out HY0.out HBU.out NX.out GR.out.2).trans HBQ.out
                clear IV NX GR
                go_wp2
                go_ret2
                exact ⟨⟨_, by rw [← RE.out]; rfl⟩, by first | trivial | rfl⟩
              · have d3 : decide (4294967296 ≤ r + a1) = false := decide_eq_false b
                go_wp2
                exact ⟨⟨_, _, rfl, rfl, NX.out, by omega, by omega, by first | trivial | rfl⟩, by simp [intOf] <;> omega⟩
            · have d2 : decide (4294967296 * r + u0 < p) = false := decide_eq_false c2
              have qe : q = Q0 := (DI.done HY.out HY0.out HBU.out IV.out (by rw [PE.out]; exact c2)).trans HBQ.out
              clear IV
              subst qe
              go_wp2
              go_ret2
              exact ⟨⟨_, by rw [← RE.out]; rfl⟩, by first | trivial | rfl⟩
end Sh
end Go.Proofs.YtkckcohemalhiaaGreatDoor

namespace Go.Proofs.YtkckcohemalhiaaGreatDoor
open Go.RowKit Go.Deep
namespace Sh
/-- both words moved up -/
theorem up_words {hi lo S P : Int} (hSP : S * P = 18446744073709551616) (hS : 0 < S) (hP : 0 < P) (hl : 0 ≤ lo) (hl2 : lo < 18446744073709551616) :
    0 ≤ lo / P ∧ lo / P < S ∧ (hi * S + lo / P) * 18446744073709551616 + lo * S % 18446744073709551616 = (hi * 18446744073709551616 + lo) * S := by
  have d := Int.mul_ediv_add_emod lo P
  have m0 := Int.emod_nonneg lo (show P ≠ 0 by omega)
  have m1 := Int.emod_lt_of_pos lo hP
  have q0 : 0 ≤ lo / P := Int.ediv_nonneg hl (by omega)
  have q1 : lo / P < S := Int.ediv_lt_of_lt_mul hP (by rw [hSP]; exact hl2)
  refine ⟨q0, q1, ?_⟩
  generalize lo / P = a at *
  generalize lo % P = b at *
  have e : lo * S = a * 18446744073709551616 + b * S := by
    rw [← d, ← hSP, Int.add_mul]
    congr 1
    ac_rfl
  have b0 : 0 ≤ b * S := Int.mul_nonneg m0 (by omega)
  have b1 : b * S < 18446744073709551616 := by
    rw [← hSP, Int.mul_comm S P]
    exact Int.mul_lt_mul_of_pos_right m1 hS
  have f : hi * 18446744073709551616 * S = hi * S * 18446744073709551616 := by ac_rfl
  rw [Int.add_mul, Int.add_mul, f, e]
  generalize hi * S = g at *
  generalize b * S = h at *
  omega
/-- two digits make the quotient -/
theorem two_digits {X Y U V u0 : Int} (hY : 0 < Y) (hX : X = U * 4294967296 + u0) (hV : V = U % Y * 4294967296 + u0) : U / Y * 4294967296 + V / Y = X / Y := by
  have d := Int.mul_ediv_add_emod U Y
  generalize U / Y = q at *
  generalize U % Y = r at *
  have e : X = V + Y * (q * 4294967296) := by
    have : Y * (q * 4294967296) = Y * q * 4294967296 := by ac_rfl
    omega
  rw [e, Int.add_mul_ediv_left _ _ (by omega)]
  omega
/-- the first guess -/
theorem guess {u a : Int} (ha : 0 < a) (hu : 0 ≤ u) (hu2 : u < 18446744073709551616) : 0 ≤ u / a ∧ u / a < 18446744073709551616 ∧ IntKind.u64.wrap (u - IntKind.u64.wrap (u / a * a)) = u - u / a * a ∧ 0 ≤ u - u / a * a ∧ u - u / a * a < a := by
  have d := Int.mul_ediv_add_emod u a
  have m0 := Int.emod_nonneg u (show a ≠ 0 by omega)
  have m1 := Int.emod_lt_of_pos u ha
  have q0 : 0 ≤ u / a := Int.ediv_nonneg hu (by omega)
  have q1 : u / a ≤ u := Int.ediv_le_self _ hu
  have t : 0 ≤ a * (u / a) := Int.mul_nonneg (by omega) q0
  rw [Int.mul_comm] at d t
  generalize u / a * a = p at *
  refine ⟨q0, by omega, ?_, by omega, by omega⟩
  rw [wrapu, wrapu]
  omega
theorem div_pos_at (hi lo y : Int) (w : World) (h0 : 0 < hi) (hy : hi < y) (hy2 : y < 9223372036854775808) (hl : 0 ≤ lo) (hl2 : lo < 18446744073709551616) :
    Calls Tryz.prog 68 #[.int .u64 hi, .int .u64 lo, .int .u64 y] w fun e w' => (∃ r, e = .returned (.tuple #[.int .u64 ((hi * 18446744073709551616 + lo) / y), .int .u64 r])) ∧ w' = w := by
  obtain ⟨n, rfl⟩ := Int.eq_ofNat_of_zero_le (show 0 ≤ y by omega)
  have n0 : n ≠ 0 := by omega
  have b1 := Nat.log2_self_le n0
  have b2 := Nat.lt_log2_self (n := n)
  have b3 : n.log2 < 63 := (Nat.log2_lt n0).2 (by omega)
  have b4 : 0 < n.log2 := by
    rcases Nat.eq_zero_or_pos n.log2 with z | z
    · rw [z] at b2; omega
    · exact z
  obtain ⟨k, hk⟩ : ∃ k : Nat, n.log2 + 1 + k = 64 := ⟨63 - n.log2, by omega⟩
  have LZ : ∀ v, Calls Tryz.prog 88 #[.int .u64 (n : Int)] v fun e w' => e = .returned (.int .i64 (k : Int)) ∧ w' = v := fun v => by
    have h := lead_at n v (by omega) (by omega)
    rwa [show (64 : Int) - ((n.log2 + 1 : Nat) : Int) = (k : Int) by omega] at h
  have hSPn : 2 ^ k * 2 ^ (64 - k) = 18446744073709551616 := by rw [← Nat.pow_add, show k + (64 - k) = 64 by omega]
  have Yl : 9223372036854775808 ≤ n * 2 ^ k := by
    have h := Nat.mul_le_mul_right (2 ^ k) b1
    rw [← Nat.pow_add, show n.log2 + k = 63 by omega] at h
    exact h
  have Yh : n * 2 ^ k < 18446744073709551616 := by
    have h := Nat.mul_lt_mul_of_pos_right b2 (pow_pos k)
    rw [← Nat.pow_add, hk] at h
    exact h
  have hk0 : 0 < k := by omega
  have hk1 : k < 64 := by omega
  have tk : ((k : Nat) : Int).toNat = k := Int.toNat_natCast k
  have tk2 : (64 - ((k : Nat) : Int)).toNat = 64 - k := by omega
  have hS : (0 : Int) < 2 ^ k := pow_pos' k
  have hP : (0 : Int) < 2 ^ (64 - k) := pow_pos' _
  have hSP : (2 : Int) ^ k * 2 ^ (64 - k) = 18446744073709551616 := by rw [two_pow_cast, two_pow_cast, ← Int.natCast_mul, hSPn]; rfl
  have Yl' : (9223372036854775808 : Int) ≤ (n : Int) * 2 ^ k := by rw [two_pow_cast, ← Int.natCast_mul]; omega
  have Yh' : (n : Int) * 2 ^ k < 18446744073709551616 := by rw [two_pow_cast, ← Int.natCast_mul]; omega
  obtain ⟨up0, up1, up2⟩ := up_words (hi := hi) hSP hS hP hl hl2
  have hhS : hi * 2 ^ k + 2 ^ k ≤ (n : Int) * 2 ^ k := by
    have h : (hi + 1) * 2 ^ k ≤ (n : Int) * 2 ^ k := Int.mul_le_mul_of_nonneg_right (by omega) (by omega)
    rwa [Int.add_mul, Int.one_mul] at h
  have hh0 : 0 ≤ hi * 2 ^ k := Int.mul_nonneg (by omega) (by omega)
  have eu : bits .or .u64 (IntKind.u64.wrap (hi * 2 ^ k)) (lo / 2 ^ (64 - k)) = hi * 2 ^ k + lo / 2 ^ (64 - k) := by
    rw [wrapu, Int.emod_eq_of_lt hh0 (by omega)]
    obtain ⟨h, rfl⟩ := Int.eq_ofNat_of_zero_le (show 0 ≤ hi by omega)
    obtain ⟨l, hlq⟩ := Int.eq_ofNat_of_zero_le up0
    rw [hlq] at up1 ⊢
    have hl1 : l < 2 ^ k := by rw [two_pow_cast] at up1; omega
    have hb : h * 2 ^ k + l < 18446744073709551616 := by
      rw [two_pow_cast, ← Int.natCast_mul] at hhS Yh'
      omega
    have o := or_add h l k hl1 hb
    rw [two_pow_cast, ← Int.natCast_mul, o]
    omega
  have fin : (hi * 18446744073709551616 + lo) / n = (hi * 18446744073709551616 + lo) * 2 ^ k / (n * 2 ^ k) := (Int.mul_ediv_mul_of_pos_left _ _ hS).symm
  rw [fin, ← up2]
  have eY : IntKind.u64.wrap ((n : Int) * 2 ^ k) = n * 2 ^ k := by rw [wrapu]; omega
  have el : IntKind.u64.wrap (lo * 2 ^ k) = lo * 2 ^ k % 18446744073709551616 := wrapu _
  have m10 : 0 ≤ lo * 2 ^ k % 18446744073709551616 ∧ lo * 2 ^ k % 18446744073709551616 < 18446744073709551616 := by omega
  have key := div_go hi lo n k
  rw [tk, tk2, eu, eY, el] at key
  have hu1 : hi * 2 ^ k + lo / 2 ^ (64 - k) < n * 2 ^ k := by omega
  have hu0 : 0 ≤ hi * 2 ^ k + lo / 2 ^ (64 - k) := by omega
  clear fin eY el eu up2 up0 up1 hhS hh0 hSP hSPn Yl Yh tk tk2 b1 b2 b3 hS hP
  generalize hi * 2 ^ k + lo / 2 ^ (64 - k) = u32 at *
  generalize lo * 2 ^ k % 18446744073709551616 = u10 at *
  generalize (n : Int) * 2 ^ k = Y at *
  have Y0 : 0 < Y := by omega
  have HY : Y = Y / 4294967296 * 4294967296 + Y % 4294967296 := by omega
  have ga := guess (u := u32) (a := Y / 4294967296) (by omega) hu0 (by omega)
  have sa := DI.start (y := Y) (yn1 := Y / 4294967296) (yn0 := Y % 4294967296) (u32 := u32) (u1 := u10 / 4294967296) (U := u32 * 4294967296 + u10 / 4294967296) HY (by omega) (by omega) rfl (by omega) hu0
  have q1s := DI.small (y := Y) (u32 := u32) (u1 := u10 / 4294967296) (U := u32 * 4294967296 + u10 / 4294967296) Y0 rfl (by omega) hu1
  have q1p : 0 ≤ (u32 * 4294967296 + u10 / 4294967296) / Y := Int.ediv_nonneg (by omega) (by omega)
  have dU := Int.mul_ediv_add_emod (u32 * 4294967296 + u10 / 4294967296) Y
  have mU0 := Int.emod_nonneg (u32 * 4294967296 + u10 / 4294967296) (show Y ≠ 0 by omega)
  have mU1 := Int.emod_lt_of_pos (u32 * 4294967296 + u10 / 4294967296) Y0
  have gb := guess (u := (u32 * 4294967296 + u10 / 4294967296) % Y) (a := Y / 4294967296) (by omega) mU0 (by omega)
  have sb := DI.start (y := Y) (yn1 := Y / 4294967296) (yn0 := Y % 4294967296) (u32 := (u32 * 4294967296 + u10 / 4294967296) % Y) (u1 := u10 % 4294967296) (U := (u32 * 4294967296 + u10 / 4294967296) % Y * 4294967296 + u10 % 4294967296) HY (by omega) (by omega) rfl (by omega) mU0
  have q0s := DI.small (y := Y) (u32 := (u32 * 4294967296 + u10 / 4294967296) % Y) (u1 := u10 % 4294967296) (U := (u32 * 4294967296 + u10 / 4294967296) % Y * 4294967296 + u10 % 4294967296) Y0 rfl (by omega) mU1
  have q0p : 0 ≤ ((u32 * 4294967296 + u10 / 4294967296) % Y * 4294967296 + u10 % 4294967296) / Y := Int.ediv_nonneg (by omega) (by omega)
  have en : IntKind.u64.wrap (IntKind.u64.wrap (IntKind.u64.wrap (u32 * 4294967296) + u10 / 4294967296) - IntKind.u64.wrap ((u32 * 4294967296 + u10 / 4294967296) / Y * Y)) = (u32 * 4294967296 + u10 / 4294967296) % Y := by
    rw [wrapu, wrapu, wrapu, wrapu]
    rw [Int.mul_comm] at dU
    generalize (u32 * 4294967296 + u10 / 4294967296) / Y * Y = B at *
    generalize (u32 * 4294967296 + u10 / 4294967296) % Y = C at *
    omega
  have R := two_digits (X := u32 * 18446744073709551616 + u10) (U := u32 * 4294967296 + u10 / 4294967296) (u0 := u10 % 4294967296) (V := (u32 * 4294967296 + u10 / 4294967296) % Y * 4294967296 + u10 % 4294967296) Y0 (by omega) rfl
  refine key Y (Y / 4294967296) (Y % 4294967296) u32 u10 (u10 / 4294967296) (u10 % 4294967296) _ _ _ _ _ _ _ _ _ _ w h0 hy hy2 hl hl2 LZ (by omega) (by omega) rfl (by omega) (by omega) rfl (and32 Y (by omega) (by omega)) rfl rfl (by omega) (by omega) rfl (and32 u10 (by omega) (by omega)) (by omega) (by omega) (by omega) (by omega) hu0 (by omega) (by omega) (by omega) (by omega) (by omega) rfl ga.2.2.1 ga.1 ga.2.1 ga.2.2.2.1 (by have := ga.2.2.2.2; omega) HY Y0 rfl ?_ hu1 rfl sa en mU0 (by omega) q1p q1s rfl gb.2.2.1 gb.1 gb.2.1 gb.2.2.2.1 (by have := gb.2.2.2.2; omega) rfl ?_ mU1 rfl sb q0p q0s R
  · show _ ≤ _; omega
  · show _ ≤ _; omega
/-- THE LONG DIVISION -/
theorem div_at (hi lo y : Int) (w : World) (h0 : 0 ≤ hi) (hy : hi < y) (hy2 : y < 9223372036854775808) (hl : 0 ≤ lo) (hl2 : lo < 18446744073709551616) :
    Calls Tryz.prog 68 #[.int .u64 hi, .int .u64 lo, .int .u64 y] w fun e w' => (∃ r, e = .returned (.tuple #[.int .u64 ((hi * 18446744073709551616 + lo) / y), .int .u64 r])) ∧ Below w.heap.size w w' := by
  by_cases c : hi = 0
  · subst c
    refine (div_zero_go lo y w hy (by omega) hl hl2).mono ?_
    rintro e w' ⟨he, rfl⟩
    rw [Int.zero_mul, Int.zero_add]
    exact ⟨he, (Ab.refl w).drew⟩
  · refine (div_pos_at hi lo y w (by omega) hy hy2 hl hl2).mono ?_
    rintro e w' ⟨he, rfl⟩
    exact ⟨he, Below.refl _ _⟩
end Sh
end Go.Proofs.YtkckcohemalhiaaGreatDoor

namespace Go.Proofs.YtkckcohemalhiaaGreatDoor
open Go.RowKit Go.Deep
namespace Sh
set_option maxRecDepth 100000 in
set_option maxHeartbeats 4000000 in
theorem pt_neg (x y z : Int) (w : World) (c : x < 0 ∨ y < 0 ∨ z ≤ 0) : Calls Tryz.prog 39 #[.int .i64 x, .int .i64 y, .int .i64 z] w fun e w' => e = .returned (.int .i64 0) ∧ w' = w := by
  by_cases c1 : x < 0
  · have f1 : decide (x < 0) = true := decide_eq_true c1
    clear c
    go_enter Tryz.func39, Tryz.ntmps39
    go_wp2
    go_ret
    exact ⟨rfl, rfl⟩
  · have f1 : decide (x < 0) = false := decide_eq_false c1
    by_cases c2 : y < 0
    · have f2 : decide (y < 0) = true := decide_eq_true c2
      clear c
      go_enter Tryz.func39, Tryz.ntmps39
      go_wp2
      go_ret
      exact ⟨rfl, rfl⟩
    · have f2 : decide (y < 0) = false := decide_eq_false c2
      have f3 : decide (z ≤ 0) = true := decide_eq_true (by omega)
      clear c
      go_enter Tryz.func39, Tryz.ntmps39
      go_wp2
      go_ret
      exact ⟨rfl, rfl⟩
set_option maxRecDepth 100000 in
set_option maxHeartbeats 4000000 in
theorem pt_big (x y z h l : Int) (w : World) (hx : 0 ≤ x) (hy : 0 ≤ y) (hz : 0 < z) (x2 : x ≤ 9223372036854775807) (y2 : y ≤ 9223372036854775807) (z2 : z ≤ 9223372036854775807)
    (MU : Hid (∀ v, Calls Tryz.prog 67 #[.int .u64 x, .int .u64 y] v fun e w' => e = .returned (.tuple #[.int .u64 h, .int .u64 l]) ∧ w' = v)) (hb : z ≤ h) :
    Calls Tryz.prog 39 #[.int .i64 x, .int .i64 y, .int .i64 z] w fun e w' => e = .returned (.int .i64 9223372036854775807) ∧ w' = w := by
  have f1 : decide (x < 0) = false := by rw [decide_eq_false_iff_not]; omega
  have f2 : decide (y < 0) = false := by rw [decide_eq_false_iff_not]; omega
  have f3 : decide (z ≤ 0) = false := by rw [decide_eq_false_iff_not]; omega
  have f4 : decide (z ≤ h) = true := decide_eq_true hb
  go_enter Tryz.func39, Tryz.ntmps39
  go_wp2_with fail
  refine (MU.out _).mono ?_
  rintro e9 v ⟨rfl, hv⟩
  have hv2 := hv.symm
  subst hv2
  go_wp2
  go_ret
  exact ⟨rfl, rfl⟩
set_option maxRecDepth 100000 in
set_option maxHeartbeats 4000000 in
theorem pt_small (x y z h l q : Int) (w : World) (hx : 0 ≤ x) (hy : 0 ≤ y) (hz : 0 < z) (x2 : x ≤ 9223372036854775807) (y2 : y ≤ 9223372036854775807) (z2 : z ≤ 9223372036854775807)
    (MU : Hid (∀ v, Calls Tryz.prog 67 #[.int .u64 x, .int .u64 y] v fun e w' => e = .returned (.tuple #[.int .u64 h, .int .u64 l]) ∧ w' = v)) (hb : h < z)
    (DV : Hid (Calls Tryz.prog 68 #[.int .u64 h, .int .u64 l, .int .u64 z] w fun e w' => (∃ r, e = .returned (.tuple #[.int .u64 q, .int .u64 r])) ∧ Below w.heap.size w w')) (hq : 0 ≤ q) (hq2 : q < 18446744073709551616) (p : Int) (PE : Hid (p = if 9223372036854775807 < q then 9223372036854775807 else q)) :
    Calls Tryz.prog 39 #[.int .i64 x, .int .i64 y, .int .i64 z] w fun e w' => e = .returned (.int .i64 p) ∧ Below w.heap.size w w' := by
  have f1 : decide (x < 0) = false := by rw [decide_eq_false_iff_not]; omega
  have f2 : decide (y < 0) = false := by rw [decide_eq_false_iff_not]; omega
  have f3 : decide (z ≤ 0) = false := by rw [decide_eq_false_iff_not]; omega
  have f4 : decide (z ≤ h) = false := decide_eq_false (by omega)
  go_enter Tryz.func39, Tryz.ntmps39
  go_wp2_with fail
  refine (MU.out _).mono ?_
  rintro e9 v ⟨rfl, hv⟩
  have hv2 := hv.symm
  subst hv2
  go_wp2_with fail
  refine DV.out.mono ?_
  rintro e8 v ⟨⟨r, rfl⟩, bl⟩
  have BL := hid bl
  clear bl
  by_cases c : 9223372036854775807 < q
  · have PE2 : Hid (p = 9223372036854775807) := by have h := PE.out; rwa [if_pos c] at h
    go_wp2
    go_ret
    exact ⟨by rw [PE2.out]; rfl, BL.out⟩
  · have PE2 : Hid (p = q) := by have h := PE.out; rwa [if_neg c] at h
    go_wp2
    go_ret
    exact ⟨by rw [PE2.out]; rfl, BL.out⟩
/-- PART -/
theorem partC : PartC := by
  intro x y z w hx hy hz
  by_cases c : x < 0 ∨ y < 0 ∨ z ≤ 0
  · have e : part x y z = 0 := by unfold part; rw [if_pos c]
    rw [e]
    refine (pt_neg x y z w c).mono ?_
    rintro e w' ⟨rfl, rfl⟩
    exact ⟨rfl, Below.refl _ _⟩
  · have h0 : 0 ≤ x ∧ 0 ≤ y ∧ 0 < z := by omega
    unfold W64 at hx hy hz
    have m := mul_bd (a := x) (b := y) (m := 9223372036854775807) (by omega) (by omega) (by omega) (by omega)
    have m0 := m.1
    have MU := fun v => mul64_at x y v h0.1 (by omega) h0.2.1 (by omega)
    have dm : x * y / 18446744073709551616 * 18446744073709551616 + x * y % 18446744073709551616 = x * y := by omega
    by_cases b : z ≤ x * y / 18446744073709551616
    · have e : part x y z = 9223372036854775807 := by
        unfold part
        rw [if_neg c, if_pos]
        have k : 9223372036854775808 ≤ x * y / z := (Int.le_ediv_iff_mul_le h0.2.2).2 (by omega)
        omega
      rw [e]
      refine (pt_big x y z _ _ w h0.1 h0.2.1 h0.2.2 hx.2 hy.2 hz.2 MU b).mono ?_
      rintro e w' ⟨rfl, rfl⟩
      exact ⟨rfl, Below.refl _ _⟩
    · have e : part x y z = if 9223372036854775807 < x * y / z then 9223372036854775807 else x * y / z := by
        unfold part
        rw [if_neg c]
      have D := div_at (x * y / 18446744073709551616) (x * y % 18446744073709551616) z w (by omega) (by omega) (by omega) (by omega) (by omega)
      rw [dm] at D
      rw [e]
      refine pt_small x y z _ _ _ w h0.1 h0.2.1 h0.2.2 hx.2 hy.2 hz.2 MU (by omega) D (Int.ediv_nonneg m0 (by omega)) ?_ _ rfl
      exact Int.ediv_lt_of_lt_mul h0.2.2 (by omega)
end Sh
end Go.Proofs.YtkckcohemalhiaaGreatDoor

namespace Go.Proofs.YtkckcohemalhiaaGreatDoor
open Go.RowKit Go.Deep
namespace Sh
theorem eql_nilS (w : World) (a : Option Addr) (n c : Nat) : (binOp .eql 23 (.slice a n c) (.slice none 0 0)).run Tryz.prog w = .ok (.bool a.isNone) w := Lib.run_eql_slice_nil w _ _ a n c 0 0 Tryz.underlying23
attribute [local go_sem] eql_nilS
/-- a list of the call's own, as a row -/
theorem own_rowA {B : Nat} {v : Value} {l : List Int} {w : World} (h : Own B v l w) (h0 : 0 < l.length) : ∃ g cap F, v = .slice (some ⟨g, 0, none⟩) l.length cap ∧ B ≤ g ∧ l.length ≤ cap ∧ cap ≤ maxLen ∧ w.rowIs g 2 cap F ∧ ∀ i, i < l.length → F i = .int .i64 (l.getD i 0) := by
  rcases h.2 with ⟨rfl, hz⟩ | ⟨g, cap, cur, e, hb, hg, h1, h2, h3, h4⟩
  · omega
  · refine ⟨g, cap, fun i => (cur[i]?).getD (.bool false), e, hb, h1, h2, ⟨cur, hg, by omega, fun i hi => ?_⟩, fun i hi => ?_⟩
    · have : i < cur.size := by omega
      simp [this]
    · have q : (cur.toList.take l.length)[i]? = (l.map (Value.int .i64))[i]? := by
        have h4' : cur.toList.take l.length = l.map (Value.int .i64) := by simpa using h4
        rw [h4']
      rw [List.getElem?_take, if_pos hi, Array.getElem?_toList] at q
      dsimp only
      rw [q]
      simp [hi, List.getD]
theorem own_twoA {B n : Nat} {v : Value} {x : Nat → Int} {w : World} (h : Own B v ((List.range n).map x) w) (h0 : 0 < n) : ∃ g cap F, v = .slice (some ⟨g, 0, none⟩) n cap ∧ B ≤ g ∧ n ≤ cap ∧ cap ≤ maxLen ∧ w.rowIs g 2 cap F ∧ ∀ i, i < n → F i = .int .i64 (x i) := by
  have e : ((List.range n).map x).length = n := by simp
  obtain ⟨g, cap, F, h1, h2, h3, h4, h5, h6⟩ := own_rowA h (by rw [e]; exact h0)
  rw [e] at h1 h3 h6
  exact ⟨g, cap, F, h1, h2, h3, h4, h5, fun i hi => by rw [h6 i hi]; simp [List.getD, hi]⟩
theorem row_ownA {B g cap n : Nat} {F : Nat → Value} {x : Nat → Int} {w : World} (h : w.rowIs g 2 cap F) (hB : B ≤ g) (hn : n ≤ cap) (hc : cap ≤ maxLen) (hF : ∀ i, i < n → F i = .int .i64 (x i)) : Own B (.slice (some ⟨g, 0, none⟩) n cap) ((List.range n).map x) w := by
  obtain ⟨c, hb, hs, hf⟩ := h
  refine ⟨by simp, .inr ⟨g, cap, c, by simp, hB, hb, by simpa using hn, hc, by omega, ?_⟩⟩
  apply List.ext_getElem?
  intro i
  rw [List.getElem?_take, List.length_map, List.length_range]
  by_cases hi : i < n
  · have e := hf i (by omega)
    rw [hF i hi] at e
    rw [if_pos (by omega)]
    rw [← Array.getElem?_toList] at e
    rw [e]
    simp [hi]
  · rw [if_neg (by omega), List.getElem?_eq_none (by simp; omega)]
set_option maxRecDepth 100000 in
set_option maxHeartbeats 4000000 in
theorem clone_none (n c : Nat) (w : World) : Calls Tryz.prog 37 #[.slice none n c] w fun e w' => e = .returned (.slice none 0 0) ∧ w' = w := by
  go_enter Tryz.func37, Tryz.ntmps37
  go_wp2
  go_ret
  exact ⟨rfl, rfl⟩
set_option maxRecDepth 100000 in
set_option maxHeartbeats 4000000 in
theorem clone_zero (p : Addr) (c : Nat) (f : Nat → Int) (w : World) : Calls Tryz.prog 37 #[.slice (some p) 0 c] w fun e w' => e = .returned (.slice (some ⟨w.heap.size, 0, none⟩) 0 0) ∧ w' = w.alloc (.cells #[] 2) := by
  have SR := hid (src_in (IsI.nil (w.alloc (.cells #[] 2)) (some p) f) c)
  go_enter Tryz.func37, Tryz.ntmps37
  go_wp2_with (first
    | (at_builtin; refine wpList_zero rfl (.tmp 5) (.tmp 6) rfl w.heap.size rfl (.slice (some p) 0 c) rfl SR.out ?_))
  go_ret
  exact ⟨rfl, rfl⟩
set_option maxRecDepth 100000 in
set_option maxHeartbeats 4000000 in
theorem clone_go (b o n c : Nat) (f : Nat → Int) (w : World) (h0 : 0 < n) (hn : n ≤ 65536) (hf : IsI w (some ⟨b, o, none⟩) n f) : Calls Tryz.prog 37 #[.slice (some ⟨b, o, none⟩) n c] w fun e w' => ∃ v, e = .returned v ∧ Below w.heap.size w w' ∧ Own w.heap.size v ((List.range n).map f) w' := by
  have O2 := hid (own_new w w.heap.size (Nat.le_refl _))
  have N1 := hid (news_in (hf.below (bl1 w (.cells #[] 2))))
  have LS : Hid (w.heap.size ≤ (w.alloc (.cells #[] 2)).heap.size) := by show _ ≤ _; simp
  have H0 := hid h0
  have HN := hid hn
  clear hf h0 hn
  go_enter Tryz.func37, Tryz.ntmps37
  go_wp2_with (first
    | (at_builtin; refine wpList_app rfl (.tmp 5) (.tmp 6) rfl w.heap.size (.slice (some ⟨w.heap.size, 0, none⟩) 0 0) [] rfl O2.out ⟨b, o, none⟩ n c ((List.range n).map f) rfl (by simp) N1.out H0.out (by have := HN.out; simp; omega) LS.out n (by simp) ?_; intro g1 c1 w1 o1 x1 y1 _; have O1 := hid o1; have X1 := hid x1; clear o1 x1 y1))
  go_ret
  refine ⟨_, rfl, Below.grown (bl1 w _ : Below _ _ _) X1.out LS.out (fun k hk => (World.ownsRow.lt O2.out k hk).1), ?_⟩
  have h := O1.out
  rw [List.nil_append] at h
  exact h
/-- A COPY OF A LIST -/
theorem clone_at (p : Option Addr) (n c : Nat) (f : Nat → Int) (w : World) (hn : n ≤ 65536) (hf : IsI w p n f) : Calls Tryz.prog 37 #[.slice p n c] w fun e w' => ∃ v, e = .returned v ∧ Below w.heap.size w w' ∧ Own w.heap.size v ((List.range n).map f) w' := by
  rcases Nat.eq_zero_or_pos n with h0 | h0
  · subst h0
    cases p with
    | none =>
      refine (clone_none 0 c w).mono ?_
      rintro e w' ⟨rfl, rfl⟩
      exact ⟨_, rfl, Below.refl _ _, Own.new _ _⟩
    | some a =>
      refine (clone_zero a c f w).mono ?_
      rintro e w' ⟨rfl, rfl⟩
      exact ⟨_, rfl, bl1 _ _, own_new w w.heap.size (Nat.le_refl _)⟩
  · obtain ⟨b, o, rfl⟩ := hf.some0 h0
    exact clone_go b o n c f w h0 hn hf
end Sh
end Go.Proofs.YtkckcohemalhiaaGreatDoor

namespace Go.Proofs.YtkckcohemalhiaaGreatDoor
open Go.ChangeShapes Go.WideShapes Go.ChangeAt Go.WideMaps Go.WideElems Go.RowKit Go.Deep
theorem array6' {c : Array Value} (h : c.size = 6) : ∃ v0 v1 v2 v3 v4 v5, c = #[v0, v1, v2, v3, v4, v5] := by
  rcases c with ⟨l⟩
  match l, h with
  | [v0, v1, v2, v3, v4, v5], _ => exact ⟨v0, v1, v2, v3, v4, v5, rfl⟩
set_option maxRecDepth 100000 in
theorem sea12_open {H : Type} {enc : TypeId × Value → H} {W : World} {r : Reach} {b0 : Nat} {v : Value} {d : DataW H} {p : List MemPlace} (hv : Value.okWide Tryz.prog W r b0 25 v) (h : DataW.Trod enc Tryz.prog W 0 (fun _ => true) true 25 v d p) :
    ∃ pb lb cb B pw lw cw Wt pt lt ct Tr ps ls cs Sp sky st, v = .agg #[.slice pb lb cb, .slice pw lw cw, .slice pt lt ct, .slice ps ls cs, .int .i64 sky, .int .i64 st] ∧ SeaAt W pb lb cb B pw lw cw Wt pt lt ct Tr ps ls cs Sp := by
  have hC : Tryz.prog.cellsOf 25 = 6 := by kernel_rfl
  obtain ⟨cs, rfl, hsz⟩ := okWide_struct Tryz.underlying25 hv
  obtain ⟨v0, v1, v2, v3, v4, v5, rfl⟩ := array6' (hsz.trans hC)
  obtain ⟨fuel, hf⟩ := h
  have hf' : DataW.trod enc Tryz.prog W 0 (fun _ => true) true fuel 25 [v0, v1, v2, v3, v4, v5] = some (d, p) := by simpa [Value.cells] using hf
  obtain ⟨pb, lb, cb, B, pw, lw, cw, Wt, pt, lt, ct, Tr, ps, ls, cs, Sp, sky, st, ⟨rfl, rfl, rfl, rfl, rfl, rfl⟩, hs⟩ := sea_cells hf'
  exact ⟨pb, lb, cb, B, pw, lw, cw, Wt, pt, lt, ct, Tr, ps, ls, cs, Sp, sky, st, rfl, hs⟩
end Go.Proofs.YtkckcohemalhiaaGreatDoor

namespace Go.Proofs.YtkckcohemalhiaaGreatDoor
open Go.ChangeShapes Go.WideShapes Go.ChangeAt Go.WideMaps Go.WideElems Go.RowKit Cu

theorem own : ownKnob Tryz.prog.godebug = none := by kernel_rfl
theorem gFrames : Tryz.prog.globalNamed "tarn/cube.frames" = some 0 := by kernel_rfl
theorem tFrames : (Tryz.prog.globals[0]?).map (·.type) = some 87 := by kernel_rfl
theorem door_met (os : Os) (args : Array Value) : laidMetH Tryz.prog [("tarn/cube.frames", Rows.laid_tarn_cube_frames)] ((World.doorLaid Tryz.prog 400 os).forCall (fun _ _ => 0) ⟨#[], args, []⟩).memory :=
  laidMetH_of_parts3 (fuel := 8) (laidMet_of_run' 8 (by kernel_rfl) (by kernel_rfl)) (by kernel_rfl) (by kernel_rfl)
set_option maxRecDepth 100000 in
theorem pt_data {H : Type} {enc : TypeId × Value → H} {w : World} {base fuel : Nat} {spare : Nat → Bool} {held : Bool} {cs : List Value} {x : DataW H × List MemPlace} (h : DataW.trod enc Tryz.prog w base spare held fuel 79 cs = some x)
    (a b c : Int) (e : x.1 = .agg [.lit (.int .i64 a), .lit (.int .i64 b), .lit (.int .i64 c)]) : cs = [.int .i64 a, .int .i64 b, .int .i64 c] := by
  have k3 : Tryz.prog.cellsOf 3 = 1 := by kernel_rfl
  have kp : Tryz.prog.cellsOf 79 = 3 := by kernel_rfl
  obtain ⟨xs, m, _, hx, hlen, hn, hel⟩ := DataW.trod_array Tryz.underlying79 h
  rw [hx] at e
  match xs, hn, cs, hlen.trans kp with
  | [x0, x1, x2], _, [c0, c1, c2], _ =>
    have h0 := hel 0 (by decide)
    have h1 := hel 1 (by decide)
    have h2 := hel 2 (by decide)
    simp [k3] at h0 h1 h2
    obtain ⟨n0, e0, f0, _⟩ := DataW.trod_int Tryz.underlying3 h0
    obtain ⟨n1, e1, f1, _⟩ := DataW.trod_int Tryz.underlying3 h1
    obtain ⟨n2, e2, f2, _⟩ := DataW.trod_int Tryz.underlying3 h2
    simp at e0 e1 e2
    simp [f0, f1, f2] at e
    rw [e0, e1, e2, e.1, e.2.1, e.2.2]
set_option maxRecDepth 100000 in
theorem frame_data {H : Type} {enc : TypeId × Value → H} {w : World} {base fuel : Nat} {spare : Nat → Bool} {held : Bool} {cs : List Value} {x : DataW H × List MemPlace} (h : DataW.trod enc Tryz.prog w base spare held fuel 86 cs = some x)
    (p q r : P3) (e : x.1 = .agg [.agg [.lit (.int .i64 p.1), .lit (.int .i64 p.2.1), .lit (.int .i64 p.2.2)], .agg [.lit (.int .i64 q.1), .lit (.int .i64 q.2.1), .lit (.int .i64 q.2.2)], .agg [.lit (.int .i64 r.1), .lit (.int .i64 r.2.1), .lit (.int .i64 r.2.2)]]) :
    cs = [.int .i64 p.1, .int .i64 p.2.1, .int .i64 p.2.2, .int .i64 q.1, .int .i64 q.2.1, .int .i64 q.2.2, .int .i64 r.1, .int .i64 r.2.1, .int .i64 r.2.2] := by
  have kp : Tryz.prog.cellsOf 79 = 3 := by kernel_rfl
  have kf : Tryz.prog.cellsOf 86 = 9 := by kernel_rfl
  obtain ⟨xs, m, _, hx, hlen, hn, hel⟩ := DataW.trod_struct Tryz.underlying86 h
  rw [hx] at e
  match xs, hn, cs, hlen.trans kf with
  | [x0, x1, x2], _, [c0, c1, c2, c3, c4, c5, c6, c7, c8], _ =>
    have h0 := hel 0 _ rfl
    have h1 := hel 1 _ rfl
    have h2 := hel 2 _ rfl
    simp [kp] at h0 h1 h2
    simp at e
    have e0 := pt_data h0 _ _ _ e.1
    have e1 := pt_data h1 _ _ _ e.2.1
    have e2 := pt_data h2 _ _ _ e.2.2
    simp at e0 e1 e2
    simp [e0, e1, e2]
set_option maxRecDepth 100000 in
theorem table_data {H : Type} {enc : TypeId × Value → H} {w : World} {base fuel : Nat} {spare : Nat → Bool} {held : Bool} {cs : List Value} {x : DataW H × List MemPlace} (h : DataW.trod enc Tryz.prog w base spare held fuel 87 cs = some x)
    (e : x.1 = Rows.laid_tarn_cube_frames) : ∀ f, f < 6 → (cs.drop (f * 9)).take 9 = [.int .i64 (cC f).1, .int .i64 (cC f).2.1, .int .i64 (cC f).2.2, .int .i64 (cR f).1, .int .i64 (cR f).2.1, .int .i64 (cR f).2.2, .int .i64 (cU f).1, .int .i64 (cU f).2.1, .int .i64 (cU f).2.2] := by
  have kf : Tryz.prog.cellsOf 86 = 9 := by kernel_rfl
  obtain ⟨xs, m, _, hx, hlen, hn, hel⟩ := DataW.trod_array Tryz.underlying87 h
  rw [hx] at e
  intro f hf
  have h0 := hel f hf
  rw [kf] at h0
  match xs, hn with
  | [x0, x1, x2, x3, x4, x5], _ =>
    simp only [List.map_cons, List.map_nil, Rows.laid_tarn_cube_frames, DataW.agg.injEq, List.cons.injEq] at e
    rcases six hf with rfl | rfl | rfl | rfl | rfl | rfl
    · exact frame_data h0 (cC 0) (cR 0) (cU 0) e.1
    · exact frame_data h0 (cC 1) (cR 1) (cU 1) e.2.1
    · exact frame_data h0 (cC 2) (cR 2) (cU 2) e.2.2.1
    · exact frame_data h0 (cC 3) (cR 3) (cU 3) e.2.2.2.1
    · exact frame_data h0 (cC 4) (cR 4) (cU 4) e.2.2.2.2.1
    · exact frame_data h0 (cC 5) (cR 5) (cU 5) e.2.2.2.2.2.1
/-- WHAT THE CONDITION GIVES THE WALKS -/
theorem of_laid {W : World} (h : laidMetH Tryz.prog [("tarn/cube.frames", Rows.laid_tarn_cube_frames)] W) : Fr W := by
  rw [MakeChecks.laidMetH_plain _ _ _ (by kernel_rfl)] at h
  obtain ⟨ps, ⟨g0, t0, cs0, f0, p0, q0, hg0, ht0, hv0, hd0, _⟩, _⟩ := h
  obtain rfl := Option.some.inj (gFrames.symm.trans hg0)
  obtain rfl := Option.some.inj (tFrames.symm.trans ht0)
  have T := table_data hd0 rfl
  have C := World.var?_cell hg0 hv0
  have K : ∀ f, f < 6 → ∀ k, k < 9 → W.cell? ⟨0, f * 9 + k, none⟩ = ((cs0.toList.drop (f * 9)).take 9)[k]? := by
    intro f hf k hk
    rw [C, List.getElem?_take, if_pos hk, List.getElem?_drop]
    simp
  have N : ∀ f, f < 6 → Fr9 W f := by
    intro f hf
    have K := K f hf
    rw [T f hf] at K
    exact ⟨⟨K 0 (by omega), K 1 (by omega), K 2 (by omega)⟩, ⟨K 3 (by omega), K 4 (by omega), K 5 (by omega)⟩, ⟨K 6 (by omega), K 7 (by omega), K 8 (by omega)⟩⟩
  refine ⟨?_, N⟩
  have c0 := (N 0 (by omega)).1.1
  rcases Nat.lt_or_ge 0 W.heap.size with h1 | h1
  · exact h1
  · rw [World.cell?, Array.getElem?_eq_none h1] at c0; cases c0
end Go.Proofs.YtkckcohemalhiaaGreatDoor
