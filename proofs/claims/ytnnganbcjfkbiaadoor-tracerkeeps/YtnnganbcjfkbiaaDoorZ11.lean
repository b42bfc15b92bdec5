/-
  Some of the texts of this proof, one behind the other.
-/
import Derived.Test.YtnnganbcjfkbiaaDoorTie
import Derived.Test.YtnnganbcjfkbiaaDoorCards
import Derived.ProofKit
import Derived.LaidMore
import Derived.OpenShut
import Derived.Stop.Joined
import Derived.Carry
import Derived.Lib.SmallJoins
import Derived.WalkLawsBesides
import Derived.Test.YtnnganbcjfkbiaaDoorZ10
namespace Go.Proofs.YtnnganbcjfkbiaaDoor
open Go.RowKit Go.Deep Cu
namespace Tr
open Sh
theorem around17 {n gb c s : Nat} {v : World} (hn : 1 ≤ n ∧ n ≤ 32) (hc : c < 6 * n * n) (hs : s < 4) (g : GridOf n gb v) : Calls Tryd.prog 12 #[.pointer (some ⟨gb, 0, none⟩), .int .i64 (c : Nat), .int .i64 (s : Nat)] v fun e w' => e = .returned (.tuple #[.int .i64 (eE n (4 * c + s) : Nat), .int .i64 (eS n (4 * c + s))]) ∧ Below v.heap.size v w' := by
  have e : gT n (24 * n * n) (c : Nat) (s : Nat) = (((eE n (4 * c + s) : Nat) : Int), eS n (4 * c + s)) := by
    have ht := t_lt hc hs
    have hm := mt_lt hn.1 ht
    rw [gT_nat, if_pos ⟨hc, hs⟩]
    unfold gN eE eS
    by_cases q : isL n (4 * c + s) = true
    · simp [q, ht]
    · simp [q, hm]
  have b : c < 6144 := by
    have h1 : n * n ≤ 32 * 32 := Nat.mul_le_mul hn.2 hn.2
    rw [Nat.mul_assoc] at hc
    omega
  have h := gAround_at (n := n) (gb := gb) (c := (c : Nat)) (s := (s : Nat)) (w := v) ⟨by omega, by omega⟩ ⟨by omega, by omega⟩ g
  rwa [e] at h
/-- too great a flow -/
def far17 (x : Int) : Bool := decide (x < -4503599627370496) || decide (4503599627370496 < x)
set_option maxRecDepth 100000 in
theorem far17_at (x : Int) (w : World) : Calls Tryd.prog 31 #[.int .i64 x] w fun e w' => e = .returned (.bool (far17 x)) ∧ w' = w := by
  cases h1 : decide (x < -4503599627370496) with
  | true =>
    have F : Hid (far17 x = true) := by show _ = _; unfold far17; rw [h1]; rfl
    go_enter Tryd.func31, Tryd.ntmps31
    go_wp2
    go_ret
    exact ⟨by rw [F.out]; rfl, rfl⟩
  | false =>
    cases h2 : decide (4503599627370496 < x) with
    | true =>
      have F : Hid (far17 x = true) := by show _ = _; unfold far17; rw [h1, h2]; rfl
      go_enter Tryd.func31, Tryd.ntmps31
      go_wp2
      go_ret
      exact ⟨by rw [F.out]; rfl, rfl⟩
    | false =>
      have F : Hid (far17 x = false) := by show _ = _; unfold far17; rw [h1, h2]; rfl
      go_enter Tryd.func31, Tryd.ntmps31
      go_wp2
      go_ret
      exact ⟨by rw [F.out]; rfl, rfl⟩
set_option maxRecDepth 100000 in
set_option maxHeartbeats 8000000 in
theorem idxfar17_no (p : Option Addr) (n cp : Nat) (f : Nat → Int) (w : World) (hn : n ≤ 65536) (hf : IsI w p n f) (HA : Hid (∀ i, i < n → far17 (f i) = false)) :
    Calls Tryd.prog 41 #[.slice p n cp, .func (.func 31) #[] #[]] w fun e w' => e = .returned (.int .i64 (-1)) ∧ w' = w := by
  have HF := hid hf
  have HN := hid hn
  clear hf hn
  go_enter Tryd.func41, Tryd.ntmps41
  go_wp2
  go_loopw [8] (fun iv wr => ∃ c : Nat, c ≤ n ∧ iv = .int .i64 (c : Nat) ∧ wr = w) (fun iv _ => n - (intOf iv).toNat)
  case atStart => exact ⟨0, by omega, rfl, rfl⟩
  case round =>
    obtain ⟨c, hc, rfl, hwr⟩ := hrel
    have hwr2 := hwr.symm
    subst hwr2
    by_cases hcn : c < n
    · have HC := hid hcn
      have hcI : (c : Int) < n := by omega
      have hcB : (c : Int) ≤ 65536 := by have := HN.out; omega
      obtain ⟨b0, o0, rfl⟩ := HF.out.some0 (show 0 < n by omega)
      obtain ⟨x, hx⟩ : ∃ x, f c = x := ⟨_, rfl⟩
      have at0 := HF.out.at0 hcn
      have hp := HA.out c hcn
      rw [hx] at at0 hp
      have xc := at0.2.2
      have CF := hid (far17_at x w)
      rw [hp] at CF
      clear at0 hx hcn hc hp
      go_wp2_with fail
      refine CF.out.mono ?_
      rintro e9 v9 ⟨rfl, hv9⟩
      have hv8 := hv9.symm
      subst hv8
      go_wp2
      exact ⟨⟨c + 1, by have := HC.out; omega, by simp, by first | trivial | rfl⟩, by have := HC.out; simp [intOf]; omega⟩
    · have e6 : n = c := by omega
      subst e6
      go_wp2
      go_ret
      exact ⟨rfl, by first | trivial | rfl⟩
set_option maxRecDepth 100000 in
set_option maxHeartbeats 8000000 in
theorem idxfar17_yes (p : Option Addr) (n cp : Nat) (f : Nat → Int) (w : World) (hn : n ≤ 65536) (hf : IsI w p n f) (HA : Hid (¬ ∀ i, i < n → far17 (f i) = false)) :
    Calls Tryd.prog 41 #[.slice p n cp, .func (.func 31) #[] #[]] w fun e w' => (∃ i : Nat, i ≤ 65536 ∧ e = .returned (.int .i64 (i : Nat))) ∧ w' = w := by
  have HF := hid hf
  have HN := hid hn
  clear hf hn
  go_enter Tryd.func41, Tryd.ntmps41
  go_wp2
  go_loopw [8] (fun iv wr => ∃ c : Nat, c ≤ n ∧ iv = .int .i64 (c : Nat) ∧ (∀ i, i < c → far17 (f i) = false) ∧ wr = w) (fun iv _ => n - (intOf iv).toNat)
  case atStart => exact ⟨0, by omega, rfl, fun i hi => absurd hi (Nat.not_lt_zero i), rfl⟩
  case round =>
    obtain ⟨c, hc, rfl, g1, hwr⟩ := hrel
    have hwr2 := hwr.symm
    subst hwr2
    have G1 := hid g1
    clear g1
    by_cases hcn : c < n
    · have HC := hid hcn
      have hcI : (c : Int) < n := by omega
      have hcB : (c : Int) ≤ 65536 := by have := HN.out; omega
      obtain ⟨b0, o0, rfl⟩ := HF.out.some0 (show 0 < n by omega)
      obtain ⟨x, hx⟩ : ∃ x, f c = x := ⟨_, rfl⟩
      have at0 := HF.out.at0 hcn
      rw [hx] at at0
      have xc := at0.2.2
      have CF := hid (far17_at x w)
      have XE := hid hx
      clear at0 hx hcn hc
      cases hp : far17 (x) with
      | true =>
        rw [hp] at CF
        have hp2 := hid hp
        clear hp
        go_wp2_with fail
        refine CF.out.mono ?_
        rintro e9 v9 ⟨rfl, hv9⟩
        have hv8 := hv9.symm
        subst hv8
        go_wp2
        go_ret
        exact ⟨⟨c, by have := HC.out; have := HN.out; omega, rfl⟩, by first | trivial | rfl⟩
      | false =>
        rw [hp] at CF
        have hp2 := hid hp
        clear hp
        go_wp2_with fail
        refine CF.out.mono ?_
        rintro e9 v9 ⟨rfl, hv9⟩
        have hv8 := hv9.symm
        subst hv8
        go_wp2
        refine ⟨⟨c + 1, by have := HC.out; omega, by simp, fun i hi => ?_, by first | trivial | rfl⟩, by have := HC.out; simp [intOf]; omega⟩
        by_cases l : i < c
        · exact G1.out i l
        · obtain rfl : i = c := by omega
          rw [XE.out]
          exact hp2.out
    · have e6 : n = c := by omega
      subst e6
      exact absurd G1.out HA.out
set_option maxRecDepth 100000 in
set_option maxHeartbeats 4000000 in
theorem hasfar17_no (p : Option Addr) (n cp : Nat) (f : Nat → Int) (w : World) (hn : n ≤ 65536) (hf : IsI w p n f) (HA : ∀ i, i < n → far17 (f i) = false) :
    Calls Tryd.prog 26 #[.slice p n cp, .func (.func 31) #[] #[]] w fun e w' => e = .returned (.bool false) ∧ w' = w := by
  have IX := hid (idxfar17_no p n cp f w hn hf HA)
  clear hn hf HA
  go_enter Tryd.func26, Tryd.ntmps26
  go_wp2_with fail
  refine IX.out.mono ?_
  rintro e9 v9 ⟨rfl, hv9⟩
  have hv8 := hv9.symm
  subst hv8
  go_wp2
  go_ret
  exact ⟨rfl, rfl⟩
set_option maxRecDepth 100000 in
set_option maxHeartbeats 4000000 in
theorem hasfar17_yes (p : Option Addr) (n cp : Nat) (f : Nat → Int) (w : World) (hn : n ≤ 65536) (hf : IsI w p n f) (HA : ¬ ∀ i, i < n → far17 (f i) = false) :
    Calls Tryd.prog 26 #[.slice p n cp, .func (.func 31) #[] #[]] w fun e w' => e = .returned (.bool true) ∧ w' = w := by
  have IX := hid (idxfar17_yes p n cp f w hn hf HA)
  clear hn hf HA
  go_enter Tryd.func26, Tryd.ntmps26
  go_wp2_with fail
  refine IX.out.mono ?_
  rintro e9 v9 ⟨⟨i, hi, rfl⟩, hv9⟩
  have hv8 := hv9.symm
  subst hv8
  go_wp2
  go_ret
  exact ⟨rfl, rfl⟩
set_option maxRecDepth 100000 in
set_option maxHeartbeats 16000000 in
theorem give17_yes (gb N cell fb fo lf cf b : Nat) (wa has : Int) (E : Nat → Nat) (sg x g k : Nat → Int) (P : Nat → Nat → Int) (w0 w : World) (hB : w0.heap.size ≤ b)
    (AV : Hid (Ab w0 w)) (RB : Hid (w.rowIs b 2 N (fun i => .int .i64 (P 0 i))))
    (ARD : Hid (∀ u s, s < 4 → Ab w0 u → Calls Tryd.prog 12 #[.pointer (some ⟨gb, 0, none⟩), .int .i64 (cell : Nat), .int .i64 (s : Nat)] u fun e w' => e = .returned (.tuple #[.int .i64 (E s : Nat), .int .i64 (sg s)]) ∧ Below u.heap.size u w'))
    (FL : Hid (∀ u s, s < 4 → Ab w0 u → u.cell? ⟨fb, fo + E s, none⟩ = some (.int .i64 (x s))))
    (FA : Hid (∀ s, s < 4 → E s < N ∧ E s < lf ∧ E s ≤ 65536 ∧ (-4503599627370496 ≤ sg s * x s ∧ sg s * x s ≤ 4503599627370496) ∧ g s = (if 0 < sg s * x s then sg s * x s else 0) ∧ (-9223372036854775807 ≤ sg s * k s ∧ sg s * k s ≤ 9223372036854775807)))
    (CUT : Hid (∀ u a, IsI u (some ⟨a, 0, none⟩) 4 g → Calls Tryd.prog 14 #[.int .i64 wa, .int .i64 has, .slice (some ⟨a, 0, none⟩) 4 4] u fun e w' => ∃ g2 cap F, e = .returned (.tuple #[.slice (some ⟨g2, 0, none⟩) 4 cap, .int .i64 0]) ∧ Below u.heap.size u w' ∧ u.heap.size ≤ g2 ∧ 4 ≤ cap ∧ w'.rowIs g2 2 cap F ∧ ∀ i, i < 4 → F i = .int .i64 (k i)))
    (ST : Hid (∀ s, s < 4 → ∀ i, i < N → P (s + 1) i = if i = E s ∧ 0 < g s then sg s * k s else P s i)) :
    Calls Tryd.prog 32 #[.pointer (some ⟨gb, 0, none⟩), .int .i64 (cell : Nat), .int .i64 wa, .int .i64 has, .slice (some ⟨fb, fo, none⟩) lf cf, .slice (some ⟨b, 0, none⟩) N N] w fun e w' => e = .returned (.bool true) ∧ Ab w0 w' ∧ w'.rowIs b 2 N (fun i => .int .i64 (P 4 i)) := by
  have MK : (Instr.makeSlice 22 (.int .i64 4) (.int .i64 4)).run Tryd.prog w = .ok (.slice (some ⟨w.heap.size, 0, none⟩) 4 4) (w.alloc (.cells (madeCells #[.int .i64 0] 4) 2)) := run_make_row' (P := Tryd.prog) 22 2 (.int .i64 0) 8 Tryd.underlying22 Sh.info64 rfl .i64 .i64 4 (by omega) (by omega) w
  have HB := hid hB
  have BL : Hid (b < w.heap.size) := RB.out.lt
  clear hB
  obtain ⟨ob, hob⟩ : ∃ b, w.heap.size = b := ⟨_, rfl⟩
  have RW : Hid ((w.alloc (.cells (madeCells #[.int .i64 0] 4) 2)).rowIs ob 2 4 (fun _ => .int .i64 0)) := by rw [← hob]; exact World.rowIs_made _ _ _ _
  have A0 : Hid (Ab w (w.alloc (.cells (madeCells #[.int .i64 0] 4) 2))) := bl1 w _
  have HO : Hid (w.heap.size ≤ ob ∧ b < ob) := ⟨Nat.le_of_eq hob, by rw [← hob]; exact BL.out⟩
  generalize w.alloc (.cells (madeCells #[.int .i64 0] 4) 2) = wm at *
  go_enter Tryd.func32, Tryd.ntmps32
  go_wp2
  clear MK hob
  go_loopw [23] (fun iv wr => ∃ c : Nat, c ≤ 4 ∧ iv = .int .i64 (c : Nat) ∧ Ab w wr ∧ wr.rowIs ob 2 4 (fun j => .int .i64 (if j < c then g j else 0))) (fun iv _ => 4 - (intOf iv).toNat)
  case atStart => exact ⟨0, by omega, rfl, A0.out, RW.out.congr (fun i _ => by simp)⟩
  case round =>
    obtain ⟨c, hc, rfl, a1, r1⟩ := hrel
    have AR := hid a1
    have RR := hid r1
    clear a1 r1 A0 RW
    by_cases hcn : c < 4
    · have HC := hid hcn
      have hcI : (c : Int) < 4 := by omega
      have AW := hid (AV.out.trans AR.out)
      have CA := hid (ARD.out wr c hcn AW.out)
      obtain ⟨f1, f2, f3, f4, f5, -⟩ := FA.out c hcn
      obtain ⟨y, hy⟩ : ∃ y, sg c * x c = y := ⟨_, rfl⟩
      obtain ⟨ee, hee⟩ : ∃ e, E c = e := ⟨_, rfl⟩
      obtain ⟨xx, hxx⟩ : ∃ e, x c = e := ⟨_, rfl⟩
      obtain ⟨ss, hss⟩ : ∃ e, sg c = e := ⟨_, rfl⟩
      have GE := hid f5
      rw [hy] at f4 GE
      rw [hee, hss] at CA
      rw [hee] at f2 f3
      rw [hss, hxx] at hy
      have EE := hid hee
      have XX := hid hxx
      have y1 := f4.1
      have y2 := f4.2
      have e1 : (ee : Int) < lf := by omega
      have e2 : (ee : Int) ≤ 65536 := by omega
      clear f1 f4 f5 hee hxx hss hcn hc f2 f3
      go_wp2_with fail
      refine CA.out.mono ?_
      rintro e9 v1 ⟨rfl, b1⟩
      have A1 : Hid (Ab wr v1) := b1
      clear b1 CA
      have xc : v1.cell? ⟨fb, fo + ee, none⟩ = some (.int .i64 xx) := by
        have h := FL.out v1 c HC.out (AW.out.trans A1.out)
        rwa [EE.out, XX.out] at h
      have R1 := hid (row_ab RR.out A1.out)
      have z1 := R1.out.cell (show c < 4 from HC.out)
      have z2 := R1.out.frozen c
      by_cases c0 : 0 < y
      · have GV : Hid (g c = y) := by have h := GE.out; rwa [if_pos c0] at h
        go_wp2
        refine ⟨⟨c + 1, by have := HC.out; omega, by simp, (AR.out.trans A1.out).set HO.out.1 _, (R1.out.set c _).congr (fun i _ => ?_)⟩, by simp [intOf]; have := HC.out; omega⟩
        by_cases e : i = c
        · subst e; simp [GV.out]
        · have e2 : (i < c + 1) ↔ i < c := by omega
          simp [e, e2]
      · have GV : Hid (g c = 0) := by have h := GE.out; rwa [if_neg c0] at h
        go_wp2
        refine ⟨⟨c + 1, by have := HC.out; omega, by simp, (AR.out.trans A1.out).set HO.out.1 _, (R1.out.set c _).congr (fun i _ => ?_)⟩, by simp [intOf]; have := HC.out; omega⟩
        by_cases e : i = c
        · subst e; simp [GV.out]
        · have e2 : (i < c + 1) ↔ i < c := by omega
          simp [e, e2]
    · have e6 : c = 4 := by omega
      subst e6
      have RG : Hid (wr.rowIs ob 2 4 (fun j => .int .i64 (g j))) := RR.out.congr (fun i hi => by simp [hi])
      have GB : ∀ i, i < 4 → -9223372036854775808 ≤ g i ∧ g i ≤ 9223372036854775807 := fun i hi => by
        obtain ⟨-, -, -, f4, f5, -⟩ := FA.out i hi
        rw [f5]
        split <;> omega
      have CC := hid (CUT.out wr ob (row_in RG.out GB))
      clear GB RR
      go_wp2_with fail
      refine CC.out.mono ?_
      rintro e9 v2 ⟨g2, cap, F, rfl, b2, hg2, hcap, rw2, hF⟩
      have A2 : Hid (Ab wr v2) := b2
      have LG : Hid (b ≠ ob ∧ b ≠ g2 ∧ 4 ≤ cap) := by
        have h1 := HO.out.2
        have h2 := RG.out.lt
        exact ⟨by omega, by omega, hcap⟩
      have IN : Hid (Ab w0 v2 ∧ v2.rowIs ob 2 4 (fun j => .int .i64 (g j)) ∧ v2.rowIs g2 2 cap F ∧ v2.rowIs b 2 N (fun i => .int .i64 (P 0 i))) := ⟨AV.out.trans (AR.out.trans A2.out), row_ab RG.out A2.out, rw2, row_ab RB.out (AR.out.trans A2.out)⟩
      have HFK := hid hF
      clear b2 hg2 hcap rw2 hF CC RG A2 AR
      go_wp2
      go_loopw [53] (fun iv wq => ∃ c : Nat, c ≤ 4 ∧ iv = .int .i64 (c : Nat) ∧ Ab w0 wq ∧ wq.rowIs ob 2 4 (fun j => .int .i64 (g j)) ∧ wq.rowIs g2 2 cap F ∧ wq.rowIs b 2 N (fun i => .int .i64 (P c i))) (fun iv _ => 4 - (intOf iv).toNat)
      case atStart => exact ⟨0, by omega, rfl, IN.out⟩
      case round =>
        obtain ⟨c, hc, rfl, a1, r1, r2, r3⟩ := hrel
        rename World => wq
        have AR := hid a1
        have RO := hid r1
        have RG := hid r2
        have RP := hid r3
        clear a1 r1 r2 r3 IN
        by_cases hcn : c < 4
        · have HC := hid hcn
          have hcI : (c : Int) < 4 := by omega
          obtain ⟨f1, f2, f3, -, -, f6⟩ := FA.out c hcn
          have z0 := RO.out.cell (show c < 4 from hcn)
          obtain ⟨gg, hgg⟩ : ∃ e, g c = e := ⟨_, rfl⟩
          rw [hgg] at z0
          have GG := hid hgg
          by_cases c0 : 0 < gg
          · have d0 : decide (0 < gg) = true := decide_eq_true c0
            have CA := hid (ARD.out _ c hcn AR.out)
            obtain ⟨y, hy⟩ : ∃ y, sg c * k c = y := ⟨_, rfl⟩
            obtain ⟨ee, hee⟩ : ∃ e, E c = e := ⟨_, rfl⟩
            obtain ⟨kk, hkk⟩ : ∃ e, k c = e := ⟨_, rfl⟩
            obtain ⟨ss, hss⟩ : ∃ e, sg c = e := ⟨_, rfl⟩
            have YE := hid hy
            rw [hy] at f6
            rw [hee, hss] at CA
            rw [hee] at f1 f3
            rw [hss, hkk] at hy
            have EE := hid hee
            have KK := hid hkk
            have y1 := f6.1
            have y2 := f6.2
            have e1 : (ee : Int) < N := by omega
            have e2 : (ee : Int) ≤ 65536 := by omega
            have FN := hid f1
            clear f1 f2 f3 f6 hee hkk hss hcn hc hgg
            go_wp2_with fail
            refine CA.out.mono ?_
            rintro e9 v3 ⟨rfl, b3⟩
            have A3 : Hid (Ab _ v3) := b3
            clear b3 CA z0
            have R3 := hid (row_ab RG.out A3.out)
            have R4 := hid (row_ab RP.out A3.out)
            have R5 := hid (row_ab RO.out A3.out)
            have z1 : v3.cell? ⟨g2, c, none⟩ = some (.int .i64 kk) := by
              have h := R3.out.cell (show c < cap by have := LG.out.2.2; have := HC.out; omega)
              rwa [HFK.out c HC.out, KK.out] at h
            have z2 := R4.out.cell FN.out
            have z3 := R4.out.frozen ee
            go_wp2
            refine ⟨⟨c + 1, by have := HC.out; omega, by simp, (AR.out.trans A3.out).set HB.out _, R5.out.setOther (Ne.symm LG.out.1) _, R3.out.setOther (Ne.symm LG.out.2.1) _, (R4.out.set ee _).congr (fun i hi => ?_)⟩, by simp [intOf]; have := HC.out; omega⟩
            have s := ST.out c HC.out i hi
            rw [EE.out, GG.out, YE.out] at s
            rw [s]
            by_cases e : i = ee
            · simp [e, c0]
            · simp [e]
          · have d0 : decide (0 < gg) = false := decide_eq_false c0
            clear f1 f2 f3 f6 hcn hc hgg
            go_wp2
            refine ⟨⟨c + 1, by have := HC.out; omega, by simp, AR.out, RO.out, RG.out, RP.out.congr (fun i hi => ?_)⟩, by simp [intOf]; have := HC.out; omega⟩
            have s := ST.out c HC.out i hi
            rw [GG.out, if_neg (fun h => c0 h.2)] at s
            rw [s]
        · have e6 : c = 4 := by omega
          subst e6
          go_wp2
          go_ret
          exact ⟨rfl, AR.out, RP.out⟩
set_option maxRecDepth 100000 in
set_option maxHeartbeats 16000000 in
theorem give17_no (gb N cell fb fo lf cf b : Nat) (wa has : Int) (E : Nat → Nat) (sg x g : Nat → Int) (P : Nat → Int) (w0 w : World) (hB : w0.heap.size ≤ b)
    (AV : Hid (Ab w0 w)) (RB : Hid (w.rowIs b 2 N (fun i => .int .i64 (P i))))
    (ARD : Hid (∀ u s, s < 4 → Ab w0 u → Calls Tryd.prog 12 #[.pointer (some ⟨gb, 0, none⟩), .int .i64 (cell : Nat), .int .i64 (s : Nat)] u fun e w' => e = .returned (.tuple #[.int .i64 (E s : Nat), .int .i64 (sg s)]) ∧ Below u.heap.size u w'))
    (FL : Hid (∀ u s, s < 4 → Ab w0 u → u.cell? ⟨fb, fo + E s, none⟩ = some (.int .i64 (x s))))
    (FA : Hid (∀ s, s < 4 → E s < N ∧ E s < lf ∧ E s ≤ 65536 ∧ (-4503599627370496 ≤ sg s * x s ∧ sg s * x s ≤ 4503599627370496) ∧ g s = (if 0 < sg s * x s then sg s * x s else 0)))
    (CUT : Hid (∀ u a, IsI u (some ⟨a, 0, none⟩) 4 g → Calls Tryd.prog 14 #[.int .i64 wa, .int .i64 has, .slice (some ⟨a, 0, none⟩) 4 4] u fun e w' => e = .returned (.tuple #[.slice none 0 0, .int .i64 1]) ∧ Below u.heap.size u w')) :
    Calls Tryd.prog 32 #[.pointer (some ⟨gb, 0, none⟩), .int .i64 (cell : Nat), .int .i64 wa, .int .i64 has, .slice (some ⟨fb, fo, none⟩) lf cf, .slice (some ⟨b, 0, none⟩) N N] w fun e w' => e = .returned (.bool false) ∧ Ab w0 w' ∧ w'.rowIs b 2 N (fun i => .int .i64 (P i)) := by
  have MK : (Instr.makeSlice 22 (.int .i64 4) (.int .i64 4)).run Tryd.prog w = .ok (.slice (some ⟨w.heap.size, 0, none⟩) 4 4) (w.alloc (.cells (madeCells #[.int .i64 0] 4) 2)) := run_make_row' (P := Tryd.prog) 22 2 (.int .i64 0) 8 Tryd.underlying22 Sh.info64 rfl .i64 .i64 4 (by omega) (by omega) w
  have HB := hid hB
  have BL : Hid (b < w.heap.size) := RB.out.lt
  clear hB
  obtain ⟨ob, hob⟩ : ∃ b, w.heap.size = b := ⟨_, rfl⟩
  have RW : Hid ((w.alloc (.cells (madeCells #[.int .i64 0] 4) 2)).rowIs ob 2 4 (fun _ => .int .i64 0)) := by rw [← hob]; exact World.rowIs_made _ _ _ _
  have A0 : Hid (Ab w (w.alloc (.cells (madeCells #[.int .i64 0] 4) 2))) := bl1 w _
  have HO : Hid (w.heap.size ≤ ob ∧ b < ob) := ⟨Nat.le_of_eq hob, by rw [← hob]; exact BL.out⟩
  generalize w.alloc (.cells (madeCells #[.int .i64 0] 4) 2) = wm at *
  go_enter Tryd.func32, Tryd.ntmps32
  go_wp2
  clear MK hob
  go_loopw [23] (fun iv wr => ∃ c : Nat, c ≤ 4 ∧ iv = .int .i64 (c : Nat) ∧ Ab w wr ∧ wr.rowIs ob 2 4 (fun j => .int .i64 (if j < c then g j else 0))) (fun iv _ => 4 - (intOf iv).toNat)
  case atStart => exact ⟨0, by omega, rfl, A0.out, RW.out.congr (fun i _ => by simp)⟩
  case round =>
    obtain ⟨c, hc, rfl, a1, r1⟩ := hrel
    have AR := hid a1
    have RR := hid r1
    clear a1 r1 A0 RW
    by_cases hcn : c < 4
    · have HC := hid hcn
      have hcI : (c : Int) < 4 := by omega
      have AW := hid (AV.out.trans AR.out)
      have CA := hid (ARD.out wr c hcn AW.out)
      obtain ⟨f1, f2, f3, f4, f5⟩ := FA.out c hcn
      obtain ⟨y, hy⟩ : ∃ y, sg c * x c = y := ⟨_, rfl⟩
      obtain ⟨ee, hee⟩ : ∃ e, E c = e := ⟨_, rfl⟩
      obtain ⟨xx, hxx⟩ : ∃ e, x c = e := ⟨_, rfl⟩
      obtain ⟨ss, hss⟩ : ∃ e, sg c = e := ⟨_, rfl⟩
      have GE := hid f5
      rw [hy] at f4 GE
      rw [hee, hss] at CA
      rw [hee] at f2 f3
      rw [hss, hxx] at hy
      have EE := hid hee
      have XX := hid hxx
      have y1 := f4.1
      have y2 := f4.2
      have e1 : (ee : Int) < lf := by omega
      have e2 : (ee : Int) ≤ 65536 := by omega
      clear f1 f4 f5 hee hxx hss hcn hc f2 f3
      go_wp2_with fail
      refine CA.out.mono ?_
      rintro e9 v1 ⟨rfl, b1⟩
      have A1 : Hid (Ab wr v1) := b1
      clear b1 CA
      have xc : v1.cell? ⟨fb, fo + ee, none⟩ = some (.int .i64 xx) := by
        have h := FL.out v1 c HC.out (AW.out.trans A1.out)
        rwa [EE.out, XX.out] at h
      have R1 := hid (row_ab RR.out A1.out)
      have z1 := R1.out.cell (show c < 4 from HC.out)
      have z2 := R1.out.frozen c
      by_cases c0 : 0 < y
      · have GV : Hid (g c = y) := by have h := GE.out; rwa [if_pos c0] at h
        go_wp2
        refine ⟨⟨c + 1, by have := HC.out; omega, by simp, (AR.out.trans A1.out).set HO.out.1 _, (R1.out.set c _).congr (fun i _ => ?_)⟩, by simp [intOf]; have := HC.out; omega⟩
        by_cases e : i = c
        · subst e; simp [GV.out]
        · have e2 : (i < c + 1) ↔ i < c := by omega
          simp [e, e2]
      · have GV : Hid (g c = 0) := by have h := GE.out; rwa [if_neg c0] at h
        go_wp2
        refine ⟨⟨c + 1, by have := HC.out; omega, by simp, (AR.out.trans A1.out).set HO.out.1 _, (R1.out.set c _).congr (fun i _ => ?_)⟩, by simp [intOf]; have := HC.out; omega⟩
        by_cases e : i = c
        · subst e; simp [GV.out]
        · have e2 : (i < c + 1) ↔ i < c := by omega
          simp [e, e2]
    · have e6 : c = 4 := by omega
      subst e6
      have RG : Hid (wr.rowIs ob 2 4 (fun j => .int .i64 (g j))) := RR.out.congr (fun i hi => by simp [hi])
      have GB : ∀ i, i < 4 → -9223372036854775808 ≤ g i ∧ g i ≤ 9223372036854775807 := fun i hi => by
        obtain ⟨-, -, -, f4, f5⟩ := FA.out i hi
        rw [f5]
        split <;> omega
      have CC := hid (CUT.out wr ob (row_in RG.out GB))
      clear GB RR
      go_wp2_with fail
      refine CC.out.mono ?_
      rintro e9 v2 ⟨rfl, b2⟩
      have A2 : Hid (Ab wr v2) := b2
      have R2 := hid (row_ab RB.out (AR.out.trans A2.out))
      clear b2 CC
      go_wp2
      go_ret
      exact ⟨rfl, AV.out.trans (AR.out.trans A2.out), R2.out⟩
set_option maxRecDepth 100000 in
set_option maxHeartbeats 4000000 in
theorem fits17_go (gb M N : Nat) (pw : Option Addr) (lw cw : Nat) (ph : Option Addr) (lh ch : Nat) (pf : Option Addr) (lf cf : Nat) (ok : Bool) (w : World)
    (CE : Hid (∀ v, Ab w v → Calls Tryd.prog 8 #[.pointer (some ⟨gb, 0, none⟩)] v fun e w' => e = .returned (.int .i64 (M : Nat)) ∧ w' = v))
    (ED : Hid (∀ v, Ab w v → Calls Tryd.prog 10 #[.pointer (some ⟨gb, 0, none⟩)] v fun e w' => e = .returned (.int .i64 (N : Nat)) ∧ w' = v))
    (OK : Hid (ok = true ↔ lw = M ∧ lh = M ∧ lf = N)) :
    Calls Tryd.prog 30 #[.pointer (some ⟨gb, 0, none⟩), .slice pw lw cw, .slice ph lh ch, .slice pf lf cf] w fun e w' => e = .returned (.bool ok) ∧ w' = w := by
  by_cases c1 : lw = M
  · have d1 : ((lw : Int) == (M : Int)) = true := by simp; omega
    by_cases c2 : lh = M
    · have d2 : ((lh : Int) == (M : Int)) = true := by simp; omega
      by_cases c3 : lf = N
      · have d3 : ((lf : Int) == (N : Int)) = true := by simp; omega
        have KO : Hid (ok = true) := OK.out.2 ⟨c1, c2, c3⟩
        clear OK c1 c2 c3
        go_enter Tryd.func30, Tryd.ntmps30
        go_wp2_with fail
        refine (CE.out _ (Ab.refl _)).mono ?_
        rintro e9 v9 ⟨rfl, hv9⟩
        have hv8 := hv9.symm
        subst hv8
        go_wp2_with fail
        refine (CE.out _ (Ab.refl _)).mono ?_
        rintro e9 v9 ⟨rfl, hv9⟩
        have hv8 := hv9.symm
        subst hv8
        go_wp2_with fail
        refine (ED.out _ (Ab.refl _)).mono ?_
        rintro e9 v9 ⟨rfl, hv9⟩
        have hv8 := hv9.symm
        subst hv8
        go_wp2
        go_ret
        exact ⟨by rw [KO.out]; rfl, rfl⟩
      · have d3 : ((lf : Int) == (N : Int)) = false := by simp; omega
        have KO : Hid (ok = false) := eq_false_of_ne_true (fun h => absurd ((OK.out.1 h).2.2) (by assumption))
        clear OK c1 c2 c3
        go_enter Tryd.func30, Tryd.ntmps30
        go_wp2_with fail
        refine (CE.out _ (Ab.refl _)).mono ?_
        rintro e9 v9 ⟨rfl, hv9⟩
        have hv8 := hv9.symm
        subst hv8
        go_wp2_with fail
        refine (CE.out _ (Ab.refl _)).mono ?_
        rintro e9 v9 ⟨rfl, hv9⟩
        have hv8 := hv9.symm
        subst hv8
        go_wp2_with fail
        refine (ED.out _ (Ab.refl _)).mono ?_
        rintro e9 v9 ⟨rfl, hv9⟩
        have hv8 := hv9.symm
        subst hv8
        go_wp2
        go_ret
        exact ⟨by rw [KO.out]; rfl, rfl⟩
    · have d2 : ((lh : Int) == (M : Int)) = false := by simp; omega
      have KO : Hid (ok = false) := eq_false_of_ne_true (fun h => absurd ((OK.out.1 h).2.1) (by assumption))
      clear OK c1 c2
      go_enter Tryd.func30, Tryd.ntmps30
      go_wp2_with fail
      refine (CE.out _ (Ab.refl _)).mono ?_
      rintro e9 v9 ⟨rfl, hv9⟩
      have hv8 := hv9.symm
      subst hv8
      go_wp2_with fail
      refine (CE.out _ (Ab.refl _)).mono ?_
      rintro e9 v9 ⟨rfl, hv9⟩
      have hv8 := hv9.symm
      subst hv8
      go_wp2
      go_ret
      exact ⟨by rw [KO.out]; rfl, rfl⟩
  · have d1 : ((lw : Int) == (M : Int)) = false := by simp; omega
    have KO : Hid (ok = false) := eq_false_of_ne_true (fun h => absurd ((OK.out.1 h).1) (by assumption))
    clear OK c1
    go_enter Tryd.func30, Tryd.ntmps30
    go_wp2_with fail
    refine (CE.out _ (Ab.refl _)).mono ?_
    rintro e9 v9 ⟨rfl, hv9⟩
    have hv8 := hv9.symm
    subst hv8
    go_wp2
    go_ret
    exact ⟨by rw [KO.out]; rfl, rfl⟩
end Tr
end Go.Proofs.YtnnganbcjfkbiaaDoor

namespace Go.Proofs.YtnnganbcjfkbiaaDoor
open Go.RowKit Go.Deep Cu
namespace Tr
open Sh
set_option maxRecDepth 100000 in
set_option maxHeartbeats 16000000 in
theorem flows_no1 (gb : Nat) (pw : Option Addr) (lw cw : Nat) (ph : Option Addr) (lh ch : Nat) (pf : Option Addr) (lf cf : Nat) (w : World)
    (FT : Hid (Calls Tryd.prog 30 #[.pointer (some ⟨gb, 0, none⟩), .slice pw lw cw, .slice ph lh ch, .slice pf lf cf] w fun e w' => e = .returned (.bool false) ∧ w' = w)) :
    Calls Tryd.prog 11 #[.pointer (some ⟨gb, 0, none⟩), .slice pw lw cw, .slice ph lh ch, .slice pf lf cf] w fun e w' => e = .returned (.tuple #[.slice none 0 0, .int .i64 1]) ∧ w' = w := by
  go_enter Tryd.func11, Tryd.ntmps11
  go_wp2_with fail
  refine FT.out.mono ?_
  rintro e9 v9 ⟨rfl, hv9⟩
  have hv8 := hv9.symm
  subst hv8
  go_wp2
  go_ret2
  exact ⟨rfl, rfl⟩
set_option maxRecDepth 100000 in
set_option maxHeartbeats 16000000 in
theorem flows_no2 (gb : Nat) (pw : Option Addr) (lw cw : Nat) (ph : Option Addr) (lh ch : Nat) (pf : Option Addr) (lf cf : Nat) (w : World)
    (FT : Hid (Calls Tryd.prog 30 #[.pointer (some ⟨gb, 0, none⟩), .slice pw lw cw, .slice ph lh ch, .slice pf lf cf] w fun e w' => e = .returned (.bool true) ∧ w' = w))
    (H2 : Hid (Calls Tryd.prog 26 #[.slice pf lf cf, .func (.func 31) #[] #[]] w fun e w' => e = .returned (.bool true) ∧ w' = w)) :
    Calls Tryd.prog 11 #[.pointer (some ⟨gb, 0, none⟩), .slice pw lw cw, .slice ph lh ch, .slice pf lf cf] w fun e w' => e = .returned (.tuple #[.slice none 0 0, .int .i64 1]) ∧ w' = w := by
  go_enter Tryd.func11, Tryd.ntmps11
  go_wp2_with fail
  refine FT.out.mono ?_
  rintro e9 v9 ⟨rfl, hv9⟩
  have hv8 := hv9.symm
  subst hv8
  go_wp2_with fail
  refine H2.out.mono ?_
  rintro e9 v9 ⟨rfl, hv9⟩
  have hv8 := hv9.symm
  subst hv8
  go_wp2
  go_ret2
  exact ⟨rfl, rfl⟩
set_option maxRecDepth 100000 in
set_option maxHeartbeats 16000000 in
theorem flows_yes (gb wb wo M cw hb ho ch : Nat) (pf : Option Addr) (N cf : Nat) (W H : Nat → Int) (P : Nat → Nat → Int) (w : World) (hM : M ≤ 65536) (hN : N ≤ 65536)
    (FT : Hid (Calls Tryd.prog 30 #[.pointer (some ⟨gb, 0, none⟩), .slice (some ⟨wb, wo, none⟩) M cw, .slice (some ⟨hb, ho, none⟩) M ch, .slice pf N cf] w fun e w' => e = .returned (.bool true) ∧ w' = w))
    (H2 : Hid (Calls Tryd.prog 26 #[.slice pf N cf, .func (.func 31) #[] #[]] w fun e w' => e = .returned (.bool false) ∧ w' = w))
    (WC : Hid (∀ c, c < M → ∀ v, Ab w v → v.cell? ⟨wb, wo + c, none⟩ = some (.int .i64 (W c)) ∧ v.cell? ⟨hb, ho + c, none⟩ = some (.int .i64 (H c))))
    (GV : Hid (∀ b c, c < M → w.heap.size ≤ b → ∀ v, Ab w v → v.rowIs b 2 N (fun i => .int .i64 (P (4 * c) i)) → Calls Tryd.prog 32 #[.pointer (some ⟨gb, 0, none⟩), .int .i64 (c : Nat), .int .i64 (W c), .int .i64 (H c), .slice pf N cf, .slice (some ⟨b, 0, none⟩) N N] v fun e w' => e = .returned (.bool true) ∧ Ab w w' ∧ w'.rowIs b 2 N (fun i => .int .i64 (P (4 * (c + 1)) i))))
    (P0 : Hid (∀ i, P 0 i = 0)) :
    Calls Tryd.prog 11 #[.pointer (some ⟨gb, 0, none⟩), .slice (some ⟨wb, wo, none⟩) M cw, .slice (some ⟨hb, ho, none⟩) M ch, .slice pf N cf] w fun e w' => ∃ v, e = .returned (.tuple #[v, .int .i64 0]) ∧ Below w.heap.size w w' ∧ Own w.heap.size v ((List.range N).map (P (4 * M))) w' := by
  have MK := run_make_row' (P := Tryd.prog) 22 2 (.int .i64 0) 8 Tryd.underlying22 Sh.info64 rfl .i64 .i64 N (by omega) (by omega) w
  have NB := hid hN
  have MB := hid hM
  clear hM hN
  obtain ⟨ob, hob⟩ : ∃ b, w.heap.size = b := ⟨_, rfl⟩
  have RW : Hid ((w.alloc (.cells (madeCells #[.int .i64 0] N) 2)).rowIs ob 2 N (fun i => .int .i64 (P (4 * 0) i))) := by
    have h := World.rowIs_made w (.int .i64 0) N 2
    rw [hob] at h
    exact h.congr (fun i _ => by rw [show 4 * 0 = 0 from rfl, P0.out])
  have A0 : Hid (Ab w (w.alloc (.cells (madeCells #[.int .i64 0] N) 2))) := bl1 w _
  have HO : Hid (w.heap.size ≤ ob) := Nat.le_of_eq hob
  generalize w.alloc (.cells (madeCells #[.int .i64 0] N) 2) = wm at *
  go_enter Tryd.func11, Tryd.ntmps11
  go_wp2_with fail
  refine FT.out.mono ?_
  rintro e9 v9 ⟨rfl, hv9⟩
  have hv8 := hv9.symm
  subst hv8
  go_wp2_with fail
  refine H2.out.mono ?_
  rintro e9 v9 ⟨rfl, hv9⟩
  have hv8 := hv9.symm
  subst hv8
  go_wp2
  clear MK hob FT H2 P0
  go_loopw [29] (fun iv wr => ∃ c : Nat, c ≤ M ∧ iv = .int .i64 (c : Nat) ∧ Ab w wr ∧ wr.rowIs ob 2 N (fun i => .int .i64 (P (4 * c) i))) (fun iv _ => M - (intOf iv).toNat)
  case atStart => exact ⟨0, by omega, rfl, A0.out, RW.out⟩
  case round =>
    obtain ⟨c, hc, rfl, a1, r1⟩ := hrel
    have AR := hid a1
    have RR := hid r1
    clear a1 r1 A0 RW
    by_cases hcn : c < M
    · have HC := hid hcn
      have hcI : (c : Int) < M := by omega
      have hcB : (c : Int) ≤ 65536 := by have := MB.out; omega
      obtain ⟨x, hx⟩ : ∃ x, W c = x := ⟨_, rfl⟩
      obtain ⟨y, hy⟩ : ∃ x, H c = x := ⟨_, rfl⟩
      have xc : ∀ v, Ab wr v → v.cell? ⟨wb, wo + c, none⟩ = some (.int .i64 x) := fun v a => by rw [← hx]; exact (WC.out c hcn v (AR.out.trans a)).1
      have yc : ∀ v, Ab wr v → v.cell? ⟨hb, ho + c, none⟩ = some (.int .i64 y) := fun v a => by rw [← hy]; exact (WC.out c hcn v (AR.out.trans a)).2
      have XC := hid xc
      have YC := hid yc
      have x0 := xc wr (Ab.refl _)
      have y0 := yc wr (Ab.refl _)
      have x1 := xc wr.drew (Ab.refl _).drew
      have y1 := yc wr.drew (Ab.refl _).drew
      have CG : Hid (∀ v, Ab wr v → Calls Tryd.prog 32 #[.pointer (some ⟨gb, 0, none⟩), .int .i64 (c : Nat), .int .i64 x, .int .i64 y, .slice pf N cf, .slice (some ⟨ob, 0, none⟩) N N] v fun e w' => e = .returned (.bool true) ∧ Ab w w' ∧ w'.rowIs ob 2 N (fun i => .int .i64 (P (4 * (c + 1)) i))) := fun v a => by
        rw [← hx, ← hy]
        exact GV.out ob c hcn HO.out v (AR.out.trans a) (row_ab RR.out a)
      clear hx hy hcn hc xc yc
      go_upto_region 9 with fail
      go_region_with (go_at_call 32; refine (CG.out _ (by first | exact Ab.refl _ | exact (Ab.refl _).drew)).mono ?_; rintro e9 v1 ⟨rfl, a1, r1⟩; have A1 := hid a1; have R1 := hid r1; clear a1 r1 CG)
      all_goals
        go_wp2
        exact ⟨⟨c + 1, by have := HC.out; omega, by simp, A1.out, R1.out⟩, by simp [intOf]; have := HC.out; omega⟩
    · have e6 : M = c := by omega
      subst e6
      go_wp2
      go_ret2
      exact ⟨_, rfl, AR.out, row_own17 RR.out HO.out (Nat.le_refl _) (by unfold maxLen; have := NB.out; omega) (fun i _ => rfl)⟩
set_option maxRecDepth 100000 in
set_option maxHeartbeats 16000000 in
theorem flows_no3 (gb wb wo M cw hb ho ch : Nat) (pf : Option Addr) (N cf : Nat) (W H : Nat → Int) (G : Nat → Prop) (w : World) (hM : M ≤ 65536) (hN : N ≤ 65536)
    (FT : Hid (Calls Tryd.prog 30 #[.pointer (some ⟨gb, 0, none⟩), .slice (some ⟨wb, wo, none⟩) M cw, .slice (some ⟨hb, ho, none⟩) M ch, .slice pf N cf] w fun e w' => e = .returned (.bool true) ∧ w' = w))
    (H2 : Hid (Calls Tryd.prog 26 #[.slice pf N cf, .func (.func 31) #[] #[]] w fun e w' => e = .returned (.bool false) ∧ w' = w))
    (WC : Hid (∀ c, c < M → ∀ v, Ab w v → v.cell? ⟨wb, wo + c, none⟩ = some (.int .i64 (W c)) ∧ v.cell? ⟨hb, ho + c, none⟩ = some (.int .i64 (H c))))
    (GV : Hid (∀ b c, c < M → w.heap.size ≤ b → ∀ R : Nat → Int, ∀ v, Ab w v → v.rowIs b 2 N (fun i => .int .i64 (R i)) → (G c → Calls Tryd.prog 32 #[.pointer (some ⟨gb, 0, none⟩), .int .i64 (c : Nat), .int .i64 (W c), .int .i64 (H c), .slice pf N cf, .slice (some ⟨b, 0, none⟩) N N] v fun e w' => e = .returned (.bool true) ∧ Ab w w' ∧ ∃ R' : Nat → Int, w'.rowIs b 2 N (fun i => .int .i64 (R' i))) ∧ (¬ G c → Calls Tryd.prog 32 #[.pointer (some ⟨gb, 0, none⟩), .int .i64 (c : Nat), .int .i64 (W c), .int .i64 (H c), .slice pf N cf, .slice (some ⟨b, 0, none⟩) N N] v fun e w' => e = .returned (.bool false) ∧ Ab w w')))
    (HB : Hid (¬ ∀ c, c < M → G c)) :
    Calls Tryd.prog 11 #[.pointer (some ⟨gb, 0, none⟩), .slice (some ⟨wb, wo, none⟩) M cw, .slice (some ⟨hb, ho, none⟩) M ch, .slice pf N cf] w fun e w' => e = .returned (.tuple #[.slice none 0 0, .int .i64 1]) ∧ Below w.heap.size w w' := by
  have MK := run_make_row' (P := Tryd.prog) 22 2 (.int .i64 0) 8 Tryd.underlying22 Sh.info64 rfl .i64 .i64 N (by omega) (by omega) w
  have NB := hid hN
  have MB := hid hM
  clear hM hN
  obtain ⟨ob, hob⟩ : ∃ b, w.heap.size = b := ⟨_, rfl⟩
  have RW : Hid ((w.alloc (.cells (madeCells #[.int .i64 0] N) 2)).rowIs ob 2 N (fun _ => .int .i64 0)) := by
    have h := World.rowIs_made w (.int .i64 0) N 2
    rw [hob] at h
    exact h.congr (fun i _ => rfl)
  have A0 : Hid (Ab w (w.alloc (.cells (madeCells #[.int .i64 0] N) 2))) := bl1 w _
  have HO : Hid (w.heap.size ≤ ob) := Nat.le_of_eq hob
  generalize w.alloc (.cells (madeCells #[.int .i64 0] N) 2) = wm at *
  go_enter Tryd.func11, Tryd.ntmps11
  go_wp2_with fail
  refine FT.out.mono ?_
  rintro e9 v9 ⟨rfl, hv9⟩
  have hv8 := hv9.symm
  subst hv8
  go_wp2_with fail
  refine H2.out.mono ?_
  rintro e9 v9 ⟨rfl, hv9⟩
  have hv8 := hv9.symm
  subst hv8
  go_wp2
  clear MK hob FT H2
  go_loopw [29] (fun iv wr => ∃ c : Nat, c ≤ M ∧ iv = .int .i64 (c : Nat) ∧ Ab w wr ∧ (∀ j, j < c → G j) ∧ ∃ R : Nat → Int, wr.rowIs ob 2 N (fun i => .int .i64 (R i))) (fun iv _ => M - (intOf iv).toNat)
  case atStart => exact ⟨0, by omega, rfl, A0.out, fun j hj => absurd hj (Nat.not_lt_zero j), fun _ => 0, RW.out⟩
  case round =>
    obtain ⟨c, hc, rfl, a1, g1, R, r1⟩ := hrel
    have AR := hid a1
    have RR := hid r1
    have GG := hid g1
    clear a1 r1 g1 A0 RW
    by_cases hcn : c < M
    · have HC := hid hcn
      have hcI : (c : Int) < M := by omega
      have hcB : (c : Int) ≤ 65536 := by have := MB.out; omega
      obtain ⟨x, hx⟩ : ∃ x, W c = x := ⟨_, rfl⟩
      obtain ⟨y, hy⟩ : ∃ x, H c = x := ⟨_, rfl⟩
      have xc : ∀ v, Ab wr v → v.cell? ⟨wb, wo + c, none⟩ = some (.int .i64 x) := fun v a => by rw [← hx]; exact (WC.out c hcn v (AR.out.trans a)).1
      have yc : ∀ v, Ab wr v → v.cell? ⟨hb, ho + c, none⟩ = some (.int .i64 y) := fun v a => by rw [← hy]; exact (WC.out c hcn v (AR.out.trans a)).2
      have XC := hid xc
      have YC := hid yc
      have x0 := xc wr (Ab.refl _)
      have y0 := yc wr (Ab.refl _)
      have x1 := xc wr.drew (Ab.refl _).drew
      have y1 := yc wr.drew (Ab.refl _).drew
      by_cases gc : G c
      · have GC := hid gc
        have CG : Hid (∀ v, Ab wr v → Calls Tryd.prog 32 #[.pointer (some ⟨gb, 0, none⟩), .int .i64 (c : Nat), .int .i64 x, .int .i64 y, .slice pf N cf, .slice (some ⟨ob, 0, none⟩) N N] v fun e w' => e = .returned (.bool true) ∧ Ab w w' ∧ ∃ R' : Nat → Int, w'.rowIs ob 2 N (fun i => .int .i64 (R' i))) := fun v a => by
          rw [← hx, ← hy]
          exact (GV.out ob c hcn HO.out R v (AR.out.trans a) (row_ab RR.out a)).1 gc
        clear hx hy hcn hc xc yc gc
        go_upto_region 9 with fail
        go_region_with (go_at_call 32; refine (CG.out _ (by first | exact Ab.refl _ | exact (Ab.refl _).drew)).mono ?_; rintro e9 v1 ⟨rfl, a1, R', r1⟩; have A1 := hid a1; have R1 := hid r1; clear a1 r1 CG)
        all_goals
          go_wp2
          exact ⟨⟨c + 1, by have := HC.out; omega, by simp, A1.out, fun j hj => (by
            by_cases l : j < c
            · exact GG.out j l
            · obtain rfl : j = c := by omega
              exact GC.out), _, R1.out⟩, by simp [intOf]; have := HC.out; omega⟩
      · have CG : Hid (∀ v, Ab wr v → Calls Tryd.prog 32 #[.pointer (some ⟨gb, 0, none⟩), .int .i64 (c : Nat), .int .i64 x, .int .i64 y, .slice pf N cf, .slice (some ⟨ob, 0, none⟩) N N] v fun e w' => e = .returned (.bool false) ∧ Ab w w') := fun v a => by
          rw [← hx, ← hy]
          exact (GV.out ob c hcn HO.out R v (AR.out.trans a) (row_ab RR.out a)).2 gc
        clear hx hy hcn hc xc yc gc
        go_upto_region 9 with fail
        go_region_with (go_at_call 32; refine (CG.out _ (by first | exact Ab.refl _ | exact (Ab.refl _).drew)).mono ?_; rintro e9 v1 ⟨rfl, a1⟩; have A1 := hid a1; clear a1 CG)
        all_goals
          go_wp2
          go_ret2
          exact ⟨rfl, A1.out⟩
    · have e6 : M = c := by omega
      subst e6
      exact absurd GG.out HB.out
/-- a side that gives, done -/
theorem flP_og {n : Nat} {W H F : Nat → Int} {T e : Nat} (hn : 1 ≤ n) (hT : T < 24 * n * n) (he : e < 12 * n * n) (hH : ∀ c, c < 6 * n * n → 0 ≤ H c ∧ H c ≤ 9223372036854775807) (o : ∀ c, c < 6 * n * n → oS n F c ≤ W c) :
    flP n W H F (T + 1) e = if e = eE n T ∧ 0 < og n F T then eS n T * tks n W H F T else flP n W H F T e := by
  have st := flP_step (W := W) (H := H) (F := F) hn hT he hH o
  have cT := tks_nn (t := T) (hH _ (t_cell hT)).1 (hH _ (t_cell hT)).2 (o _ (t_cell hT))
  rw [st]
  by_cases q : e = eE n T ∧ 0 < og n F T
  · rw [if_pos q]
    by_cases z : 0 < tks n W H F T
    · rw [if_pos ⟨q.1, z⟩, Int.mul_comm]
    · rw [if_neg (fun h => z h.2)]
      have z0 : tks n W H F T = 0 := by omega
      rw [z0, Int.mul_zero]
      have o2 : og n F (mt n T) = 0 := (og_opp (F := F) hn hT).resolve_left (by omega)
      have m0 := tks_zero (W := W) (H := H) o2
      have ed : edT n e = if isL n T = true then T else mt n T := by rw [q.1]; exact edT_eE hn hT
      unfold flP
      by_cases l : isL n T = true
      · rw [if_pos l] at ed
        rw [ed, m0, z0]
        simp
      · rw [if_neg l] at ed
        rw [ed, mt_mt hn hT, m0, z0]
        simp
  · rw [if_neg q]
    by_cases z : 0 < tks n W H F T
    · rw [if_neg (fun h => q ⟨h.1, ?_⟩)]
      have g := og_nn n F T
      rcases Int.lt_or_eq_of_le g with h1 | h1
      · exact h1
      · have := tks_zero (W := W) (H := H) h1.symm
        omega
    · rw [if_neg (fun h => z h.2)]
/-- what lies behind s sides that give, whatever lay there -/
def putS (E : Nat → Nat) (sg g k R : Nat → Int) : Nat → Nat → Int
  | 0 => R
  | s + 1 => fun i => if i = E s ∧ 0 < g s then sg s * k s else putS E sg g k R s i
/-- what give is asked: of one cell -/
theorem give_facts {n c : Nat} {F : Nat → Int} (hn : 1 ≤ n ∧ n ≤ 32) (hc : c < 6 * n * n) (hF : ∀ e, e < 12 * n * n → -4503599627370496 ≤ F e ∧ F e ≤ 4503599627370496) :
    ∀ s, s < 4 → eE n (4 * c + s) < 12 * n * n ∧ eE n (4 * c + s) < 12 * n * n ∧ eE n (4 * c + s) ≤ 65536 ∧ (-4503599627370496 ≤ eS n (4 * c + s) * F (eE n (4 * c + s)) ∧ eS n (4 * c + s) * F (eE n (4 * c + s)) ≤ 4503599627370496) ∧ oA n F c s = (if 0 < eS n (4 * c + s) * F (eE n (4 * c + s)) then eS n (4 * c + s) * F (eE n (4 * c + s)) else 0) := by
  intro s hs
  have nb : 12 * n * n ≤ 65536 := by
    have h1 : n * n ≤ 32 * 32 := Nat.mul_le_mul hn.2 hn.2
    rw [Nat.mul_assoc]
    omega
  have sgn : eS n (4 * c + s) = 1 ∨ eS n (4 * c + s) = -1 := by unfold eS; split <;> simp
  have e := eE_lt hn.1 (t_lt hc hs)
  have f := hF _ e
  refine ⟨e, e, by omega, ?_, ?_⟩
  · rcases sgn with q | q <;> rw [q] <;> omega
  · unfold oA og
    rw [Int.mul_comm]
/-- ONE CELL GIVES: what its outs take lies over its sides -/
theorem give17_good {n gb fb fo cf b c : Nat} {W H F : Nat → Int} {P : Nat → Nat → Int} {w v : World} (hn : 1 ≤ n ∧ n ≤ 32) (hc : c < 6 * n * n) (g : GridOf n gb w) (iF : IsI w (some ⟨fb, fo, none⟩) (12 * n * n) F) (hW : Sh.W64 (W c)) (hH : Sh.W64 (H c)) (gd : good17 (W c) (H c) 4 (oA n F c)) (hF : ∀ e, e < 12 * n * n → -4503599627370496 ≤ F e ∧ F e ≤ 4503599627370496) (hb : w.heap.size ≤ b) (a : Ab w v)
    (r : v.rowIs b 2 (12 * n * n) (fun i => .int .i64 (P 0 i))) (st : ∀ s, s < 4 → ∀ i, i < 12 * n * n → P (s + 1) i = if i = eE n (4 * c + s) ∧ 0 < oA n F c s then eS n (4 * c + s) * tkA (H c) (W c) (oA n F c) s else P s i) :
    Calls Tryd.prog 32 #[.pointer (some ⟨gb, 0, none⟩), .int .i64 (c : Nat), .int .i64 (W c), .int .i64 (H c), .slice (some ⟨fb, fo, none⟩) (12 * n * n) cf, .slice (some ⟨b, 0, none⟩) (12 * n * n) (12 * n * n)] v fun e w' => e = .returned (.bool true) ∧ Ab w w' ∧ w'.rowIs b 2 (12 * n * n) (fun i => .int .i64 (P 4 i)) := by
  have ff := give_facts hn hc hF
  refine give17_yes gb (12 * n * n) c fb fo (12 * n * n) cf b (W c) (H c) (fun s => eE n (4 * c + s)) (fun s => eS n (4 * c + s)) (fun s => F (eE n (4 * c + s))) (oA n F c) (tkA (H c) (W c) (oA n F c)) P w v hb a r ?_ ?_ ?_ ?_ st
  · intro u s hs au
    exact around17 hn hc hs (g.to au)
  · intro u s hs au
    exact ((iF.below au).at0 (eE_lt hn.1 (t_lt hc hs))).2.2
  · intro s hs
    obtain ⟨f1, f2, f3, f4, f5⟩ := ff s hs
    have sgn : eS n (4 * c + s) = 1 ∨ eS n (4 * c + s) = -1 := by unfold eS; split <;> simp
    have t := tk_w64 gd hH hs
    have := hH.2
    refine ⟨f1, f2, f3, f4, f5, ?_⟩
    show -9223372036854775807 ≤ eS n (4 * c + s) * tkA (H c) (W c) (oA n F c) s ∧ eS n (4 * c + s) * tkA (H c) (W c) (oA n F c) s ≤ 9223372036854775807
    rcases sgn with q | q <;> rw [q] <;> omega
  · intro u o io
    refine ((takesC (W c) (H c) (some ⟨o, 0, none⟩) 4 4 _ u hW hH (by omega) io).1 gd).mono ?_
    rintro e w' ⟨v', rfl, bl, ow⟩
    obtain ⟨g2, cap, G, rfl, h1, h2, -, h4, h5⟩ := own_two17 ow (by omega)
    exact ⟨g2, cap, G, rfl, bl, h1, h2, h4, h5⟩
/-- ONE CELL THAT GIVES TOO MUCH -/
theorem give17_bad {n gb fb fo cf b c : Nat} {W H F : Nat → Int} {R : Nat → Int} {w v : World} (hn : 1 ≤ n ∧ n ≤ 32) (hc : c < 6 * n * n) (g : GridOf n gb w) (iF : IsI w (some ⟨fb, fo, none⟩) (12 * n * n) F) (hW : Sh.W64 (W c)) (hH : Sh.W64 (H c)) (gd : ¬ good17 (W c) (H c) 4 (oA n F c)) (hF : ∀ e, e < 12 * n * n → -4503599627370496 ≤ F e ∧ F e ≤ 4503599627370496) (hb : w.heap.size ≤ b) (a : Ab w v)
    (r : v.rowIs b 2 (12 * n * n) (fun i => .int .i64 (R i))) :
    Calls Tryd.prog 32 #[.pointer (some ⟨gb, 0, none⟩), .int .i64 (c : Nat), .int .i64 (W c), .int .i64 (H c), .slice (some ⟨fb, fo, none⟩) (12 * n * n) cf, .slice (some ⟨b, 0, none⟩) (12 * n * n) (12 * n * n)] v fun e w' => e = .returned (.bool false) ∧ Ab w w' := by
  refine (give17_no gb (12 * n * n) c fb fo (12 * n * n) cf b (W c) (H c) (fun s => eE n (4 * c + s)) (fun s => eS n (4 * c + s)) (fun s => F (eE n (4 * c + s))) (oA n F c) R w v hb a r ?_ ?_ (give_facts hn hc hF) ?_).mono ?_
  · intro u s hs au
    exact around17 hn hc hs (g.to au)
  · intro u s hs au
    exact ((iF.below au).at0 (eE_lt hn.1 (t_lt hc hs))).2.2
  · intro u o io
    exact (takesC (W c) (H c) (some ⟨o, 0, none⟩) 4 4 _ u hW hH (by omega) io).2 gd
  · rintro e w' ⟨rfl, h1, -⟩
    exact ⟨rfl, h1⟩
/-- FLOWS -/
theorem flowsC : FlowsC := by
  intro n gb pw lw cw W ph lh ch H pf lf cf F w hn g hlw hlh hlf iW iH iF
  have CE : ∀ v, Ab w v → Calls Tryd.prog 8 #[.pointer (some ⟨gb, 0, none⟩)] v fun e w' => e = .returned (.int .i64 (6 * n * n : Nat)) ∧ w' = v := fun v a => gCells_at (g.to a)
  have ED : ∀ v, Ab w v → Calls Tryd.prog 10 #[.pointer (some ⟨gb, 0, none⟩)] v fun e w' => e = .returned (.int .i64 (12 * n * n : Nat)) ∧ w' = v := fun v a => gEdges_at (g.to a)
  have p1 : 0 < n * n := Nat.mul_pos (by omega) (by omega)
  have q1 : 0 < 6 * n * n := by rw [Nat.mul_assoc]; omega
  have q2 : 0 < 12 * n * n := by rw [Nat.mul_assoc]; omega
  have toB : (Calls Tryd.prog 11 #[.pointer (some ⟨gb, 0, none⟩), .slice pw lw cw, .slice ph lh ch, .slice pf lf cf] w fun e w' => e = .returned (.tuple #[.slice none 0 0, .int .i64 1]) ∧ w' = w) → Calls Tryd.prog 11 #[.pointer (some ⟨gb, 0, none⟩), .slice pw lw cw, .slice ph lh ch, .slice pf lf cf] w fun e w' => e = .returned (.tuple #[.slice none 0 0, .int .i64 1]) ∧ Below w.heap.size w w' := fun h => h.mono (by
    rintro e w' ⟨rfl, rfl⟩
    exact ⟨rfl, Below.refl _ _⟩)
  constructor
  · rintro ⟨rfl, rfl, rfl, hW, hH, hF, hO⟩
    obtain ⟨wb, wo, rfl⟩ := iW.some0 q1
    obtain ⟨hb, ho, rfl⟩ := iH.some0 q1
    obtain ⟨fb, fo, rfl⟩ := iF.some0 q2
    have hH2 : ∀ c, c < 6 * n * n → 0 ≤ H c ∧ H c ≤ 9223372036854775807 := fun c hc => ⟨hH c hc, (iH.at0 hc).1.2⟩
    have e : (List.range (12 * n * n)).map (flF n W H F) = (List.range (12 * n * n)).map (flP n W H F (4 * (6 * n * n))) := by
      refine List.map_congr_left (fun i hi => ?_)
      rw [show 4 * (6 * n * n) = 24 * n * n by rw [Nat.mul_assoc, Nat.mul_assoc]; omega, flP_all hn.1 (List.mem_range.1 hi)]
    rw [e]
    refine flows_yes gb wb wo _ cw hb ho ch (some ⟨fb, fo, none⟩) _ cf W H (fun T i => flP n W H F T i) w hlw hlf (fits17_go gb _ _ _ _ cw _ _ ch _ _ cf true w CE ED (show _ ↔ _ by simp)) (hasfar17_no _ _ cf F w hlf iF (fun i hi => ?_)) ?_ ?_ (fun i => flP_0 n W H F i)
    · have h := hF i hi
      unfold far17
      rw [decide_eq_false (show ¬ F i < -4503599627370496 by omega), decide_eq_false (show ¬ 4503599627370496 < F i by omega)]
      rfl
    · intro c hc v a
      exact ⟨((iW.below a).at0 hc).2.2, ((iH.below a).at0 hc).2.2⟩
    · intro b c hc hb v a r
      refine give17_good (P := fun s i => flP n W H F (4 * c + s) i) hn hc g iF (iW.at0 hc).1 (iH.at0 hc).1 ⟨hW c hc, hH c hc, oA_ok (hO c hc)⟩ hF hb a r (fun s hs i hi => ?_)
      have h := flP_og (W := W) (H := H) (F := F) hn.1 (t_lt hc hs) hi hH2 hO
      unfold tks at h
      rw [(t_dec hs).1, (t_dec hs).2] at h
      exact h
  · intro nf
    by_cases c1 : lw = 6 * n * n ∧ lh = 6 * n * n ∧ lf = 12 * n * n
    · by_cases c2 : ∀ i, i < lf → far17 (F i) = false
      · obtain ⟨rfl, rfl, rfl⟩ := c1
        obtain ⟨wb, wo, rfl⟩ := iW.some0 q1
        obtain ⟨hb, ho, rfl⟩ := iH.some0 q1
        obtain ⟨fb, fo, rfl⟩ := iF.some0 q2
        have hF : ∀ e, e < 12 * n * n → -4503599627370496 ≤ F e ∧ F e ≤ 4503599627370496 := fun i hi => by
          have k := c2 i hi
          unfold far17 at k
          rw [Bool.or_eq_false_iff] at k
          have k1 := of_decide_eq_false k.1
          have k2 := of_decide_eq_false k.2
          omega
        refine flows_no3 gb wb wo _ cw hb ho ch (some ⟨fb, fo, none⟩) _ cf W H (fun c => good17 (W c) (H c) 4 (oA n F c)) w hlw hlf (fits17_go gb _ _ _ _ cw _ _ ch _ _ cf true w CE ED (show _ ↔ _ by simp)) (hasfar17_no _ _ cf F w hlf iF c2) ?_ ?_ ?_
        · intro c hc v a
          exact ⟨((iW.below a).at0 hc).2.2, ((iH.below a).at0 hc).2.2⟩
        · intro b c hc hb R v a r
          constructor
          · intro gd
            refine (give17_good (P := putS (fun s => eE n (4 * c + s)) (fun s => eS n (4 * c + s)) (oA n F c) (tkA (H c) (W c) (oA n F c)) R) hn hc g iF (iW.at0 hc).1 (iH.at0 hc).1 gd hF hb a r (fun s hs i hi => rfl)).mono ?_
            rintro e w' ⟨rfl, h1, h2⟩
            exact ⟨rfl, h1, _, h2⟩
          · intro gd
            exact give17_bad hn hc g iF (iW.at0 hc).1 (iH.at0 hc).1 gd hF hb a r
        · intro al
          exact nf ⟨rfl, rfl, rfl, fun c hc => (al c hc).1, fun c hc => (al c hc).2.1, hF, fun c hc => (al c hc).2.2.2⟩
      · exact toB (flows_no2 gb pw lw cw ph lh ch pf lf cf w (fits17_go gb _ _ pw lw cw ph lh ch pf lf cf true w CE ED (show _ ↔ _ by simp [c1])) (hasfar17_yes pf lf cf F w hlf iF c2))
    · exact toB (flows_no1 gb pw lw cw ph lh ch pf lf cf w (fits17_go gb _ _ pw lw cw ph lh ch pf lf cf false w CE ED (show _ ↔ _ by simpa using fun h h2 => not_and.1 (not_and.1 c1 h) h2)))
end Tr
end Go.Proofs.YtnnganbcjfkbiaaDoor

namespace Go.Proofs.YtnnganbcjfkbiaaDoor
open Go.ChangeShapes Go.WideShapes Go.ChangeAt Go.WideMaps Go.WideElems Go.RowKit Cu

theorem own : ownKnob Tryd.prog.godebug = none := by kernel_rfl
theorem gFrames : Tryd.prog.globalNamed "tarn/cube.frames" = some 2 := by kernel_rfl
theorem tFrames : (Tryd.prog.globals[2]?).map (·.type) = some 93 := by kernel_rfl
theorem door_met (os : Os) (args : Array Value) : laidMetH Tryd.prog [("tarn/cube.frames", Rows.laid_tarn_cube_frames)] ((World.doorLaid Tryd.prog 400 os).forCall (fun _ _ => 0) ⟨#[], args, []⟩).memory :=
  laidMetH_of_parts3 (fuel := 8) (laidMet_of_run' 8 (by kernel_rfl) (by kernel_rfl)) (by kernel_rfl) (by kernel_rfl)
set_option maxRecDepth 100000 in
theorem pt_data {H : Type} {enc : TypeId × Value → H} {w : World} {base fuel : Nat} {spare : Nat → Bool} {held : Bool} {cs : List Value} {x : DataW H × List MemPlace} (h : DataW.trod enc Tryd.prog w base spare held fuel 85 cs = some x)
    (a b c : Int) (e : x.1 = .agg [.lit (.int .i64 a), .lit (.int .i64 b), .lit (.int .i64 c)]) : cs = [.int .i64 a, .int .i64 b, .int .i64 c] := by
  have k3 : Tryd.prog.cellsOf 3 = 1 := by kernel_rfl
  have kp : Tryd.prog.cellsOf 85 = 3 := by kernel_rfl
  obtain ⟨xs, m, _, hx, hlen, hn, hel⟩ := DataW.trod_array Tryd.underlying85 h
  rw [hx] at e
  match xs, hn, cs, hlen.trans kp with
  | [x0, x1, x2], _, [c0, c1, c2], _ =>
    have h0 := hel 0 (by decide)
    have h1 := hel 1 (by decide)
    have h2 := hel 2 (by decide)
    simp [k3] at h0 h1 h2
    obtain ⟨n0, e0, f0, _⟩ := DataW.trod_int Tryd.underlying3 h0
    obtain ⟨n1, e1, f1, _⟩ := DataW.trod_int Tryd.underlying3 h1
    obtain ⟨n2, e2, f2, _⟩ := DataW.trod_int Tryd.underlying3 h2
    simp at e0 e1 e2
    simp [f0, f1, f2] at e
    rw [e0, e1, e2, e.1, e.2.1, e.2.2]
set_option maxRecDepth 100000 in
theorem frame_data {H : Type} {enc : TypeId × Value → H} {w : World} {base fuel : Nat} {spare : Nat → Bool} {held : Bool} {cs : List Value} {x : DataW H × List MemPlace} (h : DataW.trod enc Tryd.prog w base spare held fuel 92 cs = some x)
    (p q r : P3) (e : x.1 = .agg [.agg [.lit (.int .i64 p.1), .lit (.int .i64 p.2.1), .lit (.int .i64 p.2.2)], .agg [.lit (.int .i64 q.1), .lit (.int .i64 q.2.1), .lit (.int .i64 q.2.2)], .agg [.lit (.int .i64 r.1), .lit (.int .i64 r.2.1), .lit (.int .i64 r.2.2)]]) :
    cs = [.int .i64 p.1, .int .i64 p.2.1, .int .i64 p.2.2, .int .i64 q.1, .int .i64 q.2.1, .int .i64 q.2.2, .int .i64 r.1, .int .i64 r.2.1, .int .i64 r.2.2] := by
  have kp : Tryd.prog.cellsOf 85 = 3 := by kernel_rfl
  have kf : Tryd.prog.cellsOf 92 = 9 := by kernel_rfl
  obtain ⟨xs, m, _, hx, hlen, hn, hel⟩ := DataW.trod_struct Tryd.underlying92 h
  rw [hx] at e
  match xs, hn, cs, hlen.trans kf with
  | [x0, x1, x2], _, [c0, c1, c2, c3, c4, c5, c6, c7, c8], _ =>
    have h0 := hel 0 _ rfl
    have h1 := hel 1 _ rfl
    have h2 := hel 2 _ rfl
    simp [kp] at h0 h1 h2
    simp at e
    have e0 := pt_data h0 _ _ _ e.1
    have e1 := pt_data h1 _ _ _ e.2.1
    have e2 := pt_data h2 _ _ _ e.2.2
    simp at e0 e1 e2
    simp [e0, e1, e2]
set_option maxRecDepth 100000 in
theorem table_data {H : Type} {enc : TypeId × Value → H} {w : World} {base fuel : Nat} {spare : Nat → Bool} {held : Bool} {cs : List Value} {x : DataW H × List MemPlace} (h : DataW.trod enc Tryd.prog w base spare held fuel 93 cs = some x)
    (e : x.1 = Rows.laid_tarn_cube_frames) : ∀ f, f < 6 → (cs.drop (f * 9)).take 9 = [.int .i64 (cC f).1, .int .i64 (cC f).2.1, .int .i64 (cC f).2.2, .int .i64 (cR f).1, .int .i64 (cR f).2.1, .int .i64 (cR f).2.2, .int .i64 (cU f).1, .int .i64 (cU f).2.1, .int .i64 (cU f).2.2] := by
  have kf : Tryd.prog.cellsOf 92 = 9 := by kernel_rfl
  obtain ⟨xs, m, _, hx, hlen, hn, hel⟩ := DataW.trod_array Tryd.underlying93 h
  rw [hx] at e
  intro f hf
  have h0 := hel f hf
  rw [kf] at h0
  match xs, hn with
  | [x0, x1, x2, x3, x4, x5], _ =>
    simp only [List.map_cons, List.map_nil, Rows.laid_tarn_cube_frames, DataW.agg.injEq, List.cons.injEq] at e
    rcases six hf with rfl | rfl | rfl | rfl | rfl | rfl
    · exact frame_data h0 (cC 0) (cR 0) (cU 0) e.1
    · exact frame_data h0 (cC 1) (cR 1) (cU 1) e.2.1
    · exact frame_data h0 (cC 2) (cR 2) (cU 2) e.2.2.1
    · exact frame_data h0 (cC 3) (cR 3) (cU 3) e.2.2.2.1
    · exact frame_data h0 (cC 4) (cR 4) (cU 4) e.2.2.2.2.1
    · exact frame_data h0 (cC 5) (cR 5) (cU 5) e.2.2.2.2.2.1
/-- WHAT THE CONDITION GIVES THE WALKS -/
theorem of_laid {W : World} (h : laidMetH Tryd.prog [("tarn/cube.frames", Rows.laid_tarn_cube_frames)] W) : Fr W := by
  rw [MakeChecks.laidMetH_plain _ _ _ (by kernel_rfl)] at h
  obtain ⟨ps, ⟨g0, t0, cs0, f0, p0, q0, hg0, ht0, hv0, hd0, _⟩, _⟩ := h
  obtain rfl := Option.some.inj (gFrames.symm.trans hg0)
  obtain rfl := Option.some.inj (tFrames.symm.trans ht0)
  have T := table_data hd0 rfl
  have C := World.var?_cell hg0 hv0
  have K : ∀ f, f < 6 → ∀ k, k < 9 → W.cell? ⟨2, f * 9 + k, none⟩ = ((cs0.toList.drop (f * 9)).take 9)[k]? := by
    intro f hf k hk
    rw [C, List.getElem?_take, if_pos hk, List.getElem?_drop]
    simp
  have N : ∀ f, f < 6 → Fr9 W f := by
    intro f hf
    have K := K f hf
    rw [T f hf] at K
    exact ⟨⟨K 0 (by omega), K 1 (by omega), K 2 (by omega)⟩, ⟨K 3 (by omega), K 4 (by omega), K 5 (by omega)⟩, ⟨K 6 (by omega), K 7 (by omega), K 8 (by omega)⟩⟩
  refine ⟨?_, N⟩
  have c0 := (N 0 (by omega)).1.1
  rcases Nat.lt_or_ge 2 W.heap.size with h1 | h1
  · exact h1
  · rw [World.cell?, Array.getElem?_eq_none h1] at c0; cases c0
end Go.Proofs.YtnnganbcjfkbiaaDoor
