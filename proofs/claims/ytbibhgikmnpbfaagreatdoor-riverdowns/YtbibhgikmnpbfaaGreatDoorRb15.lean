/-
  Some of the texts of this proof, one behind the other.
-/
import Derived.ProofKit
import Derived.OpenShut
import Derived.WalkLawsBesides
import Derived.Stop.Joined
import Derived.Carry
import Derived.Lib.SmallJoins
import Derived.Deep.SlicePairs
import Derived.Deep.Slices
import Derived.Test.YtbibhgikmnpbfaaGreatDoorRb14
namespace Go.Proofs.YtbibhgikmnpbfaaGreatDoor
open Go.RowKit Tf Cu Go.Deep
attribute [local go_sem] run_bits run_from raw_feq raw_fne raw_flt raw_fgt run_neg run_store_float
namespace Rv
set_option maxRecDepth 100000 in
set_option maxHeartbeats 16000000 in
theorem rdowns_no1 (side : Int) (pb : Option Addr) (lb cb : Nat) (cell : Int) (w : World) (hl : lb ≤ 65536) (L : List Nat)
    (LV : Hid (Calls Tryz.prog 5 #[] w fun e w' => e = .returned (.bool true) ∧ Below w.heap.size w w'))
    (OC : Hid (∀ v, Ab w v → Calls Tryz.prog 12 #[.slice pb lb cb] v fun e w' => ∃ u, e = .returned u ∧ Below v.heap.size v w' ∧ OT 3 v.heap.size u (cst L) w'))
    (RO : Hid (∀ v, Ab w v → Calls Tryz.prog 13 #[.slice pb lb cb] v fun e w' => ∃ u, e = .returned u ∧ Below v.heap.size v w' ∧ OT 3 v.heap.size u (cst L) w'))
    (LB : Hid (L.length ≤ 65536 ∧ ∀ x ∈ cst L, -9223372036854775808 ≤ x ∧ x ≤ 9223372036854775807))
    (NW : Hid (∀ v, Calls Tryz.prog 7 #[.int .i64 side] v fun e w' => e = .returned (.tuple #[.pointer none, .int .i64 10]) ∧ w' = v))
    (RW : Hid (∀ v, Calls Tryz.prog 8 #[.int .i64 side] v fun e w' => e = .returned (.tuple #[.pointer none, .int .i64 10]) ∧ w' = v)) :
    Calls Tryz.prog 4 #[.int .i64 side, .slice pb lb cb, .int .i64 cell] w fun e w' => e = .returned (.bool true) ∧ Below w.heap.size w w' := by
  have d0 : decide ((lb : Int) ≤ 65536) = true := decide_eq_true (by omega)
  clear hl
  go_enter Tryz.func4, Tryz.ntmps4
  go_wp2_with fail
  refine LV.out.mono ?_
  rintro e9 v0 ⟨rfl, b0⟩
  have A0 : Hid (Ab w v0) := b0
  clear b0
  go_wp2_with fail
  refine (OC.out _ A0.out).mono ?_
  rintro e9 v1 ⟨u1, rfl, b1, o1⟩
  obtain ⟨p1, c1, rfl, i1⟩ := o1.isI LB.out.2
  have B1 : Hid (Ab v0 v1) := b1
  have I1 := hid i1
  clear b1 o1 i1
  go_wp2_with fail
  refine (RO.out _ (A0.out.trans B1.out)).mono ?_
  rintro e9 v2 ⟨u2, rfl, b2, o2⟩
  obtain ⟨p2, c2, rfl, i2⟩ := o2.isI LB.out.2
  have B2 : Hid (Ab v1 v2) := b2
  have I2 := hid i2
  clear b2 o2 i2
  rw [cst_len] at I1 I2
  rw [cst_len]
  go_wp2_with fail
  refine (numbers19_at p1 p2 L.length c1 c2 _ v2 (by have := LB.out.1; omega) (I1.out.below B2.out) I2.out).mono ?_
  rintro e9 v3 ⟨rfl, b3⟩
  have A3 : Hid (Ab w v3) := A0.out.trans (B1.out.trans (B2.out.trans b3))
  clear b3 A0 B1 B2 I1 I2
  go_wp2_with fail
  refine (NW.out _).mono ?_
  rintro e9 v9 ⟨rfl, hv9⟩
  have hv8 := hv9.symm
  subst hv8
  go_wp2_with fail
  refine (RW.out _).mono ?_
  rintro e9 v9 ⟨rfl, hv9⟩
  have hv8 := hv9.symm
  subst hv8
  go_wp2
  go_ret
  exact ⟨rfl, A3.out⟩
set_option maxRecDepth 100000 in
set_option maxHeartbeats 16000000 in
theorem rdowns_no0 (side : Int) (pb : Option Addr) (lb cb : Nat) (cell : Int) (w : World) (hl : 65536 < lb)
    (LV : Hid (Calls Tryz.prog 5 #[] w fun e w' => e = .returned (.bool true) ∧ Below w.heap.size w w'))
    (NW : Hid (∀ v, Calls Tryz.prog 7 #[.int .i64 side] v fun e w' => e = .returned (.tuple #[.pointer none, .int .i64 10]) ∧ w' = v))
    (RW : Hid (∀ v, Calls Tryz.prog 8 #[.int .i64 side] v fun e w' => e = .returned (.tuple #[.pointer none, .int .i64 10]) ∧ w' = v)) :
    Calls Tryz.prog 4 #[.int .i64 side, .slice pb lb cb, .int .i64 cell] w fun e w' => e = .returned (.bool true) ∧ Below w.heap.size w w' := by
  have d0 : decide ((lb : Int) ≤ 65536) = false := decide_eq_false (by omega)
  clear hl
  go_enter Tryz.func4, Tryz.ntmps4
  go_wp2_with fail
  refine LV.out.mono ?_
  rintro e9 v0 ⟨rfl, b0⟩
  have A0 : Hid (Ab w v0) := b0
  clear b0
  have A3 := hid A0.out
  obtain ⟨v3, hv3⟩ : ∃ v, v0 = v := ⟨_, rfl⟩
  subst hv3
  clear A0
  go_wp2_with fail
  refine (NW.out _).mono ?_
  rintro e9 v9 ⟨rfl, hv9⟩
  have hv8 := hv9.symm
  subst hv8
  go_wp2_with fail
  refine (RW.out _).mono ?_
  rintro e9 v9 ⟨rfl, hv9⟩
  have hv8 := hv9.symm
  subst hv8
  go_wp2
  go_ret
  exact ⟨rfl, A3.out⟩
set_option maxRecDepth 100000 in
set_option maxHeartbeats 16000000 in
theorem rdowns_go1 (n N : Nat) (side : Int) (pb : Option Addr) (lb cb : Nat) (cell : Int) (D : Int → Int) (w : World) (hN : N ≤ 6144) (hcell : Sh.W64 cell) (hl : lb ≤ 65536) (L : List Nat)
    (LV : Hid (Calls Tryz.prog 5 #[] w fun e w' => e = .returned (.bool true) ∧ Below w.heap.size w w'))
    (OC : Hid (∀ v, Ab w v → Calls Tryz.prog 12 #[.slice pb lb cb] v fun e w' => ∃ u, e = .returned u ∧ Below v.heap.size v w' ∧ OT 3 v.heap.size u (cst L) w'))
    (RO : Hid (∀ v, Ab w v → Calls Tryz.prog 13 #[.slice pb lb cb] v fun e w' => ∃ u, e = .returned u ∧ Below v.heap.size v w' ∧ OT 3 v.heap.size u (cst L) w'))
    (LB : Hid (L.length ≤ 65536 ∧ ∀ x ∈ cst L, -9223372036854775808 ≤ x ∧ x ≤ 9223372036854775807))
    (NW : Hid (∀ v, Ab w v → Calls Tryz.prog 7 #[.int .i64 side] v fun e w' => ∃ gb, e = .returned (.tuple #[.pointer (some ⟨gb, 0, none⟩), .int .i64 0]) ∧ Ab v w' ∧ GridOf n gb w'))
    (RW : Hid (∀ v, Ab w v → Calls Tryz.prog 8 #[.int .i64 side] v fun e w' => ∃ rb, e = .returned (.tuple #[.pointer (some ⟨rb, 0, none⟩), .int .i64 0]) ∧ Ab v w' ∧ RefOf n rb w'))
    (CE : Hid (∀ v gb, GridOf n gb v → Calls Tryz.prog 14 #[.pointer (some ⟨gb, 0, none⟩)] v fun e w' => e = .returned (.int .i64 (N : Nat)) ∧ w' = v))
    (DC : Hid (∀ v gb (x : Int), Ab w v → GridOf n gb v → Sh.W64 x → Calls Tryz.prog 15 #[.pointer (some ⟨gb, 0, none⟩), .slice pb lb cb, .int .i64 x] v fun e w' => e = .returned (.int .i64 (D x)) ∧ Below v.heap.size v w'))
    (DR : Hid (∀ v rb (x : Int), Ab w v → RefOf n rb v → Calls Tryz.prog 16 #[.pointer (some ⟨rb, 0, none⟩), .slice pb lb cb, .int .i64 x] v fun e w' => e = .returned (.int .i64 (D x)) ∧ Below v.heap.size v w'))
    (DN : Hid (∀ v, Ab w v → Calls Tryz.prog 15 #[.pointer none, .slice pb lb cb, .int .i64 cell] v fun e w' => e = .returned (.int .i64 (-1)) ∧ Below v.heap.size v w')) :
    Calls Tryz.prog 4 #[.int .i64 side, .slice pb lb cb, .int .i64 cell] w fun e w' => e = .returned (.bool true) ∧ Below w.heap.size w w' := by
  have d0 : decide ((lb : Int) ≤ 65536) = true := decide_eq_true (by omega)
  have HN := hid hN
  have HC := hid hcell
  clear hl hN hcell
  go_enter Tryz.func4, Tryz.ntmps4
  go_wp2_with fail
  refine LV.out.mono ?_
  rintro e9 v0 ⟨rfl, b0⟩
  have A0 : Hid (Ab w v0) := b0
  clear b0
  go_wp2_with fail
  refine (OC.out _ A0.out).mono ?_
  rintro e9 v1 ⟨u1, rfl, b1, o1⟩
  obtain ⟨p1, c1, rfl, i1⟩ := o1.isI LB.out.2
  have B1 : Hid (Ab v0 v1) := b1
  have I1 := hid i1
  clear b1 o1 i1
  go_wp2_with fail
  refine (RO.out _ (A0.out.trans B1.out)).mono ?_
  rintro e9 v2 ⟨u2, rfl, b2, o2⟩
  obtain ⟨p2, c2, rfl, i2⟩ := o2.isI LB.out.2
  have B2 : Hid (Ab v1 v2) := b2
  have I2 := hid i2
  clear b2 o2 i2
  rw [cst_len] at I1 I2
  rw [cst_len]
  go_wp2_with fail
  refine (numbers19_at p1 p2 L.length c1 c2 _ v2 (by have := LB.out.1; omega) (I1.out.below B2.out) I2.out).mono ?_
  rintro e9 v3 ⟨rfl, b3⟩
  have A3 : Hid (Ab w v3) := A0.out.trans (B1.out.trans (B2.out.trans b3))
  clear b3 A0 B1 B2 I1 I2
  go_wp2_with fail
  refine (NW.out _ A3.out).mono ?_
  rintro e9 v4 ⟨gb, rfl, a4, g4⟩
  have A4 : Hid (Ab w v4) := A3.out.trans a4
  have G4 := hid g4
  clear a4 g4 A3
  go_wp2_with fail
  refine (RW.out _ A4.out).mono ?_
  rintro e9 v5 ⟨rb, rfl, a5, r5⟩
  have A5 : Hid (Ab w v5) := A4.out.trans a5
  have G5 := hid (G4.out.to a5)
  have R5 := hid r5
  clear a5 r5 A4 G4
  go_wp2
  go_loopw [11] (fun iv wr => ∃ k : Nat, k ≤ N + 2 ∧ iv = .int .i64 ((k : Int) - 1) ∧ Ab v5 wr) (fun iv _ => N + 2 - (intOf iv + 1).toNat)
  case atStart => exact ⟨0, by omega, rfl, Ab.refl v5⟩
  case round =>
    obtain ⟨k, hk, rfl, ar⟩ := hrel
    have AR := hid ar
    clear ar
    obtain ⟨x, hx⟩ : ∃ x, (k : Int) - 1 = x := ⟨_, rfl⟩
    have CC := hid (CE.out wr gb (G5.out.to AR.out))
    have KX := hid hx
    rw [hx]
    have kB := HN.out
    by_cases hkn : k < N + 2
    · have HK := hid hkn
      have d1 : decide (x ≤ (N : Int)) = true := decide_eq_true (by omega)
      have d2 : decide (x ≤ 6144) = true := decide_eq_true (by omega)
      have x1 : -1 ≤ x := by omega
      have x2 : x ≤ 6144 := by omega
      have D1 := hid (DC.out wr gb x (A5.out.trans AR.out) (G5.out.to AR.out) (by unfold Sh.W64; omega))
      have D2 : Hid (∀ v, Ab wr v → Calls Tryz.prog 16 #[.pointer (some ⟨rb, 0, none⟩), .slice pb lb cb, .int .i64 x] v fun e w' => e = .returned (.int .i64 (D x)) ∧ Below v.heap.size v w') := fun v a => DR.out v rb x (A5.out.trans (AR.out.trans a)) (R5.out.to (AR.out.trans a))
      obtain ⟨d, hd⟩ : ∃ d, D x = d := ⟨_, rfl⟩
      rw [hd] at D1 D2
      have dd : (d != d) = false := by simp
      clear hd hx hkn hk kB
      go_wp2_with fail
      refine CC.out.mono ?_
      rintro e9 v9 ⟨rfl, hv9⟩
      have hv8 := hv9.symm
      subst hv8
      go_wp2_with fail
      refine D1.out.mono ?_
      rintro e9 v6 ⟨rfl, b6⟩
      have A6 : Hid (Ab wr v6) := b6
      clear b6
      go_wp2_with fail
      refine (D2.out v6 A6.out).mono ?_
      rintro e9 v7 ⟨rfl, b7⟩
      have A7 : Hid (Ab wr v7) := A6.out.trans b7
      clear b7
      go_wp2
      refine ⟨⟨k + 1, by have := HK.out; omega, ?_, AR.out.trans A7.out⟩, ?_⟩
      · have := KX.out
        congr 1
        omega
      · have := KX.out
        have := HK.out
        simp [intOf]
        omega
    · have d1 : decide (x ≤ (N : Int)) = false := decide_eq_false (by omega)
      have D1 := hid (DC.out wr gb cell (A5.out.trans AR.out) (G5.out.to AR.out) HC.out)
      have D2 : Hid (∀ v, Ab wr v → Calls Tryz.prog 16 #[.pointer (some ⟨rb, 0, none⟩), .slice pb lb cb, .int .i64 cell] v fun e w' => e = .returned (.int .i64 (D cell)) ∧ Below v.heap.size v w') := fun v a => DR.out v rb cell (A5.out.trans (AR.out.trans a)) (R5.out.to (AR.out.trans a))
      obtain ⟨d, hd⟩ : ∃ d, D cell = d := ⟨_, rfl⟩
      rw [hd] at D1 D2
      have dd : (d == d) = true := by simp
      clear hd hx hkn hk kB
      go_wp2_with fail
      refine CC.out.mono ?_
      rintro e9 v9 ⟨rfl, hv9⟩
      have hv8 := hv9.symm
      subst hv8
      go_wp2_with fail
      refine D1.out.mono ?_
      rintro e9 v6 ⟨rfl, b6⟩
      have A6 : Hid (Ab wr v6) := b6
      clear b6
      go_wp2_with fail
      refine (D2.out v6 A6.out).mono ?_
      rintro e9 v7 ⟨rfl, b7⟩
      have A7 : Hid (Ab wr v7) := A6.out.trans b7
      clear b7
      go_wp2_with fail
      refine (DN.out v7 (A5.out.trans (AR.out.trans A7.out))).mono ?_
      rintro e9 v8 ⟨rfl, b8⟩
      have A8 : Hid (Ab wr v8) := A7.out.trans b8
      clear b8
      go_wp2
      go_ret
      exact ⟨rfl, A5.out.trans (AR.out.trans A8.out)⟩
set_option maxRecDepth 100000 in
set_option maxHeartbeats 16000000 in
theorem rdowns_go0 (n N : Nat) (side : Int) (pb : Option Addr) (lb cb : Nat) (cell : Int) (D : Int → Int) (w : World) (hN : N ≤ 6144) (hcell : Sh.W64 cell) (hl : 65536 < lb)
    (LV : Hid (Calls Tryz.prog 5 #[] w fun e w' => e = .returned (.bool true) ∧ Below w.heap.size w w'))
    (NW : Hid (∀ v, Ab w v → Calls Tryz.prog 7 #[.int .i64 side] v fun e w' => ∃ gb, e = .returned (.tuple #[.pointer (some ⟨gb, 0, none⟩), .int .i64 0]) ∧ Ab v w' ∧ GridOf n gb w'))
    (RW : Hid (∀ v, Ab w v → Calls Tryz.prog 8 #[.int .i64 side] v fun e w' => ∃ rb, e = .returned (.tuple #[.pointer (some ⟨rb, 0, none⟩), .int .i64 0]) ∧ Ab v w' ∧ RefOf n rb w'))
    (CE : Hid (∀ v gb, GridOf n gb v → Calls Tryz.prog 14 #[.pointer (some ⟨gb, 0, none⟩)] v fun e w' => e = .returned (.int .i64 (N : Nat)) ∧ w' = v))
    (DC : Hid (∀ v gb (x : Int), Ab w v → GridOf n gb v → Sh.W64 x → Calls Tryz.prog 15 #[.pointer (some ⟨gb, 0, none⟩), .slice pb lb cb, .int .i64 x] v fun e w' => e = .returned (.int .i64 (D x)) ∧ Below v.heap.size v w'))
    (DR : Hid (∀ v rb (x : Int), Ab w v → RefOf n rb v → Calls Tryz.prog 16 #[.pointer (some ⟨rb, 0, none⟩), .slice pb lb cb, .int .i64 x] v fun e w' => e = .returned (.int .i64 (D x)) ∧ Below v.heap.size v w'))
    (DN : Hid (∀ v, Ab w v → Calls Tryz.prog 15 #[.pointer none, .slice pb lb cb, .int .i64 cell] v fun e w' => e = .returned (.int .i64 (-1)) ∧ Below v.heap.size v w')) :
    Calls Tryz.prog 4 #[.int .i64 side, .slice pb lb cb, .int .i64 cell] w fun e w' => e = .returned (.bool true) ∧ Below w.heap.size w w' := by
  have d0 : decide ((lb : Int) ≤ 65536) = false := decide_eq_false (by omega)
  have HN := hid hN
  have HC := hid hcell
  clear hl hN hcell
  go_enter Tryz.func4, Tryz.ntmps4
  go_wp2_with fail
  refine LV.out.mono ?_
  rintro e9 v0 ⟨rfl, b0⟩
  have A0 : Hid (Ab w v0) := b0
  clear b0
  have A3 := hid A0.out
  obtain ⟨v3, hv3⟩ : ∃ v, v0 = v := ⟨_, rfl⟩
  subst hv3
  clear A0
  go_wp2_with fail
  refine (NW.out _ A3.out).mono ?_
  rintro e9 v4 ⟨gb, rfl, a4, g4⟩
  have A4 : Hid (Ab w v4) := A3.out.trans a4
  have G4 := hid g4
  clear a4 g4 A3
  go_wp2_with fail
  refine (RW.out _ A4.out).mono ?_
  rintro e9 v5 ⟨rb, rfl, a5, r5⟩
  have A5 : Hid (Ab w v5) := A4.out.trans a5
  have G5 := hid (G4.out.to a5)
  have R5 := hid r5
  clear a5 r5 A4 G4
  go_wp2
  go_loopw [11] (fun iv wr => ∃ k : Nat, k ≤ N + 2 ∧ iv = .int .i64 ((k : Int) - 1) ∧ Ab v5 wr) (fun iv _ => N + 2 - (intOf iv + 1).toNat)
  case atStart => exact ⟨0, by omega, rfl, Ab.refl v5⟩
  case round =>
    obtain ⟨k, hk, rfl, ar⟩ := hrel
    have AR := hid ar
    clear ar
    obtain ⟨x, hx⟩ : ∃ x, (k : Int) - 1 = x := ⟨_, rfl⟩
    have CC := hid (CE.out wr gb (G5.out.to AR.out))
    have KX := hid hx
    rw [hx]
    have kB := HN.out
    by_cases hkn : k < N + 2
    · have HK := hid hkn
      have d1 : decide (x ≤ (N : Int)) = true := decide_eq_true (by omega)
      have d2 : decide (x ≤ 6144) = true := decide_eq_true (by omega)
      have x1 : -1 ≤ x := by omega
      have x2 : x ≤ 6144 := by omega
      have D1 := hid (DC.out wr gb x (A5.out.trans AR.out) (G5.out.to AR.out) (by unfold Sh.W64; omega))
      have D2 : Hid (∀ v, Ab wr v → Calls Tryz.prog 16 #[.pointer (some ⟨rb, 0, none⟩), .slice pb lb cb, .int .i64 x] v fun e w' => e = .returned (.int .i64 (D x)) ∧ Below v.heap.size v w') := fun v a => DR.out v rb x (A5.out.trans (AR.out.trans a)) (R5.out.to (AR.out.trans a))
      obtain ⟨d, hd⟩ : ∃ d, D x = d := ⟨_, rfl⟩
      rw [hd] at D1 D2
      have dd : (d != d) = false := by simp
      clear hd hx hkn hk kB
      go_wp2_with fail
      refine CC.out.mono ?_
      rintro e9 v9 ⟨rfl, hv9⟩
      have hv8 := hv9.symm
      subst hv8
      go_wp2_with fail
      refine D1.out.mono ?_
      rintro e9 v6 ⟨rfl, b6⟩
      have A6 : Hid (Ab wr v6) := b6
      clear b6
      go_wp2_with fail
      refine (D2.out v6 A6.out).mono ?_
      rintro e9 v7 ⟨rfl, b7⟩
      have A7 : Hid (Ab wr v7) := A6.out.trans b7
      clear b7
      go_wp2
      refine ⟨⟨k + 1, by have := HK.out; omega, ?_, AR.out.trans A7.out⟩, ?_⟩
      · have := KX.out
        congr 1
        omega
      · have := KX.out
        have := HK.out
        simp [intOf]
        omega
    · have d1 : decide (x ≤ (N : Int)) = false := decide_eq_false (by omega)
      have D1 := hid (DC.out wr gb cell (A5.out.trans AR.out) (G5.out.to AR.out) HC.out)
      have D2 : Hid (∀ v, Ab wr v → Calls Tryz.prog 16 #[.pointer (some ⟨rb, 0, none⟩), .slice pb lb cb, .int .i64 cell] v fun e w' => e = .returned (.int .i64 (D cell)) ∧ Below v.heap.size v w') := fun v a => DR.out v rb cell (A5.out.trans (AR.out.trans a)) (R5.out.to (AR.out.trans a))
      obtain ⟨d, hd⟩ : ∃ d, D cell = d := ⟨_, rfl⟩
      rw [hd] at D1 D2
      have dd : (d == d) = true := by simp
      clear hd hx hkn hk kB
      go_wp2_with fail
      refine CC.out.mono ?_
      rintro e9 v9 ⟨rfl, hv9⟩
      have hv8 := hv9.symm
      subst hv8
      go_wp2_with fail
      refine D1.out.mono ?_
      rintro e9 v6 ⟨rfl, b6⟩
      have A6 : Hid (Ab wr v6) := b6
      clear b6
      go_wp2_with fail
      refine (D2.out v6 A6.out).mono ?_
      rintro e9 v7 ⟨rfl, b7⟩
      have A7 : Hid (Ab wr v7) := A6.out.trans b7
      clear b7
      go_wp2_with fail
      refine (DN.out v7 (A5.out.trans (AR.out.trans A7.out))).mono ?_
      rintro e9 v8 ⟨rfl, b8⟩
      have A8 : Hid (Ab wr v8) := A7.out.trans b8
      clear b8
      go_wp2
      go_ret
      exact ⟨rfl, A5.out.trans (AR.out.trans A8.out)⟩
/-- what Down is to answer of no net -/
def DownN : Prop := ∀ (pb : Option Addr) (lb cb : Nat) (B : Nat → Nat) (cell : Int) (w : World), Sh.W64 cell → IsFl w pb lb B → Calls Tryz.prog 15 #[.pointer none, .slice pb lb cb, .int .i64 cell] w fun e w' => e = .returned (.int .i64 (-1)) ∧ Below w.heap.size w w'
/-- DOWN AND ORDER ARE THE DOCUMENT'S -/
theorem rdowns_at (DC : DownC) (OC : OrderC) (RC : RunC) (DN : DownN) (side : Int) {pb : Option Addr} {lb cb : Nat} {B : Nat → Nat} (cell : Int) (w : World) (hF : Fr w) (hcell : Sh.W64 cell) (ib : IsFl w pb lb B) :
    Calls Tryz.prog 4 #[.int .i64 side, .slice pb lb cb, .int .i64 cell] w fun e w' => e = .returned (.bool true) ∧ Below w.heap.size w w' := by
  have LV := lives19_at DC OC RC w hF
  have OO : lb ≤ 65536 → (∀ v, Ab w v → Calls Tryz.prog 12 #[.slice pb lb cb] v fun e w' => ∃ u, e = .returned u ∧ Below v.heap.size v w' ∧ OT 3 v.heap.size u (cst (ordL (kB B) lb)) w') ∧ (∀ v, Ab w v → Calls Tryz.prog 13 #[.slice pb lb cb] v fun e w' => ∃ u, e = .returned u ∧ Below v.heap.size v w' ∧ OT 3 v.heap.size u (cst (ordL (kB B) lb)) w') ∧ (ordL (kB B) lb).length ≤ 65536 ∧ ∀ x ∈ cst (ordL (kB B) lb), -9223372036854775808 ≤ x ∧ x ≤ 9223372036854775807 := fun hl => by
    refine ⟨fun v a => (OC pb lb cb B v hl (ib.below a)).mono fun e w' h => ?_, fun v a => rorder_at pb lb cb B v hl (ib.below a), by rw [ordL_len]; exact hl, fun x hx => ?_⟩
    · obtain ⟨u, rfl, b, o⟩ := h
      exact ⟨u, rfl, b, OT.ofN o⟩
    · obtain ⟨c, hc, rfl⟩ := List.mem_map.1 hx
      have := ordL_mem.1 hc
      omega
  by_cases h : 1 ≤ side ∧ side ≤ 32
  · obtain ⟨n, rfl⟩ : ∃ n : Nat, side = (n : Nat) := ⟨side.toNat, by omega⟩
    have hn : 1 ≤ n ∧ n ≤ 32 := by omega
    have NW : Hid (∀ v, Ab w v → Calls Tryz.prog 7 #[.int .i64 (n : Nat)] v fun e w' => ∃ gb, e = .returned (.tuple #[.pointer (some ⟨gb, 0, none⟩), .int .i64 0]) ∧ Ab v w' ∧ GridOf n gb w') := fun v a => (new_at n v hn (hF.to a)).mono fun e w' h => by
      obtain ⟨gb, rfl, a1, -, g⟩ := h
      exact ⟨gb, rfl, a1, g⟩
    have RW : Hid (∀ v, Ab w v → Calls Tryz.prog 8 #[.int .i64 (n : Nat)] v fun e w' => ∃ rb, e = .returned (.tuple #[.pointer (some ⟨rb, 0, none⟩), .int .i64 0]) ∧ Ab v w' ∧ RefOf n rb w') := fun v _ => (rnew_at n v hn).mono fun e w' h => by
      obtain ⟨rb, ab, es, rfl, a1, re⟩ := h
      exact ⟨rb, rfl, a1, RE.all hn.1 re⟩
    have nb : 6 * n * n ≤ 6144 := by
      have h1 : n * n ≤ 32 * 32 := Nat.mul_le_mul hn.2 hn.2
      rw [Nat.mul_assoc]
      omega
    have d1 := fun v gb (x : Int) (a : Ab w v) (g : GridOf n gb v) (hx : Sh.W64 x) => DC n gb pb lb cb B x v hn g (ib.below a) hx
    have d2 := fun v rb (x : Int) (a : Ab w v) (g : RefOf n rb v) => rdown_at n rb pb lb cb B x v hn g (ib.below a)
    have d3 := fun v (a : Ab w v) => DN pb lb cb B cell v hcell (ib.below a)
    by_cases hl : lb ≤ 65536
    · obtain ⟨o1, o2, o3⟩ := OO hl
      exact rdowns_go1 n (6 * n * n) (n : Nat) pb lb cb cell _ w nb hcell hl _ LV o1 o2 o3 NW RW (fun v gb g => gCells_at g) d1 d2 d3
    · exact rdowns_go0 n (6 * n * n) (n : Nat) pb lb cb cell _ w nb hcell (by omega) LV NW RW (fun v gb g => gCells_at g) d1 d2 d3
  · by_cases hl : lb ≤ 65536
    · obtain ⟨o1, o2, o3⟩ := OO hl
      exact rdowns_no1 side pb lb cb cell w hl _ LV o1 o2 o3 (fun v => new_no side v h) (fun v => rnew_no side v h)
    · exact rdowns_no0 side pb lb cb cell w (by omega) LV (fun v => new_no side v h) (fun v => rnew_no side v h)
end Rv
end Go.Proofs.YtbibhgikmnpbfaaGreatDoor

namespace Go.Proofs.YtbibhgikmnpbfaaGreatDoor
open Go.ChangeShapes Go.WideShapes Go.ChangeAt Go.WideMaps Go.WideElems Go.RowKit Go.Deep
namespace Sh
theorem trod_int {H : Type} {enc : TypeId × Value → H} {P : Program} {w : World} {base : Nat} {spare : Nat → Bool} {held : Bool} {t : TypeId} {fuel : Nat} {v : Value} {x : DataW H × List MemPlace} (ht : P.underlying t = some (.int .i64)) (h : DataW.trod enc P w base spare held fuel t [v] = some x) :
    ∃ b, v = .int .i64 b ∧ (-9223372036854775808 ≤ b ∧ b ≤ 9223372036854775807) := by
  obtain ⟨k, e, _, wf⟩ := DataW.trod_int ht h
  simp at e
  simp only [Lit.wf, Bool.and_eq_true, decide_eq_true_eq] at wf
  have q1 : IntKind.i64.min = -9223372036854775808 := by decide
  have q2 : IntKind.i64.max = 9223372036854775807 := by decide
  rw [q1, q2] at wf
  exact ⟨k, e, wf⟩
end Sh
end Go.Proofs.YtbibhgikmnpbfaaGreatDoor

namespace Go.Proofs.YtbibhgikmnpbfaaGreatDoor
open Go.RowKit Go.Deep
namespace Sh
theorem lit_w {x : Int} (h : (Lit.int .i64 x).wf = true) : -9223372036854775808 ≤ x ∧ x ≤ 9223372036854775807 := by
  simp only [Lit.wf, Bool.and_eq_true, decide_eq_true_eq] at h
  have q1 : IntKind.i64.min = -9223372036854775808 := by decide
  have q2 : IntKind.i64.max = 9223372036854775807 := by decide
  omega
end Sh
end Go.Proofs.YtbibhgikmnpbfaaGreatDoor

namespace Go.Proofs.YtbibhgikmnpbfaaGreatDoor
open Go.RowKit Tf Cu Go.Deep
attribute [local go_sem] run_bits run_from raw_feq raw_fne raw_flt raw_fgt run_neg run_store_float
namespace Rv
/-- how two beds stand to each other -/
def cmp3 (x y : Nat) : Int := if kb x < kb y then -1 else if kb y < kb x then 1 else 0
theorem cmp3_lt {x y : Nat} (h : kb x < kb y) : cmp3 x y = -1 := if_pos h
theorem cmp3_gt {x y : Nat} (h : kb y < kb x) : cmp3 x y = 1 := by unfold cmp3; rw [if_neg (by omega), if_pos h]
theorem cmp3_eq {x y : Nat} (h : kb x = kb y) : cmp3 x y = 0 := by unfold cmp3; rw [if_neg (by omega), if_neg (by omega)]
/-- where a cell's water runs by the sides below k -/
def dk (K nb : Nat → Nat) (c : Nat) : Nat → Int
  | 0 => -1
  | k + 1 => if K (bst K nb k) < K c then ((bst K nb k : Nat) : Int) else -1
theorem bst_next (K nb : Nat → Nat) (k : Nat) : bst K nb (k + 1) = if lt2 K (nb (k + 1)) (bst K nb k) = true then nb (k + 1) else bst K nb k := rfl
theorem dk_no {K nb : Nat → Nat} {c k : Nat} (h : dk K nb c k < 0) : dk K nb c k = -1 ∧ dk K nb c (k + 1) = if K (nb k) < K c then ((nb k : Nat) : Int) else -1 := by
  cases k with
  | zero => exact ⟨rfl, rfl⟩
  | succ k =>
    have h1 : ¬ K (bst K nb k) < K c := fun q => by
      have h2 : (if K (bst K nb k) < K c then ((bst K nb k : Nat) : Int) else -1) < 0 := h
      rw [if_pos q] at h2
      omega
    refine ⟨if_neg h1, ?_⟩
    show (if K (bst K nb (k + 1)) < K c then ((bst K nb (k + 1) : Nat) : Int) else -1) = _
    rw [bst_next]
    by_cases q : lt2 K (nb (k + 1)) (bst K nb k) = true
    · rw [if_pos q]
    · rw [if_neg q, if_neg h1, if_neg]
      intro q2
      exact q (lt2_iff.2 (.inl (by omega)))
theorem dk_yes {K nb : Nat → Nat} {c k m : Nat} (h : dk K nb c k = (m : Nat)) : (∃ s, s < k ∧ nb s = m) ∧ K m < K c ∧ dk K nb c (k + 1) = if lt2 K (nb k) m = true then ((nb k : Nat) : Int) else ((m : Nat) : Int) := by
  cases k with
  | zero => have h2 : (-1 : Int) = (m : Nat) := h; omega
  | succ k =>
    have h1 : K (bst K nb k) < K c := by
      rcases Nat.lt_or_ge (K (bst K nb k)) (K c) with q | q
      · exact q
      · have h2 : (if K (bst K nb k) < K c then ((bst K nb k : Nat) : Int) else -1) = (m : Nat) := h
        rw [if_neg (by omega)] at h2
        omega
    have h2 : bst K nb k = m := by
      have h2 : (if K (bst K nb k) < K c then ((bst K nb k : Nat) : Int) else -1) = (m : Nat) := h
      rw [if_pos h1] at h2
      omega
    obtain ⟨s, l, e⟩ := bst_in K nb k
    rw [h2] at h1 e
    refine ⟨⟨s, by omega, e.symm⟩, h1, ?_⟩
    show (if K (bst K nb (k + 1)) < K c then ((bst K nb (k + 1) : Nat) : Int) else -1) = _
    rw [bst_next, h2]
    by_cases q : lt2 K (nb (k + 1)) m = true
    · rw [if_pos q, if_pos q, if_pos]
      rcases lt2_iff.1 q with q | q <;> omega
    · rw [if_neg q, if_neg q, if_pos h1]
/-- the bed that is least so far -/
def lk (B nb : Nat → Nat) (c k : Nat) : Nat := if dk (kB B) nb c k < 0 then B c else B (dk (kB B) nb c k).toNat
set_option maxRecDepth 100000 in
set_option maxHeartbeats 16000000 in
theorem compare19_at (a b : Nat) (w : World) (ha : a < 18446744073709551616) (hb : b < 18446744073709551616) :
    Calls Tryz.prog 44 #[.float .f64 a, .float .f64 b] w fun e w' => e = .returned (.int .i64 (cmp3 a b)) ∧ w' = w := by
  obtain ⟨x, hx⟩ : ∃ x, canonB a = x := ⟨_, rfl⟩
  obtain ⟨y, hy⟩ : ∃ x, canonB b = x := ⟨_, rfl⟩
  have C1 := hid (canon_at a x w ha hx)
  have C2 := hid (canon_at b y w hb hy)
  have lx : x < 18446744073709551616 := by rw [← hx]; exact canon_lt ha
  have ly : y < 18446744073709551616 := by rw [← hy]; exact canon_lt hb
  obtain ⟨o, ho⟩ : ∃ o, orderB x y = o := ⟨_, rfl⟩
  have O := hid (ord_at x y o w lx ly ho)
  have E : Hid (cmp3 a b = o) := by
    show _ = _
    unfold cmp3 kb
    rw [hx, hy, ← ho]
    rfl
  clear ho hx hy ha hb lx ly
  go_enter Tryz.func44, Tryz.ntmps44
  go_wp2_with fail
  refine C1.out.mono ?_
  rintro e9 v9 ⟨rfl, hv9⟩
  have hv8 := hv9.symm
  subst hv8
  go_wp2_with fail
  refine C2.out.mono ?_
  rintro e9 v9 ⟨rfl, hv9⟩
  have hv8 := hv9.symm
  subst hv8
  go_wp2_with fail
  refine O.out.mono ?_
  rintro e9 v9 ⟨rfl, hv9⟩
  have hv8 := hv9.symm
  subst hv8
  go_wp2
  go_ret
  exact ⟨by rw [E.out]; rfl, rfl⟩
theorem around19 {n gb c s : Nat} {v : World} (hn : 1 ≤ n ∧ n ≤ 32) (hc : c < 6 * n * n) (hs : s < 4) (g : GridOf n gb v) : Calls Tryz.prog 78 #[.pointer (some ⟨gb, 0, none⟩), .int .i64 (c : Nat), .int .i64 (s : Nat)] v fun e w' => e = .returned (.tuple #[.int .i64 (eE n (4 * c + s) : Nat), .int .i64 (eS n (4 * c + s))]) ∧ Below v.heap.size v w' := by
  have e : gT n (24 * n * n) (c : Nat) (s : Nat) = (((eE n (4 * c + s) : Nat) : Int), eS n (4 * c + s)) := by
    have ht := t_lt hc hs
    have hm := mt_lt hn.1 ht
    rw [gT_nat, if_pos ⟨hc, hs⟩]
    unfold gN eE eS
    by_cases q : isL n (4 * c + s) = true
    · simp [q, ht]
    · simp [q, hm]
  have b : c < 6144 := by
    have h1 : n * n ≤ 32 * 32 := Nat.mul_le_mul hn.2 hn.2
    rw [Nat.mul_assoc] at hc
    omega
  have h := gAround_at (n := n) (gb := gb) (c := (c : Nat)) (s := (s : Nat)) (w := v) ⟨by omega, by omega⟩ ⟨by omega, by omega⟩ g
  rwa [e] at h
set_option maxRecDepth 100000 in
set_option maxHeartbeats 16000000 in
theorem beside_pos (gb e l s r q : Nat) (cell over : Int) (w : World)
    (AR : Hid (∀ v, Ab w v → Calls Tryz.prog 78 #[.pointer (some ⟨gb, 0, none⟩), .int .i64 cell, .int .i64 over] v fun e9 w' => e9 = .returned (.tuple #[.int .i64 (e : Nat), .int .i64 (1)]) ∧ Below v.heap.size v w'))
    (ED : Hid (∀ v, Ab w v → Calls Tryz.prog 79 #[.pointer (some ⟨gb, 0, none⟩), .int .i64 (e : Nat)] v fun e9 w' => e9 = .returned (.tuple #[.agg #[.int .i64 (l : Nat), .int .i64 (s : Nat), .int .i64 (r : Nat), .int .i64 (q : Nat)], .bool true]) ∧ Below v.heap.size v w')) :
    Calls Tryz.prog 47 #[.pointer (some ⟨gb, 0, none⟩), .int .i64 cell, .int .i64 over] w fun e9 w' => e9 = .returned (.int .i64 (r : Nat)) ∧ Below w.heap.size w w' := by
  go_enter Tryz.func47, Tryz.ntmps47
  go_wp2_with fail
  refine (AR.out _ (Ab.refl w)).mono ?_
  rintro e9 v1 ⟨rfl, b1⟩
  have A1 : Hid (Ab w v1) := b1
  clear b1
  go_wp2_with fail
  refine (ED.out _ A1.out).mono ?_
  rintro e9 v2 ⟨rfl, b2⟩
  have A2 : Hid (Ab w v2) := A1.out.trans b2
  clear b2
  have A3 : Hid (Ab w (v2.alloc (.cells #[.int .i64 0, .int .i64 0, .int .i64 0, .int .i64 0] 72))) := A2.out.trans (bl1 _ _)
  have c0 : (v2.alloc (.cells #[.int .i64 (l : Nat), .int .i64 (s : Nat), .int .i64 (r : Nat), .int .i64 (q : Nat)] 72)).cell? ⟨v2.heap.size, 0, none⟩ = some (.int .i64 (l : Nat)) := cell_of_row _ _ 0 _ _ _ (heap_alloc_new _ _)
  have c2 : (v2.alloc (.cells #[.int .i64 (l : Nat), .int .i64 (s : Nat), .int .i64 (r : Nat), .int .i64 (q : Nat)] 72)).cell? ⟨v2.heap.size, 2, none⟩ = some (.int .i64 (r : Nat)) := cell_of_row _ _ 2 _ _ _ (heap_alloc_new _ _)
  go_wp2
  go_ret
  exact ⟨rfl, A2.out.trans (bl1 _ _)⟩
set_option maxRecDepth 100000 in
set_option maxHeartbeats 16000000 in
theorem beside_neg (gb e l s r q : Nat) (cell over : Int) (w : World)
    (AR : Hid (∀ v, Ab w v → Calls Tryz.prog 78 #[.pointer (some ⟨gb, 0, none⟩), .int .i64 cell, .int .i64 over] v fun e9 w' => e9 = .returned (.tuple #[.int .i64 (e : Nat), .int .i64 (-1)]) ∧ Below v.heap.size v w'))
    (ED : Hid (∀ v, Ab w v → Calls Tryz.prog 79 #[.pointer (some ⟨gb, 0, none⟩), .int .i64 (e : Nat)] v fun e9 w' => e9 = .returned (.tuple #[.agg #[.int .i64 (l : Nat), .int .i64 (s : Nat), .int .i64 (r : Nat), .int .i64 (q : Nat)], .bool true]) ∧ Below v.heap.size v w')) :
    Calls Tryz.prog 47 #[.pointer (some ⟨gb, 0, none⟩), .int .i64 cell, .int .i64 over] w fun e9 w' => e9 = .returned (.int .i64 (l : Nat)) ∧ Below w.heap.size w w' := by
  go_enter Tryz.func47, Tryz.ntmps47
  go_wp2_with fail
  refine (AR.out _ (Ab.refl w)).mono ?_
  rintro e9 v1 ⟨rfl, b1⟩
  have A1 : Hid (Ab w v1) := b1
  clear b1
  go_wp2_with fail
  refine (ED.out _ A1.out).mono ?_
  rintro e9 v2 ⟨rfl, b2⟩
  have A2 : Hid (Ab w v2) := A1.out.trans b2
  clear b2
  have A3 : Hid (Ab w (v2.alloc (.cells #[.int .i64 0, .int .i64 0, .int .i64 0, .int .i64 0] 72))) := A2.out.trans (bl1 _ _)
  have c0 : (v2.alloc (.cells #[.int .i64 (l : Nat), .int .i64 (s : Nat), .int .i64 (r : Nat), .int .i64 (q : Nat)] 72)).cell? ⟨v2.heap.size, 0, none⟩ = some (.int .i64 (l : Nat)) := cell_of_row _ _ 0 _ _ _ (heap_alloc_new _ _)
  have c2 : (v2.alloc (.cells #[.int .i64 (l : Nat), .int .i64 (s : Nat), .int .i64 (r : Nat), .int .i64 (q : Nat)] 72)).cell? ⟨v2.heap.size, 2, none⟩ = some (.int .i64 (r : Nat)) := cell_of_row _ _ 2 _ _ _ (heap_alloc_new _ _)
  go_wp2
  go_ret
  exact ⟨rfl, A2.out.trans (bl1 _ _)⟩
/-- the cell over a side -/
theorem beside19_at (n gb c s : Nat) (w : World) (hn : 1 ≤ n ∧ n ≤ 32) (hc : c < 6 * n * n) (hs : s < 4) (g : GridOf n gb w) :
    Calls Tryz.prog 47 #[.pointer (some ⟨gb, 0, none⟩), .int .i64 (c : Nat), .int .i64 (s : Nat)] w fun e9 w' => e9 = .returned (.int .i64 (bsC n c s : Nat)) ∧ Below w.heap.size w w' := by
  have ht : 4 * c + s < 24 * n * n := t_lt hc hs
  have hm := mt_lt hn.1 ht
  have e1 : (4 * c + s) / 4 = c := by omega
  have e2 : (4 * c + s) % 4 = s := by omega
  have ar := fun v (a : Ab w v) => around19 (v := v) hn hc hs (g.to a)
  by_cases q : isL n (4 * c + s) = true
  · have ee : eE n (4 * c + s) = eN n (4 * c + s) := by unfold eE; rw [if_pos q]
    have es : eS n (4 * c + s) = 1 := by unfold eS; rw [if_pos q]
    rw [ee, es] at ar
    have ed := fun v (a : Ab w v) => gEdge_ok (w := v) hn ht q (g.to a)
    rw [e1, e2] at ed
    exact beside_pos gb _ _ _ _ _ _ _ w ar ed
  · have ee : eE n (4 * c + s) = eN n (mt n (4 * c + s)) := by unfold eE; rw [if_neg q]
    have es : eS n (4 * c + s) = -1 := by unfold eS; rw [if_neg q]
    rw [ee, es] at ar
    have q2 : isL n (mt n (4 * c + s)) = true := by rw [isL_mt hn.1 ht]; simpa using q
    have ed := fun v (a : Ab w v) => gEdge_ok (w := v) hn hm q2 (g.to a)
    have d := (mt_dec hn.1 ht).1
    rw [e1, e2] at d
    rw [d] at ed
    exact beside_neg gb _ _ _ _ _ _ _ w ar ed
set_option maxRecDepth 100000 in
set_option maxHeartbeats 16000000 in
theorem down_len (n gb : Nat) (pb : Option Addr) (lb cb : Nat) (cell : Int) (w : World) (g : GridOf n gb w) (hl : lb ≠ 6 * n * n) :
    Calls Tryz.prog 15 #[.pointer (some ⟨gb, 0, none⟩), .slice pb lb cb, .int .i64 cell] w fun e w' => e = .returned (.int .i64 (-1)) ∧ Below w.heap.size w w' := by
  have CC := hid (gCells_at g)
  generalize 6 * n * n = N at *
  have e1 : ((lb : Int) != (N : Int)) = true := by simp; omega
  clear hl g
  go_enter Tryz.func15, Tryz.ntmps15
  go_wp2_with fail
  refine CC.out.mono ?_
  rintro e9 v9 ⟨rfl, hv9⟩
  have hv8 := hv9.symm
  subst hv8
  go_wp2
  go_ret
  exact ⟨rfl, Below.refl _ _⟩
set_option maxRecDepth 100000 in
set_option maxHeartbeats 16000000 in
theorem down_out (n gb : Nat) (pb : Option Addr) (lb cb : Nat) (cell : Int) (w : World) (g : GridOf n gb w) (hl : lb = 6 * n * n) (hc : ¬ (0 ≤ cell ∧ cell < (lb : Nat))) :
    Calls Tryz.prog 15 #[.pointer (some ⟨gb, 0, none⟩), .slice pb lb cb, .int .i64 cell] w fun e w' => e = .returned (.int .i64 (-1)) ∧ Below w.heap.size w w' := by
  have CC := hid (gCells_at g)
  rw [← hl] at CC
  have e1 : ((lb : Int) != (lb : Int)) = false := by simp
  clear hl g
  by_cases c0 : cell < 0
  · have e2 : decide (cell < 0) = true := decide_eq_true c0
    clear hc c0
    go_enter Tryz.func15, Tryz.ntmps15
    go_wp2_with fail
    refine CC.out.mono ?_
    rintro e9 v9 ⟨rfl, hv9⟩
    have hv8 := hv9.symm
    subst hv8
    go_wp2
    go_ret
    exact ⟨rfl, Below.refl _ _⟩
  · have e2 : decide (cell < 0) = false := decide_eq_false c0
    have e3 : decide ((lb : Int) ≤ cell) = true := decide_eq_true (by omega)
    clear hc c0
    go_enter Tryz.func15, Tryz.ntmps15
    go_wp2_with fail
    refine CC.out.mono ?_
    rintro e9 v9 ⟨rfl, hv9⟩
    have hv8 := hv9.symm
    subst hv8
    go_wp2
    go_ret
    exact ⟨rfl, Below.refl _ _⟩
set_option maxRecDepth 100000 in
set_option maxHeartbeats 16000000 in
theorem down_go (N gb : Nat) (qb ob : Nat) (cb : Nat) (B : Nat → Nat) (nb : Nat → Nat) (c : Nat) (w : World) (hN : N ≤ 6144) (hc : c < N) (IB : Hid (IsFl w (some ⟨qb, ob, none⟩) N B))
    (CC : Hid (Calls Tryz.prog 14 #[.pointer (some ⟨gb, 0, none⟩)] w fun e w' => e = .returned (.int .i64 (N : Nat)) ∧ w' = w))
    (BS : Hid (∀ v s, Ab w v → s < 4 → Calls Tryz.prog 47 #[.pointer (some ⟨gb, 0, none⟩), .int .i64 (c : Nat), .int .i64 (s : Nat)] v fun e w' => e = .returned (.int .i64 (nb s : Nat)) ∧ Below v.heap.size v w'))
    (NL : Hid (∀ s, s < 4 → nb s < N)) :
    Calls Tryz.prog 15 #[.pointer (some ⟨gb, 0, none⟩), .slice (some ⟨qb, ob, none⟩) N cb, .int .i64 (c : Nat)] w fun e w' => e = .returned (.int .i64 (dnI (kB B) nb c)) ∧ Below w.heap.size w w' := by
  have e1 : ((N : Int) != (N : Int)) = false := by simp
  have e2 : decide ((c : Int) < 0) = false := decide_eq_false (by omega)
  have e3 : decide ((N : Int) ≤ (c : Int)) = false := decide_eq_false (by omega)
  have e4 : decide (N ≤ c) = false := decide_eq_false (by omega)
  have HN := hid hN
  have HC := hid hc
  have cI : (c : Int) < N := by omega
  have cB : (c : Int) ≤ 6144 := by omega
  obtain ⟨xc, hxc⟩ : ∃ x, B c = x := ⟨_, rfl⟩
  have XCC := hid hxc
  have XC0 : Hid (∀ v, Ab w v → v.cell? ⟨qb, ob + c, none⟩ = some (.float .f64 xc)) := fun v a => by rw [← hxc]; exact ((IB.out.below a).at0 hc).2.2
  clear hN hc hxc
  go_enter Tryz.func15, Tryz.ntmps15
  go_wp2_with fail
  refine CC.out.mono ?_
  rintro e9 v9 ⟨rfl, hv9⟩
  have hv8 := hv9.symm
  subst hv8
  go_upto_region 3 with fail
  obtain ⟨UU, E, hF1, hF2⟩ := cls w
  have HU := hid hF2
  have HU1 := hid hF1
  have y1 : ∀ u, (E u).cell? ⟨qb, ob + c, none⟩ = some (.float .f64 xc) := fun u => XC0.out _ (hF1 u)
  have DD0 := HU.out _ (Ab.refl w).drew
  clear hF1 hF2
  refine region_cls E (by kernel_rfl) (by kernel_rfl) DD0 ?_
  repeat (go_big_quiet_step (with_reducible rfl))
  refine wpQuiet_nil ?_
  intro v0 hwz
  obtain ⟨u0, hu⟩ := hwz
  have A0 : Hid (Ab w v0) := by rw [hu]; exact HU1.out u0
  clear hu u0
  clear HU HU1 DD0 y1
  clear E UU
  go_wp2
  go_loopw [7, 8, 35] (fun bv lv iv wr => ∃ k : Nat, k ≤ 4 ∧ iv = .int .i64 (k : Nat) ∧ bv = .int .i64 (dk (kB B) nb c k) ∧ lv = .float .f64 (lk B nb c k) ∧ Ab w wr) (fun _ _ iv _ => 4 - (intOf iv).toNat)
  case atStart => exact ⟨0, by omega, rfl, rfl, by rw [← XCC.out]; rfl, A0.out⟩
  case round =>
    obtain ⟨k, hk, rfl, rfl, rfl, ar⟩ := hrel
    have AR := hid ar
    clear ar
    by_cases hk4 : k < 4
    · have HK := hid hk4
      have kI : (k : Int) < 4 := by omega
      obtain ⟨cc, hcc⟩ : ∃ x, nb k = x := ⟨_, rfl⟩
      have ccl := NL.out k hk4
      rw [hcc] at ccl
      have HCC := hid hcc
      have CL := hid ccl
      have BB := hid (BS.out wr k AR.out hk4)
      rw [hcc] at BB
      obtain ⟨x, hx⟩ : ∃ x, B cc = x := ⟨_, rfl⟩
      have XC : Hid (∀ v, Ab w v → v.cell? ⟨qb, ob + cc, none⟩ = some (.float .f64 x)) := fun v a => by rw [← hx]; exact ((IB.out.below a).at0 ccl).2.2
      have xl : x < 18446744073709551616 := by rw [← hx]; exact (IB.out cc ccl).1
      have HX := hid hx
      have ccI : (cc : Int) < N := by omega
      have ccB : (cc : Int) ≤ 6144 := by have := HN.out; omega
      by_cases q0 : dk (kB B) nb c k < 0
      · obtain ⟨g1, g2⟩ := dk_no q0
        have el : lk B nb c k = xc := by unfold lk; rw [if_pos q0]; exact XCC.out
        have DN : Hid (dk (kB B) nb c (k + 1) = if kb x < kb xc then ((cc : Nat) : Int) else -1) := by
          show _ = _
          rw [g2, hcc]
          unfold kB
          rw [hx, XCC.out]
        rw [g1, el]
        have yl : xc < 18446744073709551616 := by rw [← XCC.out]; exact (IB.out c HC.out).1
        have CM := hid (fun v => compare19_at x xc v xl yl)
        have b0 : decide ((cc : Int) < -1) = false := decide_eq_false (by omega)
        clear hcc hx ccl xl yl q0 g1 g2 el hk hk4
        by_cases d1 : kb x < kb xc
        · have DQ : Hid (dk (kB B) nb c (k + 1) = ((cc : Nat) : Int)) := by show _ = _; rw [DN.out, if_pos d1]
          have LQ : Hid (lk B nb c (k + 1) = x) := by show _ = _; unfold lk; rw [DQ.out, if_neg (by omega), Int.toNat_natCast]; exact HX.out
          rw [cmp3_lt d1] at CM
          clear d1
          go_wp2_with fail
          refine BB.out.mono ?_
          rintro e9 v1 ⟨rfl, b1⟩
          have A1 : Hid (Ab w v1) := AR.out.trans b1
          clear b1
          have z1 := XC.out _ A1.out
          go_wp2_with fail
          refine (CM.out _).mono ?_
          rintro e9 v9 ⟨rfl, hv9⟩
          have hv8 := hv9.symm
          subst hv8
          clear z1
          go_upto_region 10 with fail
          obtain ⟨UU, E, hF1, hF2⟩ := cls v1
          have HU := hid hF2
          have HU1 := hid hF1
          have y1 : ∀ u, (E u).cell? ⟨qb, ob + cc, none⟩ = some (.float .f64 x) := fun u => XC.out _ (A1.out.trans (hF1 u))
          have DD0 := HU.out _ (Ab.refl v1).drew
          clear hF1 hF2
          refine region_cls E (by kernel_rfl) (by kernel_rfl) DD0 ?_
          repeat (go_big_quiet_step (with_reducible rfl))
          refine wpQuiet_nil ?_
          intro v2 hwz
          obtain ⟨u0, hu⟩ := hwz
          have A2 : Hid (Ab v1 v2) := by rw [hu]; exact HU1.out u0
          clear hu u0
          clear HU HU1 DD0 y1
          clear E UU
          go_wp2
          exact ⟨⟨k + 1, by have := HK.out; omega, by simp, by rw [DQ.out], by rw [LQ.out], A1.out.trans A2.out⟩, by have := HK.out; simp [intOf]; omega⟩
        · have DQ : Hid (dk (kB B) nb c (k + 1) = -1) := by show _ = _; rw [DN.out, if_neg d1]
          have LQ : Hid (lk B nb c (k + 1) = xc) := by show _ = _; unfold lk; rw [DQ.out, if_pos (by decide)]; exact XCC.out
          by_cases d2 : kb xc < kb x
          · rw [cmp3_gt d2] at CM
            clear d1 d2
            go_wp2_with fail
            refine BB.out.mono ?_
            rintro e9 v1 ⟨rfl, b1⟩
            have A1 : Hid (Ab w v1) := AR.out.trans b1
            clear b1
            have z1 := XC.out _ A1.out
            go_wp2_with fail
            refine (CM.out _).mono ?_
            rintro e9 v9 ⟨rfl, hv9⟩
            have hv8 := hv9.symm
            subst hv8
            clear z1
            go_wp2
            exact ⟨⟨k + 1, by have := HK.out; omega, by simp, by rw [DQ.out], by rw [LQ.out], A1.out⟩, by have := HK.out; simp [intOf]; omega⟩
          · rw [cmp3_eq (show kb x = kb xc by omega)] at CM
            clear d1 d2
            go_wp2_with fail
            refine BB.out.mono ?_
            rintro e9 v1 ⟨rfl, b1⟩
            have A1 : Hid (Ab w v1) := AR.out.trans b1
            clear b1
            have z1 := XC.out _ A1.out
            go_wp2_with fail
            refine (CM.out _).mono ?_
            rintro e9 v9 ⟨rfl, hv9⟩
            have hv8 := hv9.symm
            subst hv8
            clear z1
            go_wp2
            exact ⟨⟨k + 1, by have := HK.out; omega, by simp, by rw [DQ.out], by rw [LQ.out], A1.out⟩, by have := HK.out; simp [intOf]; omega⟩
      · obtain ⟨m, hm⟩ : ∃ m : Nat, dk (kB B) nb c k = (m : Nat) := ⟨(dk (kB B) nb c k).toNat, by omega⟩
        obtain ⟨⟨s, s1, s2⟩, -, g3⟩ := dk_yes hm
        have ml : m < N := by rw [← s2]; exact NL.out s (by omega)
        obtain ⟨y, hy⟩ : ∃ x, B m = x := ⟨_, rfl⟩
        have el : lk B nb c k = y := by unfold lk; rw [if_neg q0, hm, Int.toNat_natCast]; exact hy
        have LT : Hid (lt2 (kB B) cc m = (decide (kb x < kb y) || (decide (kb x = kb y) && decide (cc < m)))) := by show lt2 _ _ _ = _; unfold lt2 kB; rw [hx, hy]
        have DN : Hid (dk (kB B) nb c (k + 1) = if lt2 (kB B) cc m = true then ((cc : Nat) : Int) else ((m : Nat) : Int)) := by
          show _ = _
          rw [g3, hcc]
        have HY := hid hy
        rw [hm, el]
        have yl : y < 18446744073709551616 := by rw [← hy]; exact (IB.out m ml).1
        have CM := hid (fun v => compare19_at x y v xl yl)
        have mI : (m : Int) < N := by omega
        have mB : (m : Int) ≤ 6144 := by have := HN.out; omega
        have TK : Hid (lt2 (kB B) cc m = true → dk (kB B) nb c (k + 1) = ((cc : Nat) : Int) ∧ lk B nb c (k + 1) = x) := fun h => by
          have e : dk (kB B) nb c (k + 1) = ((cc : Nat) : Int) := by rw [DN.out, if_pos h]
          exact ⟨e, by unfold lk; rw [e, if_neg (by omega), Int.toNat_natCast]; exact HX.out⟩
        have LV : Hid (lt2 (kB B) cc m = false → dk (kB B) nb c (k + 1) = ((m : Nat) : Int) ∧ lk B nb c (k + 1) = y) := fun h => by
          have e : dk (kB B) nb c (k + 1) = ((m : Nat) : Int) := by rw [DN.out, if_neg (by rw [h]; decide)]
          exact ⟨e, by unfold lk; rw [e, if_neg (by omega), Int.toNat_natCast]; exact HY.out⟩
        clear hcc hx hy ccl xl yl q0 g3 el hk hk4 s1 s2 ml hm DN
        by_cases d1 : kb x < kb y
        · have DQ : Hid (dk (kB B) nb c (k + 1) = ((cc : Nat) : Int)) := (TK.out (LT.out.trans (by rw [decide_eq_true d1]; rfl))).1
          have LQ : Hid (lk B nb c (k + 1) = x) := (TK.out (LT.out.trans (by rw [decide_eq_true d1]; rfl))).2
          rw [cmp3_lt d1] at CM
          clear d1 LT TK LV
          go_wp2_with fail
          refine BB.out.mono ?_
          rintro e9 v1 ⟨rfl, b1⟩
          have A1 : Hid (Ab w v1) := AR.out.trans b1
          clear b1
          have z1 := XC.out _ A1.out
          go_wp2_with fail
          refine (CM.out _).mono ?_
          rintro e9 v9 ⟨rfl, hv9⟩
          have hv8 := hv9.symm
          subst hv8
          clear z1
          go_upto_region 10 with fail
          obtain ⟨UU, E, hF1, hF2⟩ := cls v1
          have HU := hid hF2
          have HU1 := hid hF1
          have y1 : ∀ u, (E u).cell? ⟨qb, ob + cc, none⟩ = some (.float .f64 x) := fun u => XC.out _ (A1.out.trans (hF1 u))
          have DD0 := HU.out _ (Ab.refl v1).drew
          clear hF1 hF2
          refine region_cls E (by kernel_rfl) (by kernel_rfl) DD0 ?_
          repeat (go_big_quiet_step (with_reducible rfl))
          refine wpQuiet_nil ?_
          intro v2 hwz
          obtain ⟨u0, hu⟩ := hwz
          have A2 : Hid (Ab v1 v2) := by rw [hu]; exact HU1.out u0
          clear hu u0
          clear HU HU1 DD0 y1
          clear E UU
          go_wp2
          exact ⟨⟨k + 1, by have := HK.out; omega, by simp, by rw [DQ.out], by rw [LQ.out], A1.out.trans A2.out⟩, by have := HK.out; simp [intOf]; omega⟩
        · by_cases d2 : kb y < kb x
          · have lf : lt2 (kB B) cc m = false := LT.out.trans (by rw [decide_eq_false d1, decide_eq_false (show ¬ kb x = kb y by omega)]; rfl)
            have DQ := hid (LV.out lf).1
            have LQ := hid (LV.out lf).2
            rw [cmp3_gt d2] at CM
            clear d1 d2 LT TK LV lf
            go_wp2_with fail
            refine BB.out.mono ?_
            rintro e9 v1 ⟨rfl, b1⟩
            have A1 : Hid (Ab w v1) := AR.out.trans b1
            clear b1
            have z1 := XC.out _ A1.out
            go_wp2_with fail
            refine (CM.out _).mono ?_
            rintro e9 v9 ⟨rfl, hv9⟩
            have hv8 := hv9.symm
            subst hv8
            clear z1
            go_wp2
            exact ⟨⟨k + 1, by have := HK.out; omega, by simp, by rw [DQ.out], by rw [LQ.out], A1.out⟩, by have := HK.out; simp [intOf]; omega⟩
          · have ke : kb x = kb y := by omega
            rw [cmp3_eq ke] at CM
            by_cases d3 : cc < m
            · have d4 : decide ((cc : Int) < (m : Int)) = true := decide_eq_true (by omega)
              have d5 : decide (cc < m) = true := decide_eq_true d3
              have lf : lt2 (kB B) cc m = true := LT.out.trans (by rw [d5, decide_eq_true ke, Bool.and_true, Bool.or_true])
              have DQ := hid (TK.out lf).1
              have LQ := hid (TK.out lf).2
              clear d1 d2 d3 LT TK LV lf ke
              go_wp2_with fail
              refine BB.out.mono ?_
              rintro e9 v1 ⟨rfl, b1⟩
              have A1 : Hid (Ab w v1) := AR.out.trans b1
              clear b1
              have z1 := XC.out _ A1.out
              go_wp2_with fail
              refine (CM.out _).mono ?_
              rintro e9 v9 ⟨rfl, hv9⟩
              have hv8 := hv9.symm
              subst hv8
              clear z1
              go_upto_region 10 with fail
              obtain ⟨UU, E, hF1, hF2⟩ := cls v1
              have HU := hid hF2
              have HU1 := hid hF1
              have y1 : ∀ u, (E u).cell? ⟨qb, ob + cc, none⟩ = some (.float .f64 x) := fun u => XC.out _ (A1.out.trans (hF1 u))
              have DD0 := HU.out _ (Ab.refl v1).drew
              clear hF1 hF2
              refine region_cls E (by kernel_rfl) (by kernel_rfl) DD0 ?_
              repeat (go_big_quiet_step (with_reducible rfl))
              refine wpQuiet_nil ?_
              intro v2 hwz
              obtain ⟨u0, hu⟩ := hwz
              have A2 : Hid (Ab v1 v2) := by rw [hu]; exact HU1.out u0
              clear hu u0
              clear HU HU1 DD0 y1
              clear E UU
              go_wp2
              exact ⟨⟨k + 1, by have := HK.out; omega, by simp, by rw [DQ.out], by rw [LQ.out], A1.out.trans A2.out⟩, by have := HK.out; simp [intOf]; omega⟩
            · have d4 : decide ((cc : Int) < (m : Int)) = false := decide_eq_false (by omega)
              have d5 : decide (cc < m) = false := decide_eq_false d3
              have lf : lt2 (kB B) cc m = false := LT.out.trans (by rw [d5, decide_eq_false d1]; simp)
              have DQ := hid (LV.out lf).1
              have LQ := hid (LV.out lf).2
              clear d1 d2 d3 LT TK LV lf ke
              go_wp2_with fail
              refine BB.out.mono ?_
              rintro e9 v1 ⟨rfl, b1⟩
              have A1 : Hid (Ab w v1) := AR.out.trans b1
              clear b1
              have z1 := XC.out _ A1.out
              go_wp2_with fail
              refine (CM.out _).mono ?_
              rintro e9 v9 ⟨rfl, hv9⟩
              have hv8 := hv9.symm
              subst hv8
              clear z1
              go_wp2
              exact ⟨⟨k + 1, by have := HK.out; omega, by simp, by rw [DQ.out], by rw [LQ.out], A1.out⟩, by have := HK.out; simp [intOf]; omega⟩
    · have k4 : k = 4 := by omega
      subst k4
      go_wp2
      go_ret
      exact ⟨rfl, AR.out⟩
/-- WHAT Down ANSWERS -/
theorem downC : DownC := fun n gb pb lb cb B cell w hn g ib hw => by
  by_cases hl : lb = 6 * n * n
  · by_cases hc : 0 ≤ cell ∧ cell < (lb : Nat)
    · obtain ⟨c, rfl⟩ : ∃ c : Nat, cell = (c : Nat) := ⟨cell.toNat, by omega⟩
      have hc2 : c < lb := by omega
      rw [if_pos ⟨hl, hc.1, by rw [← hl]; exact hc.2⟩, Int.toNat_natCast]
      obtain ⟨qb, ob, rfl⟩ := ib.some0 (show 0 < lb by omega)
      have nb : lb ≤ 6144 := by
        have h1 : n * n ≤ 32 * 32 := Nat.mul_le_mul hn.2 hn.2
        rw [hl, Nat.mul_assoc]
        omega
      have cc := gCells_at g
      rw [← hl] at cc
      exact down_go lb gb qb ob cb B (fun s => bsC n c s) c w nb hc2 ib cc (fun v s a hs => beside19_at n gb c s v hn (by omega) hs (g.to a)) (fun s hs => by rw [hl]; exact bsC_lt hn.1 (by omega) hs)
    · rw [if_neg (by rw [← hl]; exact fun h => hc h.2)]
      exact down_out n gb pb lb cb cell w g hl hc
  · rw [if_neg (fun h => hl h.1)]
    exact down_len n gb pb lb cb cell w g hl
end Rv
end Go.Proofs.YtbibhgikmnpbfaaGreatDoor

namespace Go.Proofs.YtbibhgikmnpbfaaGreatDoor
open Go.RowKit Tf
attribute [local go_sem] run_bits run_from raw_feq raw_fne raw_flt raw_fgt run_neg
theorem isC_eq {r c : Nat} (h : IsC r c) (c0 : 0 < c) (c1 : c ≤ 9218868437227405312) : r = c := by
  have e := h.2
  unfold canonB at e
  split at e
  · unfold quiet at e; omega
  · split at e
    · omega
    · exact e
theorem depth_no (n a : Int) (w : World) (h : n < 1 ∨ a < 1) :
    Calls Tryz.prog 52 #[.int .i64 n, .int .i64 a] w fun e w' => e = .returned (.float .f64 0) ∧ w' = w := by
  by_cases c : n < 1
  · go_enter Tryz.func52, Tryz.ntmps52
    go_wp2
    go_ret
    exact ⟨rfl, rfl⟩
  · have d : a < 1 := by omega
    clear h
    go_enter Tryz.func52, Tryz.ntmps52
    go_wp2
    go_ret
    exact ⟨rfl, rfl⟩
theorem depth_yes (n a : Int) (w : World) (h1 : 1 ≤ n) (h2 : 1 ≤ a) (n2 : n ≤ 9223372036854775807) (a2 : a ≤ 9223372036854775807) :
    Calls Tryz.prog 52 #[.int .i64 n, .int .i64 a] w fun e w' => e = .returned (.float .f64 (dpB n a)) ∧ ∃ k, w' = w.drewN k := by
  obtain ⟨r, k, hr, hc⟩ := div_any (P := Tryz.prog) w (fw n) (fw a)
  have e := isC_eq hc (by rw [← dp_of h1 h2]; have := dp_in h1 h2 n2 a2; omega) (by rw [← dp_of h1 h2]; have := dp_in h1 h2 n2 a2; omega)
  rw [dp_of h1 h2, ← e]
  clear e hc
  have F1 := hid (fromInt_any n w)
  have F2 := hid (fromInt_any a w)
  rw [show rn false (n * one) = fw n from rfl] at F1
  rw [show rn false (a * one) = fw a from rfl] at F2
  generalize fw n = x at *
  generalize fw a = y at *
  go_enter Tryz.func52, Tryz.ntmps52
  go_wp2_with fail
  refine F1.out.mono ?_
  rintro e w' ⟨rfl, rfl⟩
  go_wp2_with fail
  refine F2.out.mono ?_
  rintro e w' ⟨rfl, rfl⟩
  go_wp2
  go_ret
  exact ⟨rfl, k, rfl⟩
theorem depth_at (n a : Int) (w : World) (n2 : n ≤ 9223372036854775807) (a2 : a ≤ 9223372036854775807) :
    Calls Tryz.prog 52 #[.int .i64 n, .int .i64 a] w fun e w' => e = .returned (.float .f64 (dpB n a)) ∧ ∃ k, w' = w.drewN k := by
  by_cases c : n < 1 ∨ a < 1
  · rw [dp_zero c]
    exact (depth_no n a w c).mono fun _ _ h => ⟨h.1, 0, h.2⟩
  · exact depth_yes n a w (by omega) (by omega) n2 a2
end Go.Proofs.YtbibhgikmnpbfaaGreatDoor
