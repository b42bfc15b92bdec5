/-
  Some of the texts of this proof, one behind the other.
-/
import Derived.Deep.QuietTactic
import Derived.Test.YtdigecacmibkpaaGreatDoorSa10
namespace Go.Proofs.YtdigecacmibkpaaGreatDoor
open Go.RowKit Tf Cu Go.Deep
attribute [local go_sem] run_bits run_from raw_feq raw_fne raw_flt raw_fgt run_neg run_store_float
namespace Ss
/-- the four lengths, as Check looks at them -/
def szN (N lb lw lt ls : Nat) (k : Nat) : Int := if k = 0 then (lb : Int) else if k = 1 then (lw : Int) else if k = 2 then (lt : Int) else (ls : Int) - N
theorem chN_size {N lb lw lt ls : Nat} {B : Nat → Nat} {W T : Nat → Int} {S : Nat → Nat} {sky st : Int} {k : Nat} (hk : k < 4) (h : ∀ i, i < k → szN N lb lw lt ls i = N) (hne : szN N lb lw lt ls k ≠ N) : chN N lb lw lt ls B W T S sky st = (((k : Nat) : Int), 12) := by
  unfold chN
  have h0 := h 0
  have h1 := h 1
  have h2 := h 2
  unfold szN at h0 h1 h2 hne
  simp only [if_true, if_neg (show ¬ (1 : Nat) = 0 by omega), if_neg (show ¬ (2 : Nat) = 0 by omega), if_neg (show ¬ (2 : Nat) = 1 by omega)] at h0 h1 h2
  match k, hk with
  | 0, _ =>
    rw [if_pos rfl] at hne
    rw [if_pos (by omega)]
    rfl
  | 1, _ =>
    rw [if_neg (by omega), if_pos rfl] at hne
    have := h0 (by omega)
    rw [if_neg (by omega), if_pos (by omega)]
    rfl
  | 2, _ =>
    rw [if_neg (by omega), if_neg (by omega), if_pos rfl] at hne
    have := h0 (by omega)
    have := h1 (by omega)
    rw [if_neg (by omega), if_neg (by omega), if_pos (by omega)]
    rfl
  | 3, _ =>
    rw [if_neg (by omega), if_neg (by omega), if_neg (by omega)] at hne
    have := h0 (by omega)
    have := h1 (by omega)
    have := h2 (by omega)
    rw [if_neg (by omega), if_neg (by omega), if_neg (by omega), if_pos (by omega)]
    rfl
theorem szN_all {N lb lw lt ls : Nat} (h : ∀ i, i < 4 → szN N lb lw lt ls i = N) : lb = N ∧ lw = N ∧ lt = N ∧ ls = 2 * N := by
  have h0 := h 0 (by omega)
  have h1 := h 1 (by omega)
  have h2 := h 2 (by omega)
  have h3 := h 3 (by omega)
  unfold szN at h0 h1 h2 h3
  simp only [if_true, if_neg (show ¬ (1 : Nat) = 0 by omega), if_neg (show ¬ (2 : Nat) = 0 by omega), if_neg (show ¬ (2 : Nat) = 1 by omega), if_neg (show ¬ (3 : Nat) = 0 by omega), if_neg (show ¬ (3 : Nat) = 1 by omega), if_neg (show ¬ (3 : Nat) = 2 by omega)] at h0 h1 h2 h3
  omega
/-- what is looked at behind the lengths -/
def chM (N : Nat) (B : Nat → Nat) (W T : Nat → Int) (S : Nat → Nat) (sky st : Int) : Int × Int :=
  if 0 ≤ fp (bB B) N then (fp (bB B) N, 13)
  else if sky < 0 ∨ 4503599627370496 < sky then (0, 17)
  else if 0 ≤ fp (bQ W sky) N then (fp (bQ W sky) N, 14)
  else if 0 ≤ fp (bQ T 0) N then (fp (bQ T 0) N, 15)
  else if 0 ≤ fp (bS S) (2 * N) then (fp (bS S) (2 * N), 16)
  else if st < 0 ∨ 4611686018427387904 < st then (0, 1) else (0, 0)
theorem chN_M {N lb lw lt ls : Nat} {B : Nat → Nat} {W T : Nat → Int} {S : Nat → Nat} {sky st : Int} (h : lb = N ∧ lw = N ∧ lt = N ∧ ls = 2 * N) : chN N lb lw lt ls B W T S sky st = chM N B W T S sky st := by
  unfold chN chM
  rw [if_neg (by omega), if_neg (by omega), if_neg (by omega), if_neg (by omega)]
set_option maxRecDepth 100000 in
set_option maxHeartbeats 32000000 in
theorem rcheck_go (n N : Nat) (pb : Option Addr) (lb cb : Nat) (B : Nat → Nat) (pw : Option Addr) (lw cw : Nat) (W : Nat → Int) (pt : Option Addr) (lt ct : Nat) (T : Nat → Int) (ps : Option Addr) (ls cs : Nat) (S : Nat → Nat) (sky st : Int) (w : World) (hn : 1 ≤ n ∧ n ≤ 32) (hN : 6 * (n : Int) * (n : Int) = (N : Nat)) (HL : Hid (lb ≤ 281474976710656 ∧ lw ≤ 281474976710656 ∧ lt ≤ 281474976710656 ∧ ls ≤ 281474976710656)) (i1 : IsFl w pb lb B) (i2 : Sh.IsI w pw lw W) (i3 : Sh.IsI w pt lt T) (i4 : IsFl w ps ls S) :
    Calls Tryz.prog 14 #[.int .i64 (n : Nat), .agg #[.slice pb lb cb, .slice pw lw cw, .slice pt lt ct, .slice ps ls cs, .int .i64 sky, .int .i64 st]] w fun e w' => e = .returned (.tuple #[.int .i64 (chN N lb lw lt ls B W T S sky st).1, .int .i64 (chN N lb lw lt ls B W T S sky st).2]) ∧ Below w.heap.size w w' := by
  have I1 := hid i1
  have I2 := hid i2
  have I3 := hid i3
  have I4 := hid i4
  clear i1 i2 i3 i4
  have d1 : decide ((n : Int) < 1) = false := decide_eq_false (by omega)
  have d2 : decide (32 < (n : Int)) = false := decide_eq_false (by omega)
  have nI : (n : Int) ≤ 32 := by omega
  have NB : (N : Int) ≤ 6144 := by
    have h1 : n * n ≤ 32 * 32 := Nat.mul_le_mul hn.2 hn.2
    have h2 : ((n * n : Nat) : Int) ≤ ((32 * 32 : Nat) : Int) := by exact_mod_cast h1
    rw [Int.natCast_mul] at h2
    rw [← hN, Int.mul_assoc]
    omega
  have m1 : -9223372036854775808 ≤ 6 * (n : Int) * (n : Int) := by rw [hN]; omega
  have m2 : 6 * (n : Int) * (n : Int) ≤ 9223372036854775807 := by rw [hN]; omega
  have l1 : (ls : Int) ≤ 281474976710656 := by have := HL.out; omega
  have HB := hid NB
  have A0 : Hid (Ab w (w.alloc (.cells #[.slice pb lb cb, .slice pw lw cw, .slice pt lt ct, .slice ps ls cs, .int .i64 sky, .int .i64 st] 33))) := bl1 _ _
  have R0 : Hid ((w.alloc (.cells #[.slice pb lb cb, .slice pw lw cw, .slice pt lt ct, .slice ps ls cs, .int .i64 sky, .int .i64 st] 33)).heap[w.heap.size]? = some (.cells #[.slice pb lb cb, .slice pw lw cw, .slice pt lt ct, .slice ps ls cs, .int .i64 sky, .int .i64 st] 33)) := heap_alloc_new _ _
  clear hn
  go_enter Tryz.func14, Tryz.ntmps14
  go_upto_region 1 with fail
  generalize hW : World.alloc w _ = V0 at *
  obtain ⟨gw, hgw⟩ : ∃ g, w.heap.size = g := ⟨_, rfl⟩
  rw [hgw] at R0 ⊢
  clear hgw hW
  have x0 := cell_of_row _ _ 0 _ _ _ R0.out
  have x1 := cell_of_row _ _ 1 _ _ _ R0.out
  have x2 := cell_of_row _ _ 2 _ _ _ R0.out
  have x3 := cell_of_row _ _ 3 _ _ _ R0.out
  have x4 := cell_of_row _ _ 4 _ _ _ R0.out
  have x5 := cell_of_row _ _ 5 _ _ _ R0.out
  go_upto_region 5 with fail
  have AL : Hid (Ab V0 (V0.alloc (.cells #[.int .i64 (lb : Nat), .int .i64 (lw : Nat), .int .i64 (lt : Nat), .int .i64 ((ls : Int) - (N : Int))] 3))) := bl1 _ _
  have RL : Hid ((V0.alloc (.cells #[.int .i64 (lb : Nat), .int .i64 (lw : Nat), .int .i64 (lt : Nat), .int .i64 ((ls : Int) - (N : Int))] 3)).heap[V0.heap.size]? = some (.cells #[.int .i64 (lb : Nat), .int .i64 (lw : Nat), .int .i64 (lt : Nat), .int .i64 ((ls : Int) - (N : Int))] 3)) := heap_alloc_new _ _
  generalize hW : World.alloc V0 _ = V1 at *
  obtain ⟨gl, hgl⟩ : ∃ g, V0.heap.size = g := ⟨_, rfl⟩
  rw [hgl] at RL ⊢
  clear hgl hW x0 x1 x2 x3 x4 x5
  have A1 : Hid (Ab w V1) := A0.out.trans AL.out
  have R1 := hid (AL.out.heap R0.out)
  have LC : Hid (∀ k, k < 4 → V1.cell? ⟨gl, k, none⟩ = some (.int .i64 (szN N lb lw lt ls k))) := fun k hk => by
    match k, hk with
    | 0, _ => exact cell_of_row _ _ 0 _ _ _ RL.out
    | 1, _ => exact cell_of_row _ _ 1 _ _ _ RL.out
    | 2, _ => exact cell_of_row _ _ 2 _ _ _ RL.out
    | 3, _ => exact cell_of_row _ _ 3 _ _ _ RL.out
  clear AL RL A0 R0
  go_wp2
  go_loopw [8] (fun iv wr => ∃ k : Nat, k ≤ 4 ∧ iv = .int .i64 (k : Nat) ∧ (∀ i, i < k → szN N lb lw lt ls i = N) ∧ wr = V1) (fun iv _ => 4 - (intOf iv).toNat)
  case atStart => exact ⟨0, by omega, rfl, fun i hi => absurd hi (Nat.not_lt_zero i), rfl⟩
  case round =>
    obtain ⟨k, hk, rfl, g1, hwr⟩ := hrel
    have hwr2 := hwr.symm
    subst hwr2
    have G1 := hid g1
    clear g1
    by_cases hk4 : k < 4
    · have HK := hid hk4
      have kI : (k : Int) < 4 := by omega
      have cc := LC.out k hk4
      obtain ⟨x, hx⟩ : ∃ x, szN N lb lw lt ls k = x := ⟨_, rfl⟩
      rw [hx] at cc
      by_cases q : x = (N : Int)
      · have e1 : (x != (N : Int)) = false := by simp [q]
        have XE : Hid (szN N lb lw lt ls k = N) := hx.trans q
        clear q hx hk4 hk
        go_wp2
        refine ⟨⟨k + 1, by have := HK.out; omega, by simp, fun i hi => ?_, by first | trivial | rfl⟩, by have := HK.out; simp [intOf]; omega⟩
        by_cases l : i < k
        · exact G1.out i l
        · obtain rfl : i = k := by omega
          exact XE.out
      · have e1 : (x != (N : Int)) = true := by simp [q]
        have E : Hid (chN N lb lw lt ls B W T S sky st = (((k : Nat) : Int), 12)) := chN_size hk4 G1.out (by rw [hx]; exact q)
        clear q hx hk4 hk
        go_wp2
        go_ret2
        exact ⟨by rw [E.out]; rfl, A1.out⟩
    · have k4 : k = 4 := by omega
      subst k4
      have SZ := hid (szN_all G1.out)
      have HS : Hid (lb ≤ 131072 ∧ lw ≤ 131072 ∧ lt ≤ 131072 ∧ ls ≤ 131072) := by have h1 := SZ.out; have h2 := HB.out; show _ ∧ _; omega
      have E := hid (chN_M (B := B) (W := W) (T := T) (S := S) (sky := sky) (st := st) SZ.out)
      have EM : Hid (chM N B W T S sky st = if 0 ≤ fp (bB B) N then (fp (bB B) N, 13) else if sky < 0 ∨ 4503599627370496 < sky then (0, 17) else if 0 ≤ fp (bQ W sky) N then (fp (bQ W sky) N, 14) else if 0 ≤ fp (bQ T 0) N then (fp (bQ T 0) N, 15) else if 0 ≤ fp (bS S) (2 * N) then (fp (bS S) (2 * N), 16) else if st < 0 ∨ 4611686018427387904 < st then (0, 1) else (0, 0)) := rfl
      have F1 : Hid (∀ v, Ab w v → Calls Tryz.prog 38 #[.slice pb lb cb, .float .f64 4697254411347427328] v fun e w' => e = .returned (.int .i64 (fp (bB B) N)) ∧ w' = v) := fun v a => by rw [← SZ.out.1]; exact rfloats20 pb lb cb B _ 13920626448202203136 (bB B) v (by decide +kernel) HS.out.1 (I1.out.below a) (fun i _ => rfl)
      have F2 : Hid (∀ v, Ab w v → 0 ≤ sky → sky ≤ 4503599627370496 → Calls Tryz.prog 39 #[.slice pw lw cw, .int .i64 sky] v fun e w' => e = .returned (.int .i64 (fp (bQ W sky) N)) ∧ w' = v) := fun v a h1 h2 => by rw [← SZ.out.2.1]; exact rquanta20 pw lw cw W sky v HS.out.2.1 (I2.out.below a) ⟨h1, h2⟩
      have F3 : Hid (∀ v, Ab w v → Calls Tryz.prog 39 #[.slice pt lt ct, .int .i64 0] v fun e w' => e = .returned (.int .i64 (fp (bQ T 0) N)) ∧ w' = v) := fun v a => by rw [← SZ.out.2.2.1]; exact rquanta20 pt lt ct T 0 v HS.out.2.2.1 (I3.out.below a) ⟨by omega, by omega⟩
      have F4 : Hid (∀ v, Ab w v → Calls Tryz.prog 38 #[.slice ps ls cs, .float .f64 4652218415073722368] v fun e w' => e = .returned (.int .i64 (fp (bS S) (2 * N))) ∧ w' = v) := fun v a => by rw [← SZ.out.2.2.2]; exact rfloats20 ps ls cs S _ 13875590451928498176 (bS S) v (by decide +kernel) HS.out.2.2.2 (I4.out.below a) (fun i _ => rfl)
      obtain ⟨f1, hf1⟩ : ∃ x, fp (bB B) N = x := ⟨_, rfl⟩
      obtain ⟨f2, hf2⟩ : ∃ x, fp (bQ W sky) N = x := ⟨_, rfl⟩
      obtain ⟨f3, hf3⟩ : ∃ x, fp (bQ T 0) N = x := ⟨_, rfl⟩
      obtain ⟨f4, hf4⟩ : ∃ x, fp (bS S) (2 * N) = x := ⟨_, rfl⟩
      rw [hf1, hf2, hf3, hf4] at EM
      rw [hf1] at F1
      rw [hf2] at F2
      rw [hf3] at F3
      rw [hf4] at F4
      clear hf1 hf2 hf3 hf4 hk4 hk LC G1
      have x0 := cell_of_row _ _ 0 _ _ _ R1.out
      have x1 := cell_of_row _ _ 1 _ _ _ R1.out
      have x2 := cell_of_row _ _ 2 _ _ _ R1.out
      have x3 := cell_of_row _ _ 3 _ _ _ R1.out
      have x4 := cell_of_row _ _ 4 _ _ _ R1.out
      have x5 := cell_of_row _ _ 5 _ _ _ R1.out
      go_wp2_with fail
      refine (F1.out V1 A1.out).mono ?_
      rintro e9 v9 ⟨rfl, hv9⟩
      have hv8 := hv9.symm
      subst hv8
      by_cases c1 : 0 ≤ f1
      · have e1 : decide (0 ≤ f1) = true := decide_eq_true c1
        have C1 := hid c1
        clear c1
        go_wp2
        go_ret2
        exact ⟨by rw [E.out, EM.out, if_pos (by have h := C1.out; omega)]; rfl, A1.out⟩
      · have e1 : decide (0 ≤ f1) = false := decide_eq_false c1
        have C1 := hid c1
        clear c1
        by_cases c2 : sky < 0 ∨ 4503599627370496 < sky
        · by_cases c2a : sky < 0
          · have e2 : decide (sky < 0) = true := decide_eq_true c2a
            have C2 := hid c2
            clear c2
            go_wp2
            go_ret2
            exact ⟨by rw [E.out, EM.out, if_neg (by have h := C1.out; omega), if_pos (by have h := C2.out; omega)]; rfl, A1.out⟩
          · have e2 : decide (sky < 0) = false := decide_eq_false c2a
            have e3 : decide (4503599627370496 < sky) = true := decide_eq_true (by omega)
            have C2 := hid c2
            clear c2
            go_wp2
            go_ret2
            exact ⟨by rw [E.out, EM.out, if_neg (by have h := C1.out; omega), if_pos (by have h := C2.out; omega)]; rfl, A1.out⟩
        · have e2 : decide (sky < 0) = false := decide_eq_false (by omega)
          have e3 : decide (4503599627370496 < sky) = false := decide_eq_false (by omega)
          have k1 : 0 ≤ sky := by omega
          have k2 : sky ≤ 4503599627370496 := by omega
          have C2 := hid c2
          clear c2
          go_wp2_with fail
          refine (F2.out V1 A1.out k1 k2).mono ?_
          rintro e9 v9 ⟨rfl, hv9⟩
          have hv8 := hv9.symm
          subst hv8
          by_cases c3 : 0 ≤ f2
          · have e4 : decide (0 ≤ f2) = true := decide_eq_true c3
            have C3 := hid c3
            clear c3
            go_wp2
            go_ret2
            exact ⟨by rw [E.out, EM.out, if_neg (by have h := C1.out; omega), if_neg (by have h := C2.out; omega), if_pos (by have h := C3.out; omega)]; rfl, A1.out⟩
          · have e4 : decide (0 ≤ f2) = false := decide_eq_false c3
            have C3 := hid c3
            clear c3
            go_wp2_with fail
            refine (F3.out V1 A1.out).mono ?_
            rintro e9 v9 ⟨rfl, hv9⟩
            have hv8 := hv9.symm
            subst hv8
            by_cases c4 : 0 ≤ f3
            · have e5 : decide (0 ≤ f3) = true := decide_eq_true c4
              have C4 := hid c4
              clear c4
              go_wp2
              go_ret2
              exact ⟨by rw [E.out, EM.out, if_neg (by have h := C1.out; omega), if_neg (by have h := C2.out; omega), if_neg (by have h := C3.out; omega), if_pos (by have h := C4.out; omega)]; rfl, A1.out⟩
            · have e5 : decide (0 ≤ f3) = false := decide_eq_false c4
              have C4 := hid c4
              clear c4
              go_wp2_with fail
              refine (F4.out V1 A1.out).mono ?_
              rintro e9 v9 ⟨rfl, hv9⟩
              have hv8 := hv9.symm
              subst hv8
              by_cases c5 : 0 ≤ f4
              · have e6 : decide (0 ≤ f4) = true := decide_eq_true c5
                have C5 := hid c5
                clear c5
                go_wp2
                go_ret2
                exact ⟨by rw [E.out, EM.out, if_neg (by have h := C1.out; omega), if_neg (by have h := C2.out; omega), if_neg (by have h := C3.out; omega), if_neg (by have h := C4.out; omega), if_pos (by have h := C5.out; omega)]; rfl, A1.out⟩
              · have e6 : decide (0 ≤ f4) = false := decide_eq_false c5
                have C5 := hid c5
                clear c5
                by_cases c6 : st < 0 ∨ 4611686018427387904 < st
                · by_cases c6a : st < 0
                  · have e7 : decide (st < 0) = true := decide_eq_true c6a
                    have C6 := hid c6
                    clear c6
                    go_wp2
                    go_ret2
                    exact ⟨by rw [E.out, EM.out, if_neg (by have h := C1.out; omega), if_neg (by have h := C2.out; omega), if_neg (by have h := C3.out; omega), if_neg (by have h := C4.out; omega), if_neg (by have h := C5.out; omega), if_pos (by have h := C6.out; omega)]; rfl, A1.out⟩
                  · have e7 : decide (st < 0) = false := decide_eq_false c6a
                    have e8 : decide (4611686018427387904 < st) = true := decide_eq_true (by omega)
                    have C6 := hid c6
                    clear c6
                    go_wp2
                    go_ret2
                    exact ⟨by rw [E.out, EM.out, if_neg (by have h := C1.out; omega), if_neg (by have h := C2.out; omega), if_neg (by have h := C3.out; omega), if_neg (by have h := C4.out; omega), if_neg (by have h := C5.out; omega), if_pos (by have h := C6.out; omega)]; rfl, A1.out⟩
                · have e7 : decide (st < 0) = false := decide_eq_false (by omega)
                  have e8 : decide (4611686018427387904 < st) = false := decide_eq_false (by omega)
                  have C6 := hid c6
                  clear c6
                  go_wp2
                  go_ret2
                  exact ⟨by rw [E.out, EM.out, if_neg (by have h := C1.out; omega), if_neg (by have h := C2.out; omega), if_neg (by have h := C3.out; omega), if_neg (by have h := C4.out; omega), if_neg (by have h := C5.out; omega), if_neg (by have h := C6.out; omega)]; rfl, A1.out⟩
set_option maxRecDepth 100000 in
set_option maxHeartbeats 16000000 in
theorem rcheck_no (side : Int) (pb : Option Addr) (lb cb : Nat) (pw : Option Addr) (lw cw : Nat) (pt : Option Addr) (lt ct : Nat) (ps : Option Addr) (ls cs : Nat) (sky st : Int) (w : World) (h : ¬ (1 ≤ side ∧ side ≤ 32)) :
    Calls Tryz.prog 14 #[.int .i64 side, .agg #[.slice pb lb cb, .slice pw lw cw, .slice pt lt ct, .slice ps ls cs, .int .i64 sky, .int .i64 st]] w fun e w' => e = .returned (.tuple #[.int .i64 0, .int .i64 10]) ∧ Below w.heap.size w w' := by
  have A0 : Hid (Ab w (w.alloc (.cells #[.slice pb lb cb, .slice pw lw cw, .slice pt lt ct, .slice ps ls cs, .int .i64 sky, .int .i64 st] 33))) := bl1 _ _
  by_cases c : side < 1
  · have d1 : decide (side < 1) = true := decide_eq_true c
    clear h c
    go_enter Tryz.func14, Tryz.ntmps14
    go_wp2
    go_ret2
    exact ⟨rfl, A0.out⟩
  · have d1 : decide (side < 1) = false := decide_eq_false c
    have d2 : decide (32 < side) = true := decide_eq_true (by omega)
    clear h c
    go_enter Tryz.func14, Tryz.ntmps14
    go_wp2
    go_ret2
    exact ⟨rfl, A0.out⟩
/-- WHAT THE REFERENCE'S Check ANSWERS -/
theorem rcheck_at (side : Int) (pb : Option Addr) (lb cb : Nat) (B : Nat → Nat) (pw : Option Addr) (lw cw : Nat) (W : Nat → Int) (pt : Option Addr) (lt ct : Nat) (T : Nat → Int) (ps : Option Addr) (ls cs : Nat) (S : Nat → Nat) (sky st : Int) (w : World) (hl : (lb ≤ 281474976710656 ∧ lw ≤ 281474976710656 ∧ lt ≤ 281474976710656 ∧ ls ≤ 281474976710656)) (i1 : IsFl w pb lb B) (i2 : Sh.IsI w pw lw W) (i3 : Sh.IsI w pt lt T) (i4 : IsFl w ps ls S) :
    Calls Tryz.prog 14 #[.int .i64 side, .agg #[.slice pb lb cb, .slice pw lw cw, .slice pt lt ct, .slice ps ls cs, .int .i64 sky, .int .i64 st]] w fun e w' => e = .returned (.tuple #[.int .i64 (chk side lb lw lt ls B W T S sky st).1, .int .i64 (chk side lb lw lt ls B W T S sky st).2]) ∧ Below w.heap.size w w' := by
  unfold chk
  by_cases h : 1 ≤ side ∧ side ≤ 32
  · rw [if_pos h]
    obtain ⟨n, rfl⟩ : ∃ n : Nat, side = (n : Nat) := ⟨side.toNat, by omega⟩
    rw [Int.toNat_natCast]
    exact rcheck_go n (6 * n * n) pb lb cb B pw lw cw W pt lt ct T ps ls cs S sky st w (by omega) (by rw [Int.natCast_mul, Int.natCast_mul]; rfl) hl i1 i2 i3 i4
  · rw [if_neg h]
    exact rcheck_no side pb lb cb pw lw cw pt lt ct ps ls cs sky st w h
end Ss
end Go.Proofs.YtdigecacmibkpaaGreatDoor

namespace Go.Proofs.YtdigecacmibkpaaGreatDoor
open Go.RowKit Tf
attribute [local go_sem] run_bits run_from raw_feq raw_fne raw_flt raw_fgt run_neg
theorem run_store_func {P : Program} {w : World} {a : Addr} {m : Mode} (f : Fn) (x y : Array Value) : (store a (.func f x y) m).run P w = stored P w a (.func f x y) m := run_store P w a _ m rfl
attribute [local go_sem] run_store_func
set_option maxHeartbeats 1000000 in
theorem limiters_at (w : World) : Calls Tryz.prog 120 #[] w fun e w' => e = .returned (.agg #[.func (.func 150) #[] #[], .func (.func 151) #[] #[], .func (.func 152) #[] #[], .func (.func 153) #[] #[]]) ∧ Below w.heap.size w w' := by
  go_enter Tryz.func120, Tryz.ntmps120
  go_wp2
  refine bodyPost_ret ?_ rfl ⟨rfl, ?_⟩
  · exact results_cell_row Tryz.results120 _ _ w.heap.size _ _ (0, 0) _ rfl (heap_alloc_new w _) Tryz.underlying141 rfl (by kernel_rfl)
  · exact bl1 w _
set_option maxHeartbeats 1000000 in
theorem valid_at (k : Int) (w : World) : Calls Tryz.prog 76 #[.int .i64 k] w fun e w' => e = .returned (.bool (decide (0 ≤ k ∧ k ≤ 3))) ∧ Below w.heap.size w w' := by
  have L := hid (limiters_at w)
  by_cases c : 0 ≤ k
  · have e : decide (0 ≤ k ∧ k ≤ 3) = decide (k < 4) := by by_cases d : k < 4 <;> simp [d] <;> omega
    rw [e]
    clear e
    go_enter Tryz.func76, Tryz.ntmps76
    go_wp2_with fail
    refine L.out.mono ?_
    rintro e w1 ⟨rfl, b1⟩
    go_wp2
    go_ret
    exact ⟨rfl, b1⟩
  · have e : decide (0 ≤ k ∧ k ≤ 3) = false := decide_eq_false (by omega)
    rw [e]
    clear e
    go_enter Tryz.func76, Tryz.ntmps76
    go_wp2
    go_ret
    exact ⟨rfl, Below.refl _ _⟩
end Go.Proofs.YtdigecacmibkpaaGreatDoor

namespace Go.Proofs.YtdigecacmibkpaaGreatDoor
open Go.RowKit Tf
attribute [local go_sem] run_bits run_from raw_feq raw_fne raw_flt raw_fgt run_neg
theorem IsC.refl {x : Nat} (h : x ≤ 9218868437227405312) : IsC x x := ⟨by omega, canon_nn h⟩
end Go.Proofs.YtdigecacmibkpaaGreatDoor

namespace Go.Proofs.YtdigecacmibkpaaGreatDoor
open Go.RowKit Tf Cu Go.Deep
namespace Rv
/-- how high a bed is -/
def kb (x : Nat) : Nat := placeB (canonB x)
/-- how high a cell is -/
def kB (B : Nat → Nat) (c : Nat) : Nat := kb (B c)
/-- a list of cells of the call's own -/
def OwnN (B : Nat) (v : Value) (l : List Nat) (w : World) : Prop := w.ownsRow B 3 1 v l.length (l.map fun c => Value.int .i64 (c : Nat))
end Rv
end Go.Proofs.YtdigecacmibkpaaGreatDoor

namespace Go.Proofs.YtdigecacmibkpaaGreatDoor
open Go.RowKit Tf Cu Go.Deep
attribute [local go_sem] run_bits run_from raw_feq raw_fne raw_flt raw_fgt run_neg run_store_float
namespace Rv
theorem OwnN.in {B : Nat} {v : Value} {l : List Nat} {w : World} (h : OwnN B v l w) (hl : ∀ x ∈ l, x ≤ 9223372036854775807) : ∃ a0 cap, v = .slice a0 l.length cap ∧ Sh.IsI w a0 l.length (fun j => ((l.getD j 0 : Nat) : Int)) := by
  rcases h.2 with ⟨rfl, h0⟩ | ⟨g, cap, cur, rfl, hb, hg, h1, h2, h3, h4⟩
  · exact ⟨none, 0, by rw [h0], fun k hk => by omega⟩
  · refine ⟨some ⟨g, 0, none⟩, cap, rfl, fun k hk => ?_⟩
    have hx : l.getD k 0 = l[k] := by simp [List.getD, hk]
    have := hl _ (List.getElem_mem hk)
    refine ⟨by dsimp only; rw [hx]; omega, g, 0, rfl, lt_of_block hg, ?_⟩
    have e := h.cells (g := g) rfl k (.int .i64 ((l.getD k 0 : Nat) : Int)) (by simp [hk])
    rw [Sh.add_off] at e
    exact e
end Rv
end Go.Proofs.YtdigecacmibkpaaGreatDoor

namespace Go.Proofs.YtdigecacmibkpaaGreatDoor
open Go.RowKit Tf Cu Go.Deep
namespace Rv
/-- all blocks of V that are not of P are in w as they were -/
def AbQ (V : World) (P : Nat → Prop) (w : World) : Prop := w.os = V.os ∧ w.tape = V.tape ∧ w.output = V.output ∧ V.heap.size ≤ w.heap.size ∧ ∀ k, k < V.heap.size → ¬ P k → w.heap[k]? = V.heap[k]?
theorem AbQ.refl (V : World) (P : Nat → Prop) : AbQ V P V := ⟨rfl, rfl, rfl, Nat.le_refl _, fun _ _ _ => rfl⟩
theorem AbQ.to {V w w' : World} {P : Nat → Prop} (h : AbQ V P w) (a : Ab w w') : AbQ V P w' := by
  obtain ⟨h1, h2, h3, h4, h5⟩ := h
  exact ⟨a.os.trans h1, a.tape.trans h2, a.output.trans h3, Nat.le_trans h4 a.size, fun k hk hp => (a.block k (by omega)).trans (h5 k hk hp)⟩
theorem AbQ.set {V w : World} {P : Nat → Prop} (h : AbQ V P w) {g k : Nat} (hp : P g ∨ V.heap.size ≤ g) (v : Value) : AbQ V P (w.setCell ⟨g, k, none⟩ v) := by
  obtain ⟨h1, h2, h3, h4, h5⟩ := h
  refine ⟨h1, h2, h3, by simpa [World.setCell] using h4, fun i hi hn => (Below.heap_setCell _ _ _ _ (fun e => ?_)).trans (h5 i hi hn)⟩
  have e2 : i = g := e
  rcases hp with h | h
  · exact hn (by rw [e2]; exact h)
  · omega
theorem AbQ.grown {V wr w' : World} {P : Nat → Prop} {row : Option Nat} (h : AbQ V P wr) (hg : wr.grownBy w' row) (hr : ∀ b, row = some b → P b ∨ V.heap.size ≤ b) : AbQ V P w' := by
  obtain ⟨h1, h2, h3, h4, h5⟩ := h
  refine ⟨hg.os.trans h1, hg.tape.trans h2, hg.output.trans h3, by have := hg.size; omega, fun k hk hn => ?_⟩
  refine (hg.block k (by omega) (fun e => ?_)).trans (h5 k hk hn)
  rcases hr k e.symm with h6 | h6
  · exact hn h6
  · omega
theorem AbQ.ab {w0 V w : World} {P : Nat → Prop} (h : AbQ V P w) (a : Ab w0 V) (hp : ∀ k, k < w0.heap.size → ¬ P k) : Ab w0 w := by
  obtain ⟨h1, h2, h3, h4, h5⟩ := h
  exact ⟨h1.trans a.os, h2.trans a.tape, h3.trans a.output, Nat.le_trans (Below.size a) h4, fun k hk => (h5 k (Nat.lt_of_lt_of_le hk (Below.size a)) (hp k hk)).trans (a.block k hk)⟩
theorem AbQ.isI {V w : World} {P : Nat → Prop} {p : Option Addr} {n : Nat} {f : Nat → Int} (a : AbQ V P w) (h : Sh.IsI V p n f) (hp : ∀ b o, p = some ⟨b, o, none⟩ → ¬ P b) : Sh.IsI w p n f := fun k hk => by
  obtain ⟨h1, b, o, h2, h3, h4⟩ := h k hk
  exact ⟨h1, b, o, h2, Nat.lt_of_lt_of_le h3 a.2.2.2.1, (World.cell?_of_block (a.2.2.2.2 b h3 (hp b o h2))).trans h4⟩
theorem AbQ.isFl {V w : World} {P : Nat → Prop} {p : Option Addr} {n : Nat} {f : Nat → Nat} (a : AbQ V P w) (h : IsFl V p n f) (hp : ∀ b o, p = some ⟨b, o, none⟩ → ¬ P b) : IsFl w p n f := fun k hk => by
  obtain ⟨h1, b, o, h2, h3, h4⟩ := h k hk
  exact ⟨h1, b, o, h2, Nat.lt_of_lt_of_le h3 a.2.2.2.1, (World.cell?_of_block (a.2.2.2.2 b h3 (hp b o h2))).trans h4⟩
/-- a list of the call's own, of whatever kind of whole numbers -/
def OT (t : TypeId) (B : Nat) (v : Value) (l : List Int) (w : World) : Prop := w.ownsRow B t 1 v l.length (l.map (Value.int .i64))
theorem OT.mono {t : TypeId} {B C : Nat} {v : Value} {l : List Int} {w : World} (h : OT t B v l w) (hc : C ≤ B) : OT t C v l w := by
  rcases h.2 with ⟨q, e⟩ | ⟨g, cap, cur, q, hb, rest⟩
  · exact ⟨h.1, .inl ⟨q, e⟩⟩
  · exact ⟨h.1, .inr ⟨g, cap, cur, q, Nat.le_trans hc hb, rest⟩⟩
theorem OT.blk {t : TypeId} {B : Nat} {v : Value} {l : List Int} {w : World} (h : OT t B v l w) {k : Nat} (hk : v.ownBlock = some k) : B ≤ k ∧ k < w.heap.size := World.ownsRow.lt h k hk
theorem OT.at {t : TypeId} {B : Nat} {v : Value} {l : List Int} {w : World} (h : OT t B v l w) {c : Nat} (hc : c < l.length) :
    ∃ g cap, v = .slice (some ⟨g, 0, none⟩) l.length cap ∧ w.cell? ⟨g, c, none⟩ = some (.int .i64 (l.getD c 0)) ∧ w.frozen? ⟨g, c, none⟩ = false ∧ ∀ x, OT t B v (l.set c x) (w.setCell ⟨g, c, none⟩ (.int .i64 x)) := by
  rcases h.2 with ⟨q, e⟩ | ⟨g, cap, cur, q, hb, hg, h1, h2, h3, h4⟩
  · omega
  · have e2 := World.ownsRow.cells (g := g) h (by rw [q]; rfl) c (.int .i64 (l.getD c 0)) (by simp [hc, List.getD])
    rw [Sh.add_off, Nat.zero_add] at e2
    refine ⟨g, cap, q, e2, by simp [World.frozen?, hg], fun x => ⟨by simp, .inr ⟨g, cap, cur.setIfInBounds c (.int .i64 x), by rw [List.length_set]; exact q, hb, one_set hg, by rw [List.length_set]; exact h1, h2, by simpa using h3, ?_⟩⟩⟩
    rw [List.length_set, Array.toList_setIfInBounds, List.take_set, h4, List.map_set]
theorem OT.blkeq {t : TypeId} {B : Nat} {v : Value} {l : List Int} {w w' : World} (h : OT t B v l w) (e : ∀ k, v.ownBlock = some k → w'.heap[k]? = w.heap[k]?) : OT t B v l w' := by
  rcases h.2 with ⟨q, e2⟩ | ⟨g, cap, cur, q, hb, hg, rest⟩
  · exact ⟨h.1, .inl ⟨q, e2⟩⟩
  · exact ⟨h.1, .inr ⟨g, cap, cur, q, hb, (e g (by rw [q]; rfl)).trans hg, rest⟩⟩
theorem OT.other {t : TypeId} {B : Nat} {v : Value} {l : List Int} {w : World} (h : OT t B v l w) {g c : Nat} (u : Value) (hg : v.ownBlock ≠ some g) : OT t B v l (w.setCell ⟨g, c, none⟩ u) := h.blkeq (fun k hk => Below.heap_setCell _ _ _ _ (fun e => hg (by have e2 : k = g := e; rw [← e2]; exact hk)))
theorem OT.grown {t : TypeId} {B : Nat} {v : Value} {l : List Int} {w w' : World} {row : Option Nat} (h : OT t B v l w) (x : w.grownBy w' row) (hg : ∀ k, v.ownBlock = some k → row ≠ some k) : OT t B v l w' := h.blkeq (fun k hk => x.block k (h.blk hk).2 (fun e => hg k hk e.symm))
theorem OT.to {t : TypeId} {B : Nat} {v : Value} {l : List Int} {w w' : World} (h : OT t B v l w) (a : Ab w w') : OT t B v l w' := h.blkeq (fun k hk => a.block k (h.blk hk).2)
theorem OT.isI {t : TypeId} {B : Nat} {v : Value} {l : List Int} {w : World} (h : OT t B v l w) (hl : ∀ x ∈ l, -9223372036854775808 ≤ x ∧ x ≤ 9223372036854775807) : ∃ p cap, v = .slice p l.length cap ∧ Sh.IsI w p l.length (fun j => l.getD j 0) := by
  rcases h.2 with ⟨q, e2⟩ | ⟨g, cap, cur, q, hb, hg, rest⟩
  · exact ⟨none, 0, by rw [q, e2], fun k hk => by omega⟩
  · refine ⟨_, cap, q, fun k hk => ⟨?_, g, 0, rfl, lt_of_block hg, ?_⟩⟩
    · have e : l.getD k 0 = l[k] := by simp [List.getD, hk]
      dsimp only
      rw [e]
      exact hl _ (List.getElem_mem hk)
    · have e := World.ownsRow.cells (g := g) h (by rw [q]; rfl) k (.int .i64 (l.getD k 0)) (by simp [hk, List.getD])
      rw [Sh.add_off] at e
      exact e
theorem OT.new {t : TypeId} (w : World) (B : Nat) (hB : B ≤ w.heap.size) : OT t B (.slice (some ⟨w.heap.size, 0, none⟩) 0 0) [] (w.alloc (.cells #[] t)) :=
  ⟨by simp, .inr ⟨w.heap.size, 0, #[], rfl, hB, heap_alloc_new _ _, Nat.le_refl _, by unfold maxLen; omega, by simp, by simp⟩⟩
theorem lt_of_get {w : World} {b : Nat} {o : Obj} (h : w.heap[b]? = some o) : b < w.heap.size := by
  rcases Nat.lt_or_ge b w.heap.size with h1 | h1
  · exact h1
  · rw [Array.getElem?_eq_none h1] at h; cases h
theorem AbQ.heap {V w : World} {P : Nat → Prop} (a : AbQ V P w) {b : Nat} {o : Obj} (h : V.heap[b]? = some o) (hp : ¬ P b) : w.heap[b]? = some o := (a.2.2.2.2 b (lt_of_get h) hp).trans h
end Rv
end Go.Proofs.YtdigecacmibkpaaGreatDoor

namespace Go.Proofs.YtdigecacmibkpaaGreatDoor
open Go.RowKit Tf Cu Go.Deep
attribute [local go_sem] run_bits run_from raw_feq raw_fne raw_flt raw_fgt run_neg run_store_float
namespace Ss
open Rv (lt_of_get)
set_option maxRecDepth 100000 in
set_option maxHeartbeats 16000000 in
theorem nothing_at (w : World) : Calls Tryz.prog 28 #[] w fun e w' => ∃ b1 b2 b3 b4, e = .returned (.agg #[.slice (some ⟨b1, 0, none⟩) 6 6, .slice (some ⟨b2, 0, none⟩) 6 6, .slice (some ⟨b3, 0, none⟩) 6 6, .slice (some ⟨b4, 0, none⟩) 12 12, .int .i64 0, .int .i64 0]) ∧ Below w.heap.size w w' ∧ w'.rowIs b1 22 6 (fun _ => .float .f64 0) ∧ w'.rowIs b2 2 6 (fun _ => .int .i64 0) ∧ w'.rowIs b3 2 6 (fun _ => .int .i64 0) ∧ w'.rowIs b4 22 12 (fun _ => .float .f64 0) ∧ (w.heap.size ≤ b1 ∧ w.heap.size ≤ b2 ∧ w.heap.size ≤ b3 ∧ w.heap.size ≤ b4 ∧ b1 ≠ b2 ∧ b1 ≠ b3 ∧ b1 ≠ b4 ∧ b2 ≠ b3 ∧ b2 ≠ b4 ∧ b3 ≠ b4) := by
  have M1 : ∀ v : World, (Instr.makeSlice 30 (.int .i64 6) (.int .i64 6)).run Tryz.prog v = .ok (.slice (some ⟨v.heap.size, 0, none⟩) 6 6) (v.alloc (Obj.cells (madeCells #[.float .f64 0] 6) 22)) := fun v => by
    exact run_make_row' (P := Tryz.prog) 30 22 (.float .f64 0) 8 Tryz.underlying30 infoF64 rfl .i64 .i64 6 (by omega) (by omega) v
  have M2 : ∀ v : World, (Instr.makeSlice 31 (.int .i64 6) (.int .i64 6)).run Tryz.prog v = .ok (.slice (some ⟨v.heap.size, 0, none⟩) 6 6) (v.alloc (Obj.cells (madeCells #[.int .i64 0] 6) 2)) := fun v => by
    exact run_make_row' (P := Tryz.prog) 31 2 (.int .i64 0) 8 Tryz.underlying31 info64 rfl .i64 .i64 6 (by omega) (by omega) v
  have M3 : ∀ v : World, (Instr.makeSlice 30 (.int .i64 12) (.int .i64 12)).run Tryz.prog v = .ok (.slice (some ⟨v.heap.size, 0, none⟩) 12 12) (v.alloc (Obj.cells (madeCells #[.float .f64 0] 12) 22)) := fun v => by
    exact run_make_row' (P := Tryz.prog) 30 22 (.float .f64 0) 8 Tryz.underlying30 infoF64 rfl .i64 .i64 12 (by omega) (by omega) v
  have A0 : Hid (Ab w (w.alloc (.cells #[.slice none 0 0, .slice none 0 0, .slice none 0 0, .slice none 0 0, .int .i64 0, .int .i64 0] 33))) := bl1 _ _
  have R0 : Hid ((w.alloc (.cells #[.slice none 0 0, .slice none 0 0, .slice none 0 0, .slice none 0 0, .int .i64 0, .int .i64 0] 33)).heap[w.heap.size]? = some (.cells #[.slice none 0 0, .slice none 0 0, .slice none 0 0, .slice none 0 0, .int .i64 0, .int .i64 0] 33)) := heap_alloc_new _ _
  go_enter Tryz.func28, Tryz.ntmps28
  go_upto_region 1 with fail
  generalize hW : World.alloc w _ = W at *
  obtain ⟨g4, hg4⟩ : ∃ x, w.heap.size = x := ⟨_, rfl⟩
  have HG := hid hg4
  rw [hg4] at R0 ⊢
  clear hW hg4
  obtain ⟨UU, E, hF1, hF2⟩ := cls W.drew
  have HU := hid hF2
  clear hF1 hF2
  refine region_free 5 (fun k => if k = 0 then some ((Obj.cells (madeCells #[.float .f64 0] 6) 22), fun b => .slice (some ⟨b, 0, none⟩) 6 6) else if k = 1 then some ((Obj.cells (madeCells #[.int .i64 0] 6) 2), fun b => .slice (some ⟨b, 0, none⟩) 6 6) else if k = 2 then some ((Obj.cells (madeCells #[.int .i64 0] 6) 2), fun b => .slice (some ⟨b, 0, none⟩) 6 6) else if k = 3 then some ((Obj.cells (madeCells #[.float .f64 0] 12) 22), fun b => .slice (some ⟨b, 0, none⟩) 12 12) else none) (by kernel_rfl) (by kernel_rfl) (by kernel_rfl) ?_
  simp only [List.take_succ_cons, List.take_zero]
  refine wpFree_lay (ob := (Obj.cells (madeCells #[.float .f64 0] 6) 22)) (mk := fun b => .slice (some ⟨b, 0, none⟩) 6 6) (by rfl) (by kernel_rfl) ?_ ?_
  · refine lay_make (vx := .int .i64 6) (vy := .int .i64 6) (ob := (Obj.cells (madeCells #[.float .f64 0] 6) 22)) (mk := fun b => .slice (some ⟨b, 0, none⟩) 6 6) rfl ?_ ?_ ?_
    · rfl
    · rfl
    · exact M1
  intro b1 fb1
  simp only [Act.put, List.setIfInBounds_toArray, List.set_cons_succ, List.set_cons_zero]
  refine wpFree_lay (ob := (Obj.cells (madeCells #[.int .i64 0] 6) 2)) (mk := fun b => .slice (some ⟨b, 0, none⟩) 6 6) (by rfl) (by kernel_rfl) ?_ ?_
  · refine lay_make (vx := .int .i64 6) (vy := .int .i64 6) (ob := (Obj.cells (madeCells #[.int .i64 0] 6) 2)) (mk := fun b => .slice (some ⟨b, 0, none⟩) 6 6) rfl ?_ ?_ ?_
    · rfl
    · rfl
    · exact M2
  intro b2 fb2
  simp only [Act.put, List.setIfInBounds_toArray, List.set_cons_succ, List.set_cons_zero]
  refine wpFree_lay (ob := (Obj.cells (madeCells #[.int .i64 0] 6) 2)) (mk := fun b => .slice (some ⟨b, 0, none⟩) 6 6) (by rfl) (by kernel_rfl) ?_ ?_
  · refine lay_make (vx := .int .i64 6) (vy := .int .i64 6) (ob := (Obj.cells (madeCells #[.int .i64 0] 6) 2)) (mk := fun b => .slice (some ⟨b, 0, none⟩) 6 6) rfl ?_ ?_ ?_
    · rfl
    · rfl
    · exact M2
  intro b3 fb3
  simp only [Act.put, List.setIfInBounds_toArray, List.set_cons_succ, List.set_cons_zero]
  refine wpFree_lay (ob := (Obj.cells (madeCells #[.float .f64 0] 12) 22)) (mk := fun b => .slice (some ⟨b, 0, none⟩) 12 12) (by rfl) (by kernel_rfl) ?_ ?_
  · refine lay_make (vx := .int .i64 12) (vy := .int .i64 12) (ob := (Obj.cells (madeCells #[.float .f64 0] 12) 22)) (mk := fun b => .slice (some ⟨b, 0, none⟩) 12 12) rfl ?_ ?_ ?_
    · rfl
    · rfl
    · exact M3
  intro b4 fb4
  simp only [Act.put, List.setIfInBounds_toArray, List.set_cons_succ, List.set_cons_zero]
  refine wpFree_one HU (by rfl) (by rfl) ?_
  go_big_quiet_step (with_reducible rfl)
  refine wpQuiet_nil ?_
  refine wpFree_nil ?_
  intro wz hz
  have h1 := hz.at (i := 0) (b := b1) (ob := (Obj.cells (madeCells #[.float .f64 0] 6) 22)) (by rfl) (by rfl)
  have h2 := hz.at (i := 1) (b := b2) (ob := (Obj.cells (madeCells #[.int .i64 0] 6) 2)) (by rfl) (by rfl)
  have h3 := hz.at (i := 2) (b := b3) (ob := (Obj.cells (madeCells #[.int .i64 0] 6) 2)) (by rfl) (by rfl)
  have h4 := hz.at (i := 3) (b := b4) (ob := (Obj.cells (madeCells #[.float .f64 0] 12) 22)) (by rfl) (by rfl)
  have n12 : b1 ≠ b2 := fb2.2 0 b1 (by rfl)
  have n13 : b1 ≠ b3 := fb3.2 0 b1 (by rfl)
  have n14 : b1 ≠ b4 := fb4.2 0 b1 (by rfl)
  have n23 : b2 ≠ b3 := fb3.2 1 b2 (by rfl)
  have n24 : b2 ≠ b4 := fb4.2 1 b2 (by rfl)
  have n34 : b3 ≠ b4 := fb4.2 2 b3 (by rfl)
  have AZ : Ab W wz := (Ab.refl W).drew.trans hz.1
  have WS : W.heap.size ≤ b1 ∧ W.heap.size ≤ b2 ∧ W.heap.size ≤ b3 ∧ W.heap.size ≤ b4 := ⟨h1.2, h2.2, h3.2, h4.2⟩
  have GL : g4 < W.heap.size := lt_of_get R0.out
  have RZ := hid (AZ.heap R0.out)
  have HH := hid (And.intro h1.1 (And.intro h2.1 (And.intro h3.1 h4.1)))
  have NN := hid (And.intro n12 (And.intro n13 (And.intro n14 (And.intro n23 (And.intro n24 n34)))))
  have LL := hid (And.intro WS GL)
  have HAZ := hid (A0.out.trans AZ)
  clear hz fb1 fb2 fb3 fb4 h1 h2 h3 h4 n12 n13 n14 n23 n24 n34 AZ HU WS GL
  clear E UU
  have t0 := cell_of_row _ _ 0 _ _ _ RZ.out
  have t1 := cell_of_row _ _ 1 _ _ _ RZ.out
  have t2 := cell_of_row _ _ 2 _ _ _ RZ.out
  have t3 := cell_of_row _ _ 3 _ _ _ RZ.out
  have t4 := cell_of_row _ _ 4 _ _ _ RZ.out
  have t5 := cell_of_row _ _ 5 _ _ _ RZ.out
  have f0 := free_row RZ.out 0
  have f1 := free_row RZ.out 1
  have f2 := free_row RZ.out 2
  have f3 := free_row RZ.out 3
  have f4 := free_row RZ.out 4
  have f5 := free_row RZ.out 5
  simp only [List.drop_succ_cons, List.drop_zero]
  go_wp2_with fail
  have RY := hid (row6 (x := .slice (some ⟨b1, 0, none⟩) 6 6) (y := .slice (some ⟨b2, 0, none⟩) 6 6) (z := .slice (some ⟨b3, 0, none⟩) 6 6) (p := .slice (some ⟨b4, 0, none⟩) 12 12) (q := .int .i64 0) (r := .int .i64 0) RZ.out)
  refine bodyPost_ret (v := .agg #[.slice (some ⟨b1, 0, none⟩) 6 6, .slice (some ⟨b2, 0, none⟩) 6 6, .slice (some ⟨b3, 0, none⟩) 6 6, .slice (some ⟨b4, 0, none⟩) 12 12, .int .i64 0, .int .i64 0]) ?_ rfl ?_
  · exact results_cell_row Tryz.results28 _ _ g4 _ _ (0, 0) _ rfl RY.out Tryz.underlying33 rfl (by kernel_rfl)
  obtain ⟨k1, k2, k3, k4⟩ := HH.out
  obtain ⟨n12, n13, n14, n23, n24, n34⟩ := NN.out
  obtain ⟨⟨s1, s2, s3, s4⟩, gl⟩ := LL.out
  have g := HG.out
  have st : ∀ (b : Nat) (o : Obj), b ≠ g4 → wz.heap[b]? = some o → ∀ x0 x1 x2 x3 x4 x5, ((((((wz.setCell ⟨g4, 0, none⟩ x0).setCell ⟨g4, 1, none⟩ x1).setCell ⟨g4, 2, none⟩ x2).setCell ⟨g4, 3, none⟩ x3).setCell ⟨g4, 4, none⟩ x4).setCell ⟨g4, 5, none⟩ x5).heap[b]? = some o := fun b o hb h x0 x1 x2 x3 x4 x5 => by
    rw [heap_set_ne hb, heap_set_ne hb, heap_set_ne hb, heap_set_ne hb, heap_set_ne hb, heap_set_ne hb]
    exact h
  refine ⟨b1, b2, b3, b4, rfl, ?_, made_row (st b1 _ (by omega) k1 _ _ _ _ _ _), made_row (st b2 _ (by omega) k2 _ _ _ _ _ _), made_row (st b3 _ (by omega) k3 _ _ _ _ _ _), made_row (st b4 _ (by omega) k4 _ _ _ _ _ _), by omega, by omega, by omega, by omega, n12, n13, n14, n23, n24, n34⟩
  exact (((((HAZ.out.setk (Nat.le_of_eq g) _).setk (Nat.le_of_eq g) _).setk (Nat.le_of_eq g) _).setk (Nat.le_of_eq g) _).setk (Nat.le_of_eq g) _).setk (Nat.le_of_eq g) _
end Ss
end Go.Proofs.YtdigecacmibkpaaGreatDoor
