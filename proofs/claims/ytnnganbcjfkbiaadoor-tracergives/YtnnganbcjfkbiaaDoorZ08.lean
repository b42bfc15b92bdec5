/-
  Some of the texts of this proof, one behind the other.
-/
import Derived.Deep.QuietTactic
import Derived.ProofKit
import Derived.OpenShut
import Derived.WalkLawsBesides
import Derived.Stop.Joined
import Derived.Carry
import Derived.Lib.SmallJoins
import Derived.Deep.SlicePairs
import Derived.Deep.Slices
import Derived.Test.YtnnganbcjfkbiaaDoorZ07
namespace Go.Proofs.YtnnganbcjfkbiaaDoor
open Go.RowKit Go.Deep Cu
namespace Tr
open Sh
set_option maxRecDepth 100000 in
set_option maxHeartbeats 8000000 in
theorem fit17_at (p : Option Addr) (len cp N : Nat) (f : Nat → Int) (sg : Bool) (w : World) (hf : IsI w p len f) (hN : N ≤ 65536) :
    Calls Tryd.prog 7 #[.slice p len cp, .int .i64 (N : Nat), .bool sg] w fun e w' => ∃ b, e = .returned (.slice (some ⟨b, 0, none⟩) N N) ∧ Below w.heap.size w w' ∧ w'.rowIs b 2 N (fun i => .int .i64 (fitF len f sg i)) ∧ w.heap.size ≤ b := by
  have M1 : ∀ v : World, (Instr.makeSlice 22 (.int .i64 (N : Nat)) (.int .i64 (N : Nat))).run Tryd.prog v = .ok (.slice (some ⟨v.heap.size, 0, none⟩) N N) (v.alloc (Obj.cells (madeCells #[.int .i64 0] N) 2)) := fun v =>
    run_make_row' (P := Tryd.prog) 22 2 (.int .i64 0) 8 Tryd.underlying22 Sh.info64 rfl .i64 .i64 N (by omega) (by omega) v
  have HF := hid hf
  have HN := hid hN
  have RZ : Hid ((w.alloc (Obj.cells (madeCells #[.int .i64 0] N) 2)).rowIs w.heap.size 2 N (fun i => .int .i64 (if i < 0 then fitF len f sg i else 0))) := (World.rowIs_made _ _ _ _).congr (fun i _ => by simp)
  have A0 : Hid (Ab w (w.alloc (Obj.cells (madeCells #[.int .i64 0] N) 2))) := bl1 _ _
  clear hf hN
  go_enter Tryd.func7, Tryd.ntmps7
  go_upto_region 3 with fail
  generalize hV : World.alloc w _ = V at *
  obtain ⟨b, hb⟩ : ∃ b, w.heap.size = b := ⟨_, rfl⟩
  have LB : Hid (w.heap.size ≤ b) := by show _ ≤ _; omega
  rw [hb] at RZ
  rw [hb]
  clear hV hb M1
  go_loopw [8] (fun iv wr => ∃ c : Nat, c ≤ N ∧ iv = .int .i64 (c : Nat) ∧ Ab w wr ∧ wr.rowIs b 2 N (fun i => .int .i64 (if i < c then fitF len f sg i else 0))) (fun iv _ => N - (intOf iv).toNat)
  case atStart => exact ⟨0, by omega, rfl, A0.out, RZ.out⟩
  case round =>
    obtain ⟨c, hc, rfl, ar, rx⟩ := hrel
    have AR := hid ar
    have RX := hid rx
    clear ar rx RZ A0
    by_cases hl : len = 0
    · subst hl
      have l0 : decide ((0 : Int) < ((0 : Nat) : Int)) = false := by decide
      go_wp2
      all_goals
        go_ret
        exact ⟨b, rfl, AR.out, RX.out.congr (fun i _ => by unfold fitF; simp), LB.out⟩
    · have l0 : decide ((0 : Int) < (len : Int)) = true := decide_eq_true (by omega)
      have lz : ¬ ((len : Int) = 0) := by omega
      have ly : ((len : Int) == 0) = false := by rw [beq_eq_false_iff_ne]; omega
      by_cases hcN : c < N
      · have HC := hid hcN
        have hcI : (c : Int) < N := by omega
        have hcB : (c : Int) ≤ 1048576 := by have := HN.out; omega
        obtain ⟨m, hm⟩ : ∃ y, c % len = y := ⟨_, rfl⟩
        have lm : m < len := by rw [← hm]; exact Nat.mod_lt _ (by omega)
        have im : (m : Int) < len := by omega
        have tm : (c : Int).tmod len = m := by rw [← hm]; rw [Int.tmod_eq_emod_of_nonneg (by omega)]; rfl
        obtain ⟨p0, o0, rfl⟩ := HF.out.some0 (show 0 < len by omega)
        obtain ⟨x, hx⟩ : ∃ x, f m = x := ⟨_, rfl⟩
        obtain ⟨r, hr⟩ : ∃ r, x.tmod 4503599627370497 = r := ⟨_, rfl⟩
        have at0 := HF.out.at0 lm
        rw [hx] at at0
        have xc : wr.cell? ⟨p0, o0 + m, none⟩ = some (.int .i64 x) := (Below.cell AR.out at0.2.1).trans at0.2.2
        have x1 := at0.1.1
        have x2 := at0.1.2
        have oc := RX.out.cell hcN
        obtain ⟨ov, hov⟩ : ∃ v, (Value.int .i64 (if c < c then fitF len f sg c else 0)) = v := ⟨_, rfl⟩
        rw [hov] at oc
        have of := RX.out.frozen c
        have rb := tmod_bd x
        rw [hr] at rb
        have r1 := rb.1
        have r2 := rb.2
        have FE : Hid (∀ y, y = fitF len f sg c → ∀ j, (if j = c then Value.int .i64 y else Value.int .i64 (if j < c then fitF len f sg j else 0)) = .int .i64 (if j < c + 1 then fitF len f sg j else 0)) := fun y hy j => by
          by_cases e : j = c
          · subst e; simp [hy]
          · by_cases l : j < c
            · simp [e, l, show j < c + 1 by omega]
            · simp [e, l, show ¬ j < c + 1 by omega]
        have FV : Hid (fitF len f sg c = if sg = true then r else if r < 0 then -r else r) := by
          show _ = _
          unfold fitF
          rw [if_neg hl, hm, hx, hr]
        have RS := hid (RX.out.set c (.int .i64 r))
        have AS : Hid (Ab w (wr.setCell ⟨b, c, none⟩ (.int .i64 r))) := AR.out.setk LB.out _
        clear at0 hx hov rb hcN hm
        cases sg
        · by_cases ng : r < 0
          · have d1 : decide (r < 0) = true := decide_eq_true ng
            have cr : (wr.setCell ⟨b, c, none⟩ (.int .i64 r)).cell? ⟨b, c, none⟩ = some (.int .i64 r) := (RS.out.cell (show c < N from HC.out)).trans (by simp)
            have fr := RS.out.frozen c
            go_wp2
            refine ⟨⟨c + 1, by have := HC.out; omega, by simp, AS.out.setk LB.out _, (RS.out.set c (.int .i64 (-r))).congr (fun j _ => ?_)⟩, by have := HC.out; simp [intOf]; omega⟩
            have h := FE.out (-r) (by rw [FV.out]; simp [ng]) j
            rw [← h]
            by_cases e : j = c <;> simp [e]
          · have d1 : decide (r < 0) = false := decide_eq_false ng
            have cr : (wr.setCell ⟨b, c, none⟩ (.int .i64 r)).cell? ⟨b, c, none⟩ = some (.int .i64 r) := (RS.out.cell (show c < N from HC.out)).trans (by simp)
            go_wp2
            exact ⟨⟨c + 1, by have := HC.out; omega, by simp, AS.out, RS.out.congr (fun j _ => FE.out r (by rw [FV.out]; simp [ng]) j)⟩, by have := HC.out; simp [intOf]; omega⟩
        · go_wp2
          exact ⟨⟨c + 1, by have := HC.out; omega, by simp, AS.out, RS.out.congr (fun j _ => FE.out r (by rw [FV.out]; simp) j)⟩, by have := HC.out; simp [intOf]; omega⟩
      · have e6 : N = c := by omega
        subst e6
        go_wp2
        go_ret
        exact ⟨b, rfl, AR.out, RX.out.congr (fun i hi => by simp [hi]), LB.out⟩
set_option maxRecDepth 100000 in
set_option maxHeartbeats 16000000 in
theorem tgives_go (n M N : Nat) (side : Int) {pw ph pf : Option Addr} {lw cw lh ch lf cf : Nat} {fw fh ff : Nat → Int} (G L O T sg : Nat → Int) (E : Nat → Nat) (w : World)
    (LV : Hid (∀ v, Ab w v → Calls Tryd.prog 5 #[] v fun e w' => e = .returned (.bool true) ∧ Below v.heap.size v w'))
    (NW : Hid (∀ v, Ab w v → Calls Tryd.prog 6 #[.int .i64 (wrap64 (1 + wrap64 ((IntKind.u64.wrap side).tmod 8)))] v fun e w' => ∃ gb, e = .returned (.tuple #[.pointer (some ⟨gb, 0, none⟩), .int .i64 0]) ∧ Ab v w' ∧ GridOf n gb w'))
    (CC : Hid (∀ gb v, GridOf n gb v → Calls Tryd.prog 8 #[.pointer (some ⟨gb, 0, none⟩)] v fun e w' => e = .returned (.int .i64 (M : Nat)) ∧ w' = v)) (CE : Hid (∀ gb v, GridOf n gb v → Calls Tryd.prog 10 #[.pointer (some ⟨gb, 0, none⟩)] v fun e w' => e = .returned (.int .i64 (N : Nat)) ∧ w' = v))
    (ARD : Hid (∀ gb v c s, c < M → s < 4 → GridOf n gb v → Calls Tryd.prog 12 #[.pointer (some ⟨gb, 0, none⟩), .int .i64 (c : Nat), .int .i64 (s : Nat)] v fun e w' => e = .returned (.tuple #[.int .i64 (E (4 * c + s) : Nat), .int .i64 (sg (4 * c + s))]) ∧ Below v.heap.size v w'))
    (IW : Hid (IsI w pw lw fw)) (IH : Hid (IsI w ph lh fh)) (IF : Hid (IsI w pf lf ff)) (hl : M ≤ 65536 ∧ N ≤ 65536 ∧ 0 < N)
    (HA : Hid (∀ gb v bw bf, GridOf n gb v → v.rowIs bw 2 M (fun i => .int .i64 (fitF lw fw false i)) → v.rowIs bf 2 N (fun i => .int .i64 (fitF lf ff true i)) → Calls Tryd.prog 9 #[.pointer (some ⟨gb, 0, none⟩), .slice (some ⟨bw, 0, none⟩) M M, .slice (some ⟨bf, 0, none⟩) N N] v fun e w' => ∃ l, e = .returned (.tuple #[l, .int .i64 0]) ∧ Below v.heap.size v w' ∧ ∃ a0 cap, l = .slice a0 N cap ∧ IsI w' a0 N G))
    (HT : Hid (∀ gb v bw bh pg cg, GridOf n gb v → v.rowIs bw 2 M (fun i => .int .i64 (fitF lw fw false i)) → v.rowIs bh 2 M (fun i => .int .i64 (fitF lh fh false i)) → IsI v pg N G → Calls Tryd.prog 11 #[.pointer (some ⟨gb, 0, none⟩), .slice (some ⟨bw, 0, none⟩) M M, .slice (some ⟨bh, 0, none⟩) M M, .slice pg N cg] v fun e w' => ∃ l, e = .returned (.tuple #[l, .int .i64 0]) ∧ Below v.heap.size v w' ∧ ∃ a0 cap, l = .slice a0 N cap ∧ IsI w' a0 N L))
    (PC : Hid (∀ x y z v, Sh.W64 x → Sh.W64 y → Sh.W64 z → Calls Tryd.prog 13 #[.int .i64 x, .int .i64 y, .int .i64 z] v fun e w' => e = .returned (.int .i64 (Sh.part x y z)) ∧ Below v.heap.size v w'))
    (SG : Hid (∀ c, c < N → (0 ≤ G c → 0 ≤ L c) ∧ (G c ≤ 0 → L c ≤ 0)))
    (TT : Hid (∀ c s, c < M → s < 4 → E (4 * c + s) < N ∧ (if G (E (4 * c + s)) * sg (4 * c + s) < 0 then 0 else G (E (4 * c + s)) * sg (4 * c + s)) = O (4 * c + s) ∧ (if L (E (4 * c + s)) * sg (4 * c + s) < 0 then 0 else L (E (4 * c + s)) * sg (4 * c + s)) = T (4 * c + s) ∧ -4503599627370496 ≤ G (E (4 * c + s)) * sg (4 * c + s) ∧ G (E (4 * c + s)) * sg (4 * c + s) ≤ 4503599627370496 ∧ -4503599627370496 ≤ L (E (4 * c + s)) * sg (4 * c + s) ∧ L (E (4 * c + s)) * sg (4 * c + s) ≤ 4503599627370496))
    (GV : Hid (∀ c, c < M → sumN (fun j => T (4 * c + j)) 4 ≤ fitF lh fh false c ∧ Sh.part (fitF lh fh false c) (sumN (fun j => O (4 * c + j)) 4) (fitF lw fw false c) = sumN (fun j => T (4 * c + j)) 4 ∧ (0 < sumN (fun j => O (4 * c + j)) 4 → sumN (fun j => O (4 * c + j)) 4 = fitF lw fw false c → sumN (fun j => T (4 * c + j)) 4 = fitF lh fh false c)))
    (OB4 : Hid (∀ c s, c < M → s ≤ 4 → 0 ≤ sumN (fun j => O (4 * c + j)) s ∧ sumN (fun j => O (4 * c + j)) s ≤ 4503599627370496 * 4)) (TB4 : Hid (∀ c s, c < M → s ≤ 4 → 0 ≤ sumN (fun j => T (4 * c + j)) s ∧ sumN (fun j => T (4 * c + j)) s ≤ 4503599627370496 * 4)) :
    Calls Tryd.prog 3 #[.int .i64 side, .slice pw lw cw, .slice ph lh ch, .slice pf lf cf] w fun e w' => e = .returned (.bool true) ∧ Below w.heap.size w w' := by
  have HL := hid hl
  clear hl
  go_enter Tryd.func3, Tryd.ntmps3
  go_wp2_with fail
  refine (LV.out _ (Ab.refl w)).mono ?_
  rintro e9 v1 ⟨rfl, b1⟩
  have A1 : Hid (Ab w v1) := b1
  clear b1
  go_wp2_with fail
  refine (NW.out _ A1.out).mono ?_
  rintro e9 v2 ⟨gb, rfl, a2, g2⟩
  have A2 : Hid (Ab w v2) := A1.out.trans a2
  have G2 : Hid (GridOf n gb v2) := g2
  clear a2 g2 A1
  go_wp2_with fail
  refine (CC.out gb v2 G2.out).mono ?_
  rintro e9 vq ⟨rfl, hv⟩
  have hv2 := hv.symm
  subst hv2
  go_wp2_with fail
  refine (fit17_at pw lw cw M fw false v2 (IW.out.below A2.out) HL.out.1).mono ?_
  rintro e9 v3 ⟨bw, rfl, b3, r3, -⟩
  have A3 : Hid (Ab v2 v3) := b3
  have RW3 := hid r3
  clear b3 r3
  go_wp2_with fail
  refine (CC.out gb v3 (G2.out.to A3.out)).mono ?_
  rintro e9 vq ⟨rfl, hv⟩
  have hv2 := hv.symm
  subst hv2
  go_wp2_with fail
  refine (fit17_at ph lh ch M fh false v3 (IH.out.below (A2.out.trans A3.out)) HL.out.1).mono ?_
  rintro e9 v4 ⟨bh, rfl, b4, r4, -⟩
  have A4 : Hid (Ab v3 v4) := b4
  have RH4 := hid r4
  have RW4 := hid (row_ab RW3.out b4)
  clear b4 r4 RW3
  go_wp2_with fail
  refine (CE.out gb v4 (G2.out.to (A3.out.trans A4.out))).mono ?_
  rintro e9 vq ⟨rfl, hv⟩
  have hv2 := hv.symm
  subst hv2
  go_wp2_with fail
  refine (fit17_at pf lf cf N ff true v4 (IF.out.below (A2.out.trans (A3.out.trans A4.out))) HL.out.2.1).mono ?_
  rintro e9 v5 ⟨bf, rfl, b5, r5, -⟩
  have A5 : Hid (Ab v4 v5) := b5
  have RF5 := hid r5
  have RW5 := hid (row_ab RW4.out b5)
  have RH5 := hid (row_ab RH4.out b5)
  clear b5 r5 RW4 RH4
  have A25 : Hid (Ab v2 v5) := A3.out.trans (A4.out.trans A5.out)
  go_wp2_with fail
  refine (HA.out gb v5 bw bf (G2.out.to A25.out) RW5.out RF5.out).mono ?_
  rintro e9 v6 ⟨lv, rfl, b6, i6⟩
  obtain ⟨oa, oc, rfl, i7⟩ := i6
  have A6 : Hid (Ab v5 v6) := b6
  have RW6 := hid (row_ab RW5.out b6)
  have RH6 := hid (row_ab RH5.out b6)
  have IG6 := hid i7
  have A26 : Hid (Ab v2 v6) := A25.out.trans b6
  clear b6 i7 RF5 RW5 RH5 A3 A4 A5 A25
  go_wp2_with fail
  refine (HT.out gb v6 bw bh oa oc (G2.out.to A26.out) RW6.out RH6.out IG6.out).mono ?_
  rintro e9 v7 ⟨lt, rfl, b7, i8⟩
  obtain ⟨ta, tc, rfl, i9⟩ := i8
  have RW7 := hid (row_ab RW6.out b7)
  have RH7 := hid (row_ab RH6.out b7)
  have IG7 := hid (IG6.out.below b7)
  have IL := hid i9
  have G7 : Hid (GridOf n gb v7) := G2.out.to (A26.out.trans b7)
  have AA : Hid (Ab w v7) := A2.out.trans (A26.out.trans b7)
  clear b7 i9 RW6 RH6 IG6 A26 A6 G2 A2
  obtain ⟨ob, oo, rfl⟩ := IG7.out.some0 HL.out.2.2
  obtain ⟨tb, to_, rfl⟩ := IL.out.some0 HL.out.2.2
  have nn : ((N : Int) != (N : Int)) = false := by simp
  go_wp2_with fail
  refine (CE.out gb v7 G7.out).mono ?_
  rintro e9 vq ⟨rfl, hv⟩
  have hv2 := hv.symm
  subst hv2
  go_wp2
  go_loopw [17] (fun iv wr => ∃ c : Nat, c ≤ N ∧ iv = .int .i64 (c : Nat) ∧ Ab v7 wr) (fun iv _ => N - (intOf iv).toNat)
  case atStart => exact ⟨0, by omega, rfl, Ab.refl v7⟩
  case round =>
    obtain ⟨c, hc, rfl, ar⟩ := hrel
    have AR := hid ar
    clear ar
    by_cases hcN : c < N
    · have HC := hid hcN
      have hcI : (c : Int) < N := by omega
      have hcB : (c : Int) ≤ 65536 := by have := HL.out; omega
      obtain ⟨x, hx⟩ : ∃ x, G c = x := ⟨_, rfl⟩
      obtain ⟨y, hy⟩ : ∃ y, L c = y := ⟨_, rfl⟩
      have ya : wr.cell? ⟨ob, oo + c, none⟩ = some (.int .i64 x) := by rw [← hx]; exact (Below.cell AR.out (IG7.out.at0 hcN).2.1).trans (IG7.out.at0 hcN).2.2
      have yb : wr.cell? ⟨tb, to_ + c, none⟩ = some (.int .i64 y) := by rw [← hy]; exact (Below.cell AR.out (IL.out.at0 hcN).2.1).trans (IL.out.at0 hcN).2.2
      have sg := SG.out c hcN
      rw [hx, hy] at sg
      clear hx hy hcN
      by_cases p1 : 0 < x
      · have d1 : decide (0 ≤ x) = true := decide_eq_true (by omega)
        have d2 : decide (x ≤ 0) = false := decide_eq_false (by omega)
        have d3 : decide (y < 0) = false := decide_eq_false (by have := sg.1 (by omega); omega)
        clear sg
        go_wp2
        exact ⟨⟨c + 1, by have := HC.out; omega, by simp, AR.out⟩, by have := HC.out; simp [intOf]; omega⟩
      · by_cases p2 : x < 0
        · have d1 : decide (0 ≤ x) = false := decide_eq_false (by omega)
          have d2 : decide (x ≤ 0) = true := decide_eq_true (by omega)
          have d3 : decide (0 < y) = false := decide_eq_false (by have := sg.2 (by omega); omega)
          clear sg
          go_wp2
          exact ⟨⟨c + 1, by have := HC.out; omega, by simp, AR.out⟩, by have := HC.out; simp [intOf]; omega⟩
        · have d1 : decide (0 ≤ x) = true := decide_eq_true (by omega)
          have d2 : decide (x ≤ 0) = true := decide_eq_true (by omega)
          have d3 : decide (y < 0) = false := decide_eq_false (by have := sg.1 (by omega); omega)
          have d5 : decide (0 < y) = false := decide_eq_false (by have := sg.2 (by omega); omega)
          clear sg
          go_wp2
          exact ⟨⟨c + 1, by have := HC.out; omega, by simp, AR.out⟩, by have := HC.out; simp [intOf]; omega⟩
    · have e6 : N = c := by omega
      subst e6
      go_wp2
      go_loopw [18] (fun iv w6 => ∃ c : Nat, c ≤ M ∧ iv = .int .i64 (c : Nat) ∧ Ab v7 w6) (fun iv _ => M - (intOf iv).toNat)
      case atStart => exact ⟨0, by omega, rfl, AR.out⟩
      case round =>
        obtain ⟨c, hc, rfl, ar⟩ := hrel
        clear AR
        have AR := hid ar
        clear ar
        go_wp2_with fail
        refine (CC.out gb wr (G7.out.to AR.out)).mono ?_
        rintro e9 vq ⟨rfl, hv⟩
        have hv2 := hv.symm
        subst hv2
        by_cases hcM : c < M
        · have HC := hid hcM
          have hcI : (c : Int) < M := by omega
          have hcB : (c : Int) ≤ 65536 := by have := HL.out; omega
          go_wp2
          go_loopw [19, 20, 21] (fun uv gv iv w6 => ∃ s : Nat, s ≤ 4 ∧ iv = .int .i64 (s : Nat) ∧ uv = .int .i64 (sumN (fun j => O (4 * c + j)) s) ∧ gv = .int .i64 (sumN (fun j => T (4 * c + j)) s) ∧ Ab v7 w6) (fun _ _ iv _ => 4 - (intOf iv).toNat)
          case atStart => exact ⟨0, by omega, rfl, rfl, rfl, AR.out⟩
          case round =>
            obtain ⟨s, hs, rfl, rfl, rfl, ar⟩ := hrel
            have AS := hid ar
            clear ar AR
            obtain ⟨u, hu⟩ : ∃ u, sumN (fun j => O (4 * c + j)) s = u := ⟨_, rfl⟩
            obtain ⟨g, hg⟩ : ∃ u, sumN (fun j => T (4 * c + j)) s = u := ⟨_, rfl⟩
            have UE := hid hu
            have GE := hid hg
            rw [hu, hg]
            clear hu hg
            by_cases hs4 : s < 4
            · have HS := hid hs4
              have hsI : (s : Int) < 4 := by omega
              obtain ⟨t, ht⟩ : ∃ t, 4 * c + s = t := ⟨_, rfl⟩
              have TM := hid (TT.out c s HC.out hs4)
              rw [ht] at TM
              obtain ⟨te, hte⟩ : ∃ e, E t = e := ⟨_, rfl⟩
              obtain ⟨ts, hts⟩ : ∃ e, sg t = e := ⟨_, rfl⟩
              obtain ⟨tq, htq⟩ : ∃ e, O t = e := ⟨_, rfl⟩
              obtain ⟨tt, htt⟩ : ∃ e, T t = e := ⟨_, rfl⟩
              have BD := TM.out
              rw [hte, hts, htq, htt] at BD
              obtain ⟨x, hx⟩ : ∃ x, G te = x := ⟨_, rfl⟩
              obtain ⟨y, hy⟩ : ∃ y, L te = y := ⟨_, rfl⟩
              rw [hx, hy] at BD
              have AC := hid (ARD.out gb wr c s HC.out hs4 (G7.out.to AS.out))
              rw [ht, hte, hts] at AC
              have OE : Hid (O (4 * c + s) = tq) := by show _ = _; rw [ht]; exact htq
              have TE : Hid (T (4 * c + s) = tt) := by show _ = _; rw [ht]; exact htt
              have CX1 : Hid (∀ v, Ab v7 v → v.cell? ⟨ob, oo + te, none⟩ = some (.int .i64 x)) := fun v a => by rw [← hx]; exact (Below.cell a (IG7.out.at0 BD.1).2.1).trans (IG7.out.at0 BD.1).2.2
              have CX2 : Hid (∀ v, Ab v7 v → v.cell? ⟨tb, to_ + te, none⟩ = some (.int .i64 y)) := fun v a => by rw [← hy]; exact (Below.cell a (IL.out.at0 BD.1).2.1).trans (IL.out.at0 BD.1).2.2
              have teN := BD.1
              have teI : (te : Int) < N := by omega
              have MX1 := hid BD.2.1
              have MX2 := hid BD.2.2.1
              have bd1 := BD.2.2.2.1
              have bd2 := BD.2.2.2.2.1
              have bd3 := BD.2.2.2.2.2.1
              have bd4 := BD.2.2.2.2.2.2
              have uB : 0 ≤ u ∧ u ≤ 4503599627370496 * 4 := by rw [← UE.out]; exact OB4.out c s HC.out hs
              have gB : 0 ≤ g ∧ g ≤ 4503599627370496 * 4 := by rw [← GE.out]; exact TB4.out c s HC.out hs
              have u1 := uB.1
              have u2 := uB.2
              have g1 := gB.1
              have g2 := gB.2
              clear uB gB
              clear BD TM ht hte hts htq htt hx hy hs4
              go_wp2_with fail
              refine AC.out.mono ?_
              rintro e9 v8 ⟨rfl, b8⟩
              have A8 : Hid (Ab v7 v8) := AS.out.trans b8
              clear b8
              have ya := CX2.out _ A8.out
              have yb := CX1.out _ A8.out
              go_wp2
              refine ⟨⟨s + 1, by have := HS.out; omega, by simp, ?_, ?_, A8.out⟩, by have := HS.out; simp [intOf]; omega⟩
              · show _ = Value.int .i64 (sumN (fun j => O (4 * c + j)) s + O (4 * c + s))
                rw [UE.out, OE.out, MX1.out]
              · show _ = Value.int .i64 (sumN (fun j => T (4 * c + j)) s + T (4 * c + s))
                rw [GE.out, TE.out, MX2.out]
            · obtain rfl : s = 4 := by omega
              obtain ⟨x, hx⟩ : ∃ x, fitF lw fw false c = x := ⟨_, rfl⟩
              obtain ⟨h, hh⟩ : ∃ x, fitF lh fh false c = x := ⟨_, rfl⟩
              have gv := GV.out c HC.out
              rw [UE.out, GE.out, hx, hh] at gv
              have YW : Hid (∀ v, Ab v7 v → v.cell? ⟨bw, c, none⟩ = some (.int .i64 x)) := fun v a => by rw [← hx]; exact (row_ab RW7.out a).cell HC.out
              have YH : Hid (∀ v, Ab v7 v → v.cell? ⟨bh, c, none⟩ = some (.int .i64 h)) := fun v a => by rw [← hh]; exact (row_ab RH7.out a).cell HC.out
              have xb := fit_in lw fw false c
              have hb := fit_in lh fh false c
              rw [hx] at xb
              rw [hh] at hb
              have uB : 0 ≤ u ∧ u ≤ 4503599627370496 * 4 := by rw [← UE.out]; exact OB4.out c 4 HC.out (by omega)
              have PCX : Hid (∀ v, Calls Tryd.prog 13 #[.int .i64 h, .int .i64 u, .int .i64 x] v fun e w' => e = .returned (.int .i64 g) ∧ Below v.heap.size v w') := fun v => by
                have q := PC.out h u x v ⟨by omega, by omega⟩ ⟨by omega, by omega⟩ ⟨by omega, by omega⟩
                rw [gv.2.1] at q
                exact q
              have NXT : Hid (∀ z, Ab v7 z → (∃ c' : Nat, c' ≤ M ∧ Value.int .i64 (↑c + 1) = .int .i64 (c' : Nat) ∧ Ab v7 z) ∧ M - (intOf (Value.int .i64 (↑c + 1))).toNat < M - (intOf (Value.int .i64 (c : Nat))).toNat) := fun z a => ⟨⟨c + 1, by have := HC.out; omega, by simp, a⟩, by have := HC.out; simp [intOf]; omega⟩
              have d1 : decide (h < g) = false := decide_eq_false (by omega)
              have gg : (g != g) = false := by simp
              have QE := gv.2.2
              clear hx hh xb hb uB gv PC
              go_upto_region 29 with fail
              by_cases q1 : u = x
              · subst q1
                by_cases q2 : 0 < u
                · have d3 : decide (0 < u) = true := decide_eq_true q2
                  have e5 := QE q2 rfl
                  subst e5
                  clear QE q2
                  obtain ⟨UU, E9, hF1, hF2⟩ := cls wr
                  have HU := hid hF2
                  have HU1 := hid hF1
                  have HX : Hid (∀ u2, Ab v7 (E9 u2)) := fun u2 => Ab.trans AS.out (hF1 u2)
                  have ya : ∀ u2, (E9 u2).cell? ⟨bw, c, none⟩ = some (.int .i64 u) := fun u2 => YW.out _ (HX.out u2)
                  have yb : ∀ u2, (E9 u2).cell? ⟨bh, c, none⟩ = some (.int .i64 g) := fun u2 => YH.out _ (HX.out u2)
                  have DD0 := HU.out _ (Ab.refl wr).drew
                  clear hF1 hF2
                  refine region_cls E9 (by kernel_rfl) (by kernel_rfl) DD0 ?_
                  repeat (go_big_quiet_step (first
                    | (with_reducible rfl)
                    | (go_at_call 13; exact calls_cls HU HU1 (PCX.out _))))
                  refine wpQuiet_nil ?_
                  intro z hwz
                  obtain ⟨u0, hu⟩ := hwz
                  have AZ : Hid (Ab v7 z) := by rw [hu]; exact HX.out u0
                  clear hu u0
                  clear HU HU1 HX DD0 ya yb
                  clear E9 UU
                  go_wp2
                  exact NXT.out z AZ.out
                · have d3 : decide (0 < u) = false := decide_eq_false q2
                  clear QE q2
                  obtain ⟨UU, E9, hF1, hF2⟩ := cls wr
                  have HU := hid hF2
                  have HU1 := hid hF1
                  have HX : Hid (∀ u2, Ab v7 (E9 u2)) := fun u2 => Ab.trans AS.out (hF1 u2)
                  have ya : ∀ u2, (E9 u2).cell? ⟨bw, c, none⟩ = some (.int .i64 u) := fun u2 => YW.out _ (HX.out u2)
                  have yb : ∀ u2, (E9 u2).cell? ⟨bh, c, none⟩ = some (.int .i64 h) := fun u2 => YH.out _ (HX.out u2)
                  have DD0 := HU.out _ (Ab.refl wr).drew
                  clear hF1 hF2
                  refine region_cls E9 (by kernel_rfl) (by kernel_rfl) DD0 ?_
                  repeat (go_big_quiet_step (first
                    | (with_reducible rfl)
                    | (go_at_call 13; exact calls_cls HU HU1 (PCX.out _))))
                  refine wpQuiet_nil ?_
                  intro z hwz
                  obtain ⟨u0, hu⟩ := hwz
                  have AZ : Hid (Ab v7 z) := by rw [hu]; exact HX.out u0
                  clear hu u0
                  clear HU HU1 HX DD0 ya yb
                  clear E9 UU
                  go_wp2
                  exact NXT.out z AZ.out
              · have d2 : (u == x) = false := by simp [q1]
                clear QE q1
                obtain ⟨UU, E9, hF1, hF2⟩ := cls wr
                have HU := hid hF2
                have HU1 := hid hF1
                have HX : Hid (∀ u2, Ab v7 (E9 u2)) := fun u2 => Ab.trans AS.out (hF1 u2)
                have ya : ∀ u2, (E9 u2).cell? ⟨bw, c, none⟩ = some (.int .i64 x) := fun u2 => YW.out _ (HX.out u2)
                have yb : ∀ u2, (E9 u2).cell? ⟨bh, c, none⟩ = some (.int .i64 h) := fun u2 => YH.out _ (HX.out u2)
                have DD0 := HU.out _ (Ab.refl wr).drew
                clear hF1 hF2
                refine region_cls E9 (by kernel_rfl) (by kernel_rfl) DD0 ?_
                repeat (go_big_quiet_step (first
                  | (with_reducible rfl)
                  | (go_at_call 13; exact calls_cls HU HU1 (PCX.out _))))
                refine wpQuiet_nil ?_
                intro z hwz
                obtain ⟨u0, hu⟩ := hwz
                have AZ : Hid (Ab v7 z) := by rw [hu]; exact HX.out u0
                clear hu u0
                clear HU HU1 HX DD0 ya yb
                clear E9 UU
                go_wp2
                exact NXT.out z AZ.out
        · obtain rfl : c = M := by omega
          go_wp2
          go_ret
          exact ⟨rfl, AA.out.trans AR.out⟩
theorem tgives_at (PC : PartC) (AC : AllC) (TC : TakesC) (FC : FlowsC) (side : Int) {pw ph pf : Option Addr} {lw cw lh ch lf cf : Nat} {fw fh ff : Nat → Int} (w : World) (hF : Fr w) (iw : IsI w pw lw fw) (ih : IsI w ph lh fh) (if_ : IsI w pf lf ff) :
    Calls Tryd.prog 3 #[.int .i64 side, .slice pw lw cw, .slice ph lh ch, .slice pf lf cf] w fun e w' => e = .returned (.bool true) ∧ Below w.heap.size w w' := by
  obtain ⟨n, n1, n8, e8⟩ := side8 side
  have hn : 1 ≤ n ∧ n ≤ 32 := by omega
  have en : (1 ≤ 6 * n * n ∧ 6 * n * n ≤ 6144) ∧ 1 ≤ 12 * n * n ∧ 12 * n * n ≤ 12288 := by
    have h := Nat.mul_le_mul hn.2 hn.2
    have h2 := Nat.mul_le_mul hn.1 hn.1
    rw [Nat.mul_assoc, Nat.mul_assoc]
    omega
  obtain ⟨W, hW⟩ : ∃ W, fitF lw fw false = W := ⟨_, rfl⟩
  obtain ⟨H, hH⟩ : ∃ H, fitF lh fh false = H := ⟨_, rfl⟩
  obtain ⟨F, hFF⟩ : ∃ F, fitF lf ff true = F := ⟨_, rfl⟩
  have W0 : ∀ c, c < 6 * n * n → 0 ≤ W c := fun c _ => by rw [← hW]; exact fit_nn lw fw c
  have W1 : ∀ c, W c ≤ 4503599627370496 := fun c => by rw [← hW]; exact (fit_in lw fw false c).2
  have H0 : ∀ c, 0 ≤ H c ∧ H c ≤ 4503599627370496 := fun c => by rw [← hH]; exact ⟨fit_nn lh fh c, (fit_in lh fh false c).2⟩
  have F0 : ∀ e, e < 12 * n * n → -4503599627370496 ≤ F e ∧ F e ≤ 4503599627370496 := fun e _ => by rw [← hFF]; exact fit_in lf ff true e
  have HH : ∀ c, c < 6 * n * n → 0 ≤ H c ∧ H c ≤ 9223372036854775807 := fun c _ => by have := H0 c; omega
  have O0 : ∀ c, c < 6 * n * n → oS n (allF n W F) c ≤ W c := fun c hc => cut_oS hn.1 hc W0 (m := 4503599627370496) ⟨by omega, by omega⟩ F0
  have G0 : ∀ e, e < 12 * n * n → -4503599627370496 ≤ allF n W F e ∧ allF n W F e ≤ 4503599627370496 := fun e he => allF_in hn.1 he W0 F0
  have ogb : ∀ t, t < 24 * n * n → 0 ≤ og n (allF n W F) t ∧ og n (allF n W F) t ≤ 4503599627370496 := fun t ht => ⟨og_nn _ _ _, og_le (by omega) (G0 _ (eE_lt hn.1 ht))⟩
  have tkb : ∀ t, t < 24 * n * n → 0 ≤ tks n W H (allF n W F) t ∧ tks n W H (allF n W F) t ≤ 4503599627370496 := fun t ht => by
    have a := tks_nn (t := t) (HH _ (t_cell ht)).1 (HH _ (t_cell ht)).2 (O0 _ (t_cell ht))
    have b := tks_le (t := t) (HH _ (t_cell ht)).1 (HH _ (t_cell ht)).2 (O0 _ (t_cell ht))
    have := H0 (t / 4)
    omega
  have sum4 : ∀ (f : Nat → Int), (∀ j, j < 4 → 0 ≤ f j ∧ f j ≤ 4503599627370496) → ∀ s, s ≤ 4 → 0 ≤ sumN f s ∧ sumN f s ≤ 4503599627370496 * 4 := fun f hf s hs => by
    have m := sumN_mono (f := f) (n := 4) (fun i hi => (hf i hi).1) hs
    have h0 := hf 0 (by omega)
    have h1 := hf 1 (by omega)
    have h2 := hf 2 (by omega)
    have h3 := hf 3 (by omega)
    have e : sumN f 4 = 0 + f 0 + f 1 + f 2 + f 3 := rfl
    exact ⟨sumN_nn (fun i hi => (hf i (by omega)).1), by omega⟩
  refine tgives_go n (6 * n * n) (12 * n * n) side (allF n W F) (flF n W H (allF n W F)) (og n (allF n W F)) (tks n W H (allF n W F)) (eS n) (eE n) w (fun v _ => awake17_at TC v) ?_ (fun gb v g => gCells_at g) (fun gb v g => gEdges_at g) ?_ iw ih if_ ⟨by omega, by omega, by omega⟩ ?_ ?_ (fun x y z v hx hy hz => PC x y z v hx hy hz) ?_ ?_ ?_ ?_ ?_
  · intro v hv
    rw [e8]
    refine (new_at n v hn (hF.to hv)).mono ?_
    rintro e' w' ⟨gb, rfl, a, -, g⟩
    exact ⟨gb, rfl, a, g⟩
  · intro gb v c s hc hs g
    have e : gT n (24 * n * n) (c : Nat) (s : Nat) = (((eE n (4 * c + s) : Nat) : Int), eS n (4 * c + s)) := by
      have ht := t_lt hc hs
      have hm := mt_lt hn.1 ht
      rw [gT_nat, if_pos ⟨hc, hs⟩]
      unfold gN eE eS
      by_cases q : isL n (4 * c + s) = true
      · simp [q, ht]
      · simp [q, hm]
    have h := gAround_at (n := n) (gb := gb) (c := (c : Nat)) (s := (s : Nat)) (w := v) ⟨by omega, by omega⟩ ⟨by omega, by omega⟩ g
    rwa [e] at h
  · intro gb v bw bf g rw_ rf
    have I1 := row_in rw_ (fun i _ => by have := fit_in lw fw false i; omega)
    have I2 := row_in rf (fun i _ => by have := fit_in lf ff true i; omega)
    rw [hW] at I1
    rw [hFF] at I2
    refine ((AC n gb (some ⟨bw, 0, none⟩) _ _ _ (some ⟨bf, 0, none⟩) _ _ _ v hn g (by omega) (by omega) I1 I2).1 ⟨rfl, rfl, W0, F0⟩).mono ?_
    rintro e' w' ⟨l, rfl, b, o⟩
    exact ⟨l, rfl, b, own_all hn.1 W0 F0 o⟩
  · intro gb v bw bh pg cg g rw_ rh ig
    have I1 := row_in rw_ (fun i _ => by have := fit_in lw fw false i; omega)
    have I2 := row_in rh (fun i _ => by have := fit_in lh fh false i; omega)
    rw [hW] at I1
    rw [hH] at I2
    refine ((FC n gb (some ⟨bw, 0, none⟩) _ _ _ (some ⟨bh, 0, none⟩) _ _ _ pg _ cg _ v hn g (by omega) (by omega) (by omega) I1 I2 ig).1 ⟨rfl, rfl, rfl, W0, fun c hc => (HH c hc).1, G0, O0⟩).mono ?_
    rintro e' w' ⟨l, rfl, b, o⟩
    exact ⟨l, rfl, b, own_fl hn.1 HH O0 o⟩
  · exact fun c hc => flF_sign hn.1 hc HH O0
  · intro c s hc hs
    have ht := t_lt hc hs
    have eb := eE_lt hn.1 ht
    have a1 := G0 _ eb
    have a2 := flF_side (W := W) (H := H) (F := allF n W F) hn.1 ht
    have k1 := tkb _ ht
    have k2 := tkb _ (mt_lt hn.1 ht)
    have g1 := takes_side (W := W) hn.1 ht HH O0
    refine ⟨eb, og_max _ _ _, ?_, ?_⟩
    · rw [← g1]
      split <;> split <;> omega
    · refine ⟨?_, ?_, by omega, by omega⟩
      · unfold eS
        split <;> omega
      · unfold eS
        split <;> omega
  · intro c hc
    have e1 := takes_cell n W H (allF n W F) c
    have e2 : sumN (fun j => og n (allF n W F) (4 * c + j)) 4 = oS n (allF n W F) c := rfl
    have m := takes_most (n := n) (F := allF n W F) (HH c hc).1 (HH c hc).2 (O0 c hc)
    rw [hW, hH, e1, e2]
    exact ⟨m.1, rfl, m.2⟩
  · exact fun c s hc hs => sum4 _ (fun j hj => ogb _ (t_lt hc hj)) s hs
  · exact fun c s hc hs => sum4 _ (fun j hj => tkb _ (t_lt hc hj)) s hs
end Tr
end Go.Proofs.YtnnganbcjfkbiaaDoor

namespace Go.Proofs.YtnnganbcjfkbiaaDoor
open Go.ChangeShapes Go.WideShapes Go.ChangeAt Go.WideMaps Go.WideElems Go.RowKit Go.Deep
namespace Sh
theorem trod_int {H : Type} {enc : TypeId × Value → H} {P : Program} {w : World} {base : Nat} {spare : Nat → Bool} {held : Bool} {t : TypeId} {fuel : Nat} {v : Value} {x : DataW H × List MemPlace} (ht : P.underlying t = some (.int .i64)) (h : DataW.trod enc P w base spare held fuel t [v] = some x) :
    ∃ b, v = .int .i64 b ∧ (-9223372036854775808 ≤ b ∧ b ≤ 9223372036854775807) := by
  obtain ⟨k, e, _, wf⟩ := DataW.trod_int ht h
  simp at e
  simp only [Lit.wf, Bool.and_eq_true, decide_eq_true_eq] at wf
  have q1 : IntKind.i64.min = -9223372036854775808 := by decide
  have q2 : IntKind.i64.max = 9223372036854775807 := by decide
  rw [q1, q2] at wf
  exact ⟨k, e, wf⟩
theorem cell_block {w : World} {a : Addr} {v : Value} (h : w.cell? a = some v) : a.block < w.heap.size := by
  by_cases c : a.block < w.heap.size
  · exact c
  · exfalso
    have : w.heap[a.block]? = none := by simp; omega
    simp [World.cell?, this] at h
theorem pick_fn {α : Type} {n : Nat} {R : Nat → α → Prop} (d : α) (h : ∀ i, i < n → ∃ x, R i x) : ∃ f : Nat → α, ∀ i, i < n → R i (f i) := by
  have : ∀ i, ∃ x, i < n → R i x := fun i => by
    by_cases c : i < n
    · obtain ⟨x, h1⟩ := h i c
      exact ⟨x, fun _ => h1⟩
    · exact ⟨d, fun h => absurd h c⟩
  exact ⟨fun i => (this i).choose, fun i hi => (this i).choose_spec hi⟩
theorem list_open {H : Type} {enc : TypeId × Value → H} {W : World} {cs : List Value} {fuel : Nat} {x : DataW H × List MemPlace}
    (hf : DataW.trod enc Tryd.prog W 0 (fun _ => true) true fuel 22 cs = some x) : ∃ a0 len cap xs, cs = [.slice a0 len cap] ∧ IsI W a0 len xs ∧ len ≤ cap ∧ cap ≤ maxLen := by
  rcases open_slice1 Tryd.underlying22 (by kernel_rfl) hf with ⟨hcs, _⟩ | ⟨a, l, c, m, n, V, D, Pl, hcs, _, hl, hm, hmm, _, hx⟩
  · exact ⟨none, 0, 0, fun _ => 0, hcs, fun k hk => by omega, Nat.le_refl _, Nat.zero_le _⟩
  · simp only [if_true] at hmm
    have each : ∀ i, i < l → ∃ x : Int, W.cell? (a.add i) = some (.int .i64 x) ∧ (-9223372036854775808 ≤ x ∧ x ≤ 9223372036854775807) := by
      intro i hi
      obtain ⟨h1, h2⟩ := hx i (by omega)
      obtain ⟨x, e, wx⟩ := trod_int Tryd.underlying2 h2
      rw [e] at h1
      exact ⟨x, h1, wx⟩
    obtain ⟨f, hf⟩ := pick_fn 0 each
    refine ⟨some a, l, c, f, hcs, fun k hk => ⟨(hf k hk).2, ?_⟩, hl, hm⟩
    have h0 := (hf k hk).1
    have z := (hf 0 (by omega)).1
    obtain ⟨b, off, spot⟩ := a
    have hspot : spot = none := by simpa [Addr.add] using World.cell?_spot z
    subst hspot
    rw [add_off] at h0
    exact ⟨b, off, rfl, cell_block h0, h0⟩
end Sh
end Go.Proofs.YtnnganbcjfkbiaaDoor

namespace Go.Proofs.YtnnganbcjfkbiaaDoor
open Go.RowKit Go.Deep
namespace Sh
set_option maxRecDepth 100000 in
theorem bel_at (x : Int) (w : World) : Calls Tryd.prog 27 #[.int .i64 x] w fun e w' => e = .returned (.bool (decide (x < 0))) ∧ w' = w := by
  go_enter Tryd.func27, Tryd.ntmps27
  go_wp2
  go_ret
  exact ⟨rfl, rfl⟩
/-- too great a flow -/
def far (x : Int) : Bool := decide (x < -4503599627370496) || decide (4503599627370496 < x)
set_option maxRecDepth 100000 in
theorem far_at (x : Int) (w : World) : Calls Tryd.prog 28 #[.int .i64 x] w fun e w' => e = .returned (.bool (far x)) ∧ w' = w := by
  cases h1 : decide (x < -4503599627370496) with
  | true =>
    have F : Hid (far x = true) := by show _ = _; unfold far; rw [h1]; rfl
    go_enter Tryd.func28, Tryd.ntmps28
    go_wp2
    go_ret
    exact ⟨by rw [F.out]; rfl, rfl⟩
  | false =>
    cases h2 : decide (4503599627370496 < x) with
    | true =>
      have F : Hid (far x = true) := by show _ = _; unfold far; rw [h1, h2]; rfl
      go_enter Tryd.func28, Tryd.ntmps28
      go_wp2
      go_ret
      exact ⟨by rw [F.out]; rfl, rfl⟩
    | false =>
      have F : Hid (far x = false) := by show _ = _; unfold far; rw [h1, h2]; rfl
      go_enter Tryd.func28, Tryd.ntmps28
      go_wp2
      go_ret
      exact ⟨by rw [F.out]; rfl, rfl⟩
set_option maxRecDepth 100000 in
set_option maxHeartbeats 8000000 in
theorem idxbel_no (p : Option Addr) (n cp : Nat) (f : Nat → Int) (w : World) (hn : n ≤ 65536) (hf : IsI w p n f) (HA : Hid (∀ i, i < n → decide (f i < 0) = false)) :
    Calls Tryd.prog 41 #[.slice p n cp, .func (.func 27) #[] #[]] w fun e w' => e = .returned (.int .i64 (-1)) ∧ w' = w := by
  have HF := hid hf
  have HN := hid hn
  clear hf hn
  go_enter Tryd.func41, Tryd.ntmps41
  go_wp2
  go_loopw [8] (fun iv wr => ∃ c : Nat, c ≤ n ∧ iv = .int .i64 (c : Nat) ∧ wr = w) (fun iv _ => n - (intOf iv).toNat)
  case atStart => exact ⟨0, by omega, rfl, rfl⟩
  case round =>
    obtain ⟨c, hc, rfl, hwr⟩ := hrel
    have hwr2 := hwr.symm
    subst hwr2
    by_cases hcn : c < n
    · have HC := hid hcn
      have hcI : (c : Int) < n := by omega
      have hcB : (c : Int) ≤ 65536 := by have := HN.out; omega
      obtain ⟨b0, o0, rfl⟩ := HF.out.some0 (show 0 < n by omega)
      obtain ⟨x, hx⟩ : ∃ x, f c = x := ⟨_, rfl⟩
      have at0 := HF.out.at0 hcn
      have hp := HA.out c hcn
      rw [hx] at at0 hp
      have xc := at0.2.2
      have CF := hid (bel_at x w)
      rw [hp] at CF
      clear at0 hx hcn hc hp
      go_wp2_with fail
      refine CF.out.mono ?_
      rintro e9 v9 ⟨rfl, hv9⟩
      have hv8 := hv9.symm
      subst hv8
      go_wp2
      exact ⟨⟨c + 1, by have := HC.out; omega, by simp, by first | trivial | rfl⟩, by have := HC.out; simp [intOf]; omega⟩
    · have e6 : n = c := by omega
      subst e6
      go_wp2
      go_ret
      exact ⟨rfl, by first | trivial | rfl⟩
set_option maxRecDepth 100000 in
set_option maxHeartbeats 8000000 in
theorem idxbel_yes (p : Option Addr) (n cp : Nat) (f : Nat → Int) (w : World) (hn : n ≤ 65536) (hf : IsI w p n f) (HA : Hid (¬ ∀ i, i < n → decide (f i < 0) = false)) :
    Calls Tryd.prog 41 #[.slice p n cp, .func (.func 27) #[] #[]] w fun e w' => (∃ i : Nat, i ≤ 65536 ∧ e = .returned (.int .i64 (i : Nat))) ∧ w' = w := by
  have HF := hid hf
  have HN := hid hn
  clear hf hn
  go_enter Tryd.func41, Tryd.ntmps41
  go_wp2
  go_loopw [8] (fun iv wr => ∃ c : Nat, c ≤ n ∧ iv = .int .i64 (c : Nat) ∧ (∀ i, i < c → decide (f i < 0) = false) ∧ wr = w) (fun iv _ => n - (intOf iv).toNat)
  case atStart => exact ⟨0, by omega, rfl, fun i hi => absurd hi (Nat.not_lt_zero i), rfl⟩
  case round =>
    obtain ⟨c, hc, rfl, g1, hwr⟩ := hrel
    have hwr2 := hwr.symm
    subst hwr2
    have G1 := hid g1
    clear g1
    by_cases hcn : c < n
    · have HC := hid hcn
      have hcI : (c : Int) < n := by omega
      have hcB : (c : Int) ≤ 65536 := by have := HN.out; omega
      obtain ⟨b0, o0, rfl⟩ := HF.out.some0 (show 0 < n by omega)
      obtain ⟨x, hx⟩ : ∃ x, f c = x := ⟨_, rfl⟩
      have at0 := HF.out.at0 hcn
      rw [hx] at at0
      have xc := at0.2.2
      have CF := hid (bel_at x w)
      have XE := hid hx
      clear at0 hx hcn hc
      cases hp : decide (x < 0) with
      | true =>
        rw [hp] at CF
        have hp2 := hid hp
        clear hp
        go_wp2_with fail
        refine CF.out.mono ?_
        rintro e9 v9 ⟨rfl, hv9⟩
        have hv8 := hv9.symm
        subst hv8
        go_wp2
        go_ret
        exact ⟨⟨c, by have := HC.out; have := HN.out; omega, rfl⟩, by first | trivial | rfl⟩
      | false =>
        rw [hp] at CF
        have hp2 := hid hp
        clear hp
        go_wp2_with fail
        refine CF.out.mono ?_
        rintro e9 v9 ⟨rfl, hv9⟩
        have hv8 := hv9.symm
        subst hv8
        go_wp2
        refine ⟨⟨c + 1, by have := HC.out; omega, by simp, fun i hi => ?_, by first | trivial | rfl⟩, by have := HC.out; simp [intOf]; omega⟩
        by_cases l : i < c
        · exact G1.out i l
        · obtain rfl : i = c := by omega
          rw [XE.out]
          exact hp2.out
    · have e6 : n = c := by omega
      subst e6
      exact absurd G1.out HA.out
set_option maxRecDepth 100000 in
set_option maxHeartbeats 4000000 in
theorem hasbel_no (p : Option Addr) (n cp : Nat) (f : Nat → Int) (w : World) (hn : n ≤ 65536) (hf : IsI w p n f) (HA : ∀ i, i < n → decide (f i < 0) = false) :
    Calls Tryd.prog 26 #[.slice p n cp, .func (.func 27) #[] #[]] w fun e w' => e = .returned (.bool false) ∧ w' = w := by
  have IX := hid (idxbel_no p n cp f w hn hf HA)
  clear hn hf HA
  go_enter Tryd.func26, Tryd.ntmps26
  go_wp2_with fail
  refine IX.out.mono ?_
  rintro e9 v9 ⟨rfl, hv9⟩
  have hv8 := hv9.symm
  subst hv8
  go_wp2
  go_ret
  exact ⟨rfl, rfl⟩
set_option maxRecDepth 100000 in
set_option maxHeartbeats 4000000 in
theorem hasbel_yes (p : Option Addr) (n cp : Nat) (f : Nat → Int) (w : World) (hn : n ≤ 65536) (hf : IsI w p n f) (HA : ¬ ∀ i, i < n → decide (f i < 0) = false) :
    Calls Tryd.prog 26 #[.slice p n cp, .func (.func 27) #[] #[]] w fun e w' => e = .returned (.bool true) ∧ w' = w := by
  have IX := hid (idxbel_yes p n cp f w hn hf HA)
  clear hn hf HA
  go_enter Tryd.func26, Tryd.ntmps26
  go_wp2_with fail
  refine IX.out.mono ?_
  rintro e9 v9 ⟨⟨i, hi, rfl⟩, hv9⟩
  have hv8 := hv9.symm
  subst hv8
  go_wp2
  go_ret
  exact ⟨rfl, rfl⟩
set_option maxRecDepth 100000 in
set_option maxHeartbeats 8000000 in
theorem idxfar_no (p : Option Addr) (n cp : Nat) (f : Nat → Int) (w : World) (hn : n ≤ 65536) (hf : IsI w p n f) (HA : Hid (∀ i, i < n → far (f i) = false)) :
    Calls Tryd.prog 41 #[.slice p n cp, .func (.func 28) #[] #[]] w fun e w' => e = .returned (.int .i64 (-1)) ∧ w' = w := by
  have HF := hid hf
  have HN := hid hn
  clear hf hn
  go_enter Tryd.func41, Tryd.ntmps41
  go_wp2
  go_loopw [8] (fun iv wr => ∃ c : Nat, c ≤ n ∧ iv = .int .i64 (c : Nat) ∧ wr = w) (fun iv _ => n - (intOf iv).toNat)
  case atStart => exact ⟨0, by omega, rfl, rfl⟩
  case round =>
    obtain ⟨c, hc, rfl, hwr⟩ := hrel
    have hwr2 := hwr.symm
    subst hwr2
    by_cases hcn : c < n
    · have HC := hid hcn
      have hcI : (c : Int) < n := by omega
      have hcB : (c : Int) ≤ 65536 := by have := HN.out; omega
      obtain ⟨b0, o0, rfl⟩ := HF.out.some0 (show 0 < n by omega)
      obtain ⟨x, hx⟩ : ∃ x, f c = x := ⟨_, rfl⟩
      have at0 := HF.out.at0 hcn
      have hp := HA.out c hcn
      rw [hx] at at0 hp
      have xc := at0.2.2
      have CF := hid (far_at x w)
      rw [hp] at CF
      clear at0 hx hcn hc hp
      go_wp2_with fail
      refine CF.out.mono ?_
      rintro e9 v9 ⟨rfl, hv9⟩
      have hv8 := hv9.symm
      subst hv8
      go_wp2
      exact ⟨⟨c + 1, by have := HC.out; omega, by simp, by first | trivial | rfl⟩, by have := HC.out; simp [intOf]; omega⟩
    · have e6 : n = c := by omega
      subst e6
      go_wp2
      go_ret
      exact ⟨rfl, by first | trivial | rfl⟩
set_option maxRecDepth 100000 in
set_option maxHeartbeats 8000000 in
theorem idxfar_yes (p : Option Addr) (n cp : Nat) (f : Nat → Int) (w : World) (hn : n ≤ 65536) (hf : IsI w p n f) (HA : Hid (¬ ∀ i, i < n → far (f i) = false)) :
    Calls Tryd.prog 41 #[.slice p n cp, .func (.func 28) #[] #[]] w fun e w' => (∃ i : Nat, i ≤ 65536 ∧ e = .returned (.int .i64 (i : Nat))) ∧ w' = w := by
  have HF := hid hf
  have HN := hid hn
  clear hf hn
  go_enter Tryd.func41, Tryd.ntmps41
  go_wp2
  go_loopw [8] (fun iv wr => ∃ c : Nat, c ≤ n ∧ iv = .int .i64 (c : Nat) ∧ (∀ i, i < c → far (f i) = false) ∧ wr = w) (fun iv _ => n - (intOf iv).toNat)
  case atStart => exact ⟨0, by omega, rfl, fun i hi => absurd hi (Nat.not_lt_zero i), rfl⟩
  case round =>
    obtain ⟨c, hc, rfl, g1, hwr⟩ := hrel
    have hwr2 := hwr.symm
    subst hwr2
    have G1 := hid g1
    clear g1
    by_cases hcn : c < n
    · have HC := hid hcn
      have hcI : (c : Int) < n := by omega
      have hcB : (c : Int) ≤ 65536 := by have := HN.out; omega
      obtain ⟨b0, o0, rfl⟩ := HF.out.some0 (show 0 < n by omega)
      obtain ⟨x, hx⟩ : ∃ x, f c = x := ⟨_, rfl⟩
      have at0 := HF.out.at0 hcn
      rw [hx] at at0
      have xc := at0.2.2
      have CF := hid (far_at x w)
      have XE := hid hx
      clear at0 hx hcn hc
      cases hp : far (x) with
      | true =>
        rw [hp] at CF
        have hp2 := hid hp
        clear hp
        go_wp2_with fail
        refine CF.out.mono ?_
        rintro e9 v9 ⟨rfl, hv9⟩
        have hv8 := hv9.symm
        subst hv8
        go_wp2
        go_ret
        exact ⟨⟨c, by have := HC.out; have := HN.out; omega, rfl⟩, by first | trivial | rfl⟩
      | false =>
        rw [hp] at CF
        have hp2 := hid hp
        clear hp
        go_wp2_with fail
        refine CF.out.mono ?_
        rintro e9 v9 ⟨rfl, hv9⟩
        have hv8 := hv9.symm
        subst hv8
        go_wp2
        refine ⟨⟨c + 1, by have := HC.out; omega, by simp, fun i hi => ?_, by first | trivial | rfl⟩, by have := HC.out; simp [intOf]; omega⟩
        by_cases l : i < c
        · exact G1.out i l
        · obtain rfl : i = c := by omega
          rw [XE.out]
          exact hp2.out
    · have e6 : n = c := by omega
      subst e6
      exact absurd G1.out HA.out
set_option maxRecDepth 100000 in
set_option maxHeartbeats 4000000 in
theorem hasfar_no (p : Option Addr) (n cp : Nat) (f : Nat → Int) (w : World) (hn : n ≤ 65536) (hf : IsI w p n f) (HA : ∀ i, i < n → far (f i) = false) :
    Calls Tryd.prog 26 #[.slice p n cp, .func (.func 28) #[] #[]] w fun e w' => e = .returned (.bool false) ∧ w' = w := by
  have IX := hid (idxfar_no p n cp f w hn hf HA)
  clear hn hf HA
  go_enter Tryd.func26, Tryd.ntmps26
  go_wp2_with fail
  refine IX.out.mono ?_
  rintro e9 v9 ⟨rfl, hv9⟩
  have hv8 := hv9.symm
  subst hv8
  go_wp2
  go_ret
  exact ⟨rfl, rfl⟩
set_option maxRecDepth 100000 in
set_option maxHeartbeats 4000000 in
theorem hasfar_yes (p : Option Addr) (n cp : Nat) (f : Nat → Int) (w : World) (hn : n ≤ 65536) (hf : IsI w p n f) (HA : ¬ ∀ i, i < n → far (f i) = false) :
    Calls Tryd.prog 26 #[.slice p n cp, .func (.func 28) #[] #[]] w fun e w' => e = .returned (.bool true) ∧ w' = w := by
  have IX := hid (idxfar_yes p n cp f w hn hf HA)
  clear hn hf HA
  go_enter Tryd.func26, Tryd.ntmps26
  go_wp2_with fail
  refine IX.out.mono ?_
  rintro e9 v9 ⟨⟨i, hi, rfl⟩, hv9⟩
  have hv8 := hv9.symm
  subst hv8
  go_wp2
  go_ret
  exact ⟨rfl, rfl⟩
end Sh
end Go.Proofs.YtnnganbcjfkbiaaDoor
