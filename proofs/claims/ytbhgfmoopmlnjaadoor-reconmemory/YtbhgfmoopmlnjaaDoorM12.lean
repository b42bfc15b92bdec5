/-
  Some of the texts of this proof, one behind the other.
-/
import Derived.Test.YtbhgfmoopmlnjaaDoorM11
namespace Go.Proofs.YtbhgfmoopmlnjaaDoor
open Go.RowKit Tf Cu Go.Deep
attribute [local go_sem] run_bits run_from raw_feq raw_fne raw_flt raw_fgt run_neg run_store_float
/-- three lists of the call's own -/
def Own3 (W : World) (b7 b8 b9 M3 N3 : Nat) (fb : Nat → Nat) (fw : Nat → Int) (fs : Nat → Nat) (v : World) : Prop :=
  Ab W v ∧ v.rowIs b7 33 M3 (fun i => .float .f64 (fb i)) ∧ v.rowIs b8 2 M3 (fun i => .int .i64 (fw i)) ∧ v.rowIs b9 33 N3 (fun i => .float .f64 (fs i))
def Ap3 (W : World) (b7 b8 b9 : Nat) : Prop := (W.heap.size ≤ b7 ∧ W.heap.size ≤ b8 ∧ W.heap.size ≤ b9) ∧ b7 ≠ b8 ∧ b7 ≠ b9 ∧ b8 ≠ b9
theorem Own3.to {W : World} {b7 b8 b9 M3 N3 : Nat} {fb : Nat → Nat} {fw : Nat → Int} {fs : Nat → Nat} {v v' : World} (h : Own3 W b7 b8 b9 M3 N3 fb fw fs v) (a : Ab v v') : Own3 W b7 b8 b9 M3 N3 fb fw fs v' :=
  ⟨h.1.trans a, rowIs.ab h.2.1 a, rowIs.ab h.2.2.1 a, rowIs.ab h.2.2.2 a⟩
theorem Own3.set7 {W : World} {b7 b8 b9 M3 N3 : Nat} {fb : Nat → Nat} {fw : Nat → Int} {fs : Nat → Nat} {v : World} (h : Own3 W b7 b8 b9 M3 N3 fb fw fs v) (a : Ap3 W b7 b8 b9) (k x : Nat) : Own3 W b7 b8 b9 M3 N3 (fun i => if i = k then x else fb i) fw fs (v.setCell ⟨b7, k, none⟩ (.float .f64 x)) := by
  obtain ⟨h1, h2, h3, h4⟩ := h
  obtain ⟨⟨a1, a2, a3⟩, a4, a5, a6⟩ := a
  refine ⟨h1.setk a1 _, (h2.set k _).congr (fun i _ => ?_), h3.setOther (Ne.symm a4) _, h4.setOther (Ne.symm a5) _⟩
  by_cases e : i = k
  · simp [e]
  · simp [e]
theorem Own3.set8 {W : World} {b7 b8 b9 M3 N3 : Nat} {fb : Nat → Nat} {fw : Nat → Int} {fs : Nat → Nat} {v : World} (h : Own3 W b7 b8 b9 M3 N3 fb fw fs v) (a : Ap3 W b7 b8 b9) (k : Nat) (x : Int) : Own3 W b7 b8 b9 M3 N3 fb (fun i => if i = k then x else fw i) fs (v.setCell ⟨b8, k, none⟩ (.int .i64 x)) := by
  obtain ⟨h1, h2, h3, h4⟩ := h
  obtain ⟨⟨a1, a2, a3⟩, a4, a5, a6⟩ := a
  refine ⟨h1.setk a2 _, h2.setOther a4 _, (h3.set k _).congr (fun i _ => ?_), h4.setOther (Ne.symm a6) _⟩
  by_cases e : i = k
  · simp [e]
  · simp [e]
theorem Own3.set9 {W : World} {b7 b8 b9 M3 N3 : Nat} {fb : Nat → Nat} {fw : Nat → Int} {fs : Nat → Nat} {v : World} (h : Own3 W b7 b8 b9 M3 N3 fb fw fs v) (a : Ap3 W b7 b8 b9) (k x : Nat) : Own3 W b7 b8 b9 M3 N3 fb fw (fun i => if i = k then x else fs i) (v.setCell ⟨b9, k, none⟩ (.float .f64 x)) := by
  obtain ⟨h1, h2, h3, h4⟩ := h
  obtain ⟨⟨a1, a2, a3⟩, a4, a5, a6⟩ := a
  refine ⟨h1.setk a3 _, h2.setOther a5 _, h3.setOther a6 _, (h4.set k _).congr (fun i _ => ?_)⟩
  by_cases e : i = k
  · simp [e]
  · simp [e]
/-- what is to lie in the lists -/
def Fill (M N ls c : Nat) (B : Nat → Nat) (Wt : Nat → Int) (Sp : Nat → Nat) (M3 N3 : Nat) (fb : Nat → Nat) (fw : Nat → Int) (fs : Nat → Nat) : Prop :=
  (∀ i, i < M3 → i < c → fb i = (if i < M then B i else 4619567317775286272) ∧ fw i = (if i < M then Wt i else 7)) ∧ (∀ i, i < N3 → i < c → fs i = (if i < N ∧ i < ls then Sp i else 4619567317775286272))
theorem rowIs.less {w : World} {b n m : Nat} {f : Nat → Nat} (h : w.rowIs b 33 n (fun i => .float .f64 (f i))) (hm : m ≤ n) (hf : ∀ i, i < m → f i < 18446744073709551616) : IsFl w (some ⟨b, 0, none⟩) m f := fun k hk => ⟨hf k hk, b, 0, rfl, h.lt, by rw [Nat.zero_add]; exact h.cell (by omega)⟩
theorem rowIs.lessI {w : World} {b n m : Nat} {f : Nat → Int} (h : w.rowIs b 2 n (fun i => .int .i64 (f i))) (hm : m ≤ n) (hf : ∀ i, i < m → -9223372036854775808 ≤ f i ∧ f i ≤ 9223372036854775807) : IsIn w (some ⟨b, 0, none⟩) m f := fun k hk => ⟨hf k hk, b, 0, rfl, h.lt, by rw [Nat.zero_add]; exact h.cell (by omega)⟩
theorem own3_made (W : World) (M3 N3 : Nat) : Own3 W W.heap.size (W.heap.size + 1) (W.heap.size + 1 + 1) M3 N3 (fun _ => 0) (fun _ => 0) (fun _ => 0) (((W.alloc (Obj.cells (madeCells #[.float .f64 0] M3) 33)).alloc (Obj.cells (madeCells #[.int .i64 0] M3) 2)).alloc (Obj.cells (madeCells #[.float .f64 0] N3) 33)) := by
  have h := three_of W (Obj.cells (madeCells #[.float .f64 0] M3) 33) (Obj.cells (madeCells #[.int .i64 0] M3) 2) (Obj.cells (madeCells #[.float .f64 0] N3) 33)
  exact ⟨bl3 _ _ _ _, made_row h.1, made_row h.2.1, made_row h.2.2⟩
theorem ap3_made (W : World) : Ap3 W W.heap.size (W.heap.size + 1) (W.heap.size + 1 + 1) := ⟨⟨by omega, by omega, by omega⟩, by omega, by omega, by omega⟩
set_option maxRecDepth 100000 in
set_option maxHeartbeats 4000000 in
theorem mem12_no (side lim : Int) (pb pw pt ps : Option Addr) (lb cb lw cw lt ct ls cs : Nat) (sky st : Int)  (w : World)
    (AWK : Hid (∀ v, Ab w v → Calls Tryd.prog 4 #[] v fun e w' => e = .returned (.bool true) ∧ Below v.heap.size v w'))
    (NT : Hid (∀ v, Ab w v → Calls Tryd.prog 5 #[.agg #[.int .i64 side, .int .i64 lim, .slice pb lb cb, .slice pw lw cw, .slice pt lt ct, .slice ps ls cs, .int .i64 sky, .int .i64 st]] v fun e' w' => ∃ gp, e' = .returned (.tuple #[gp, .bool false]) ∧ Below v.heap.size v w')) :
    Calls Tryd.prog 3 #[.agg #[.int .i64 side, .int .i64 lim, .slice pb lb cb, .slice pw lw cw, .slice pt lt ct, .slice ps ls cs, .int .i64 sky, .int .i64 st]] w fun e w' => e = .returned (.bool true) ∧ Below w.heap.size w w' := by
  have A0 : Hid (Ab w (w.alloc (.cells #[.int .i64 side, .int .i64 lim, .slice pb lb cb, .slice pw lw cw, .slice pt lt ct, .slice ps ls cs, .int .i64 sky, .int .i64 st] 27))) := bl1 _ _
  have RO0 : Hid ((w.alloc (.cells #[.int .i64 side, .int .i64 lim, .slice pb lb cb, .slice pw lw cw, .slice pt lt ct, .slice ps ls cs, .int .i64 sky, .int .i64 st] 27)).heap[w.heap.size]? = some (.cells #[.int .i64 side, .int .i64 lim, .slice pb lb cb, .slice pw lw cw, .slice pt lt ct, .slice ps ls cs, .int .i64 sky, .int .i64 st] 27)) := heap_alloc_new _ _
  go_enter Tryd.func3, Tryd.ntmps3
  go_wp2_with fail
  refine (AWK.out _ A0.out).mono ?_
  rintro e9 v1 ⟨rfl, k1⟩
  have A1 : Hid (Ab w v1) := A0.out.call k1
  have RO1 : Hid (v1.heap[w.heap.size]? = some (.cells #[.int .i64 side, .int .i64 lim, .slice pb lb cb, .slice pw lw cw, .slice pt lt ct, .slice ps ls cs, .int .i64 sky, .int .i64 st] 27)) := Ab.heap k1 RO0.out
  clear k1 RO0 A0
  have c0 := cell_of_row _ _ 0 _ _ _ (RO1.out)
  have c1 := cell_of_row _ _ 1 _ _ _ (RO1.out)
  have c2 := cell_of_row _ _ 2 _ _ _ (RO1.out)
  have c3 := cell_of_row _ _ 3 _ _ _ (RO1.out)
  have c4 := cell_of_row _ _ 4 _ _ _ (RO1.out)
  have c5 := cell_of_row _ _ 5 _ _ _ (RO1.out)
  have c6 := cell_of_row _ _ 6 _ _ _ (RO1.out)
  have c7 := cell_of_row _ _ 7 _ _ _ (RO1.out)
  go_wp2_with fail
  refine (NT.out _ A1.out).mono ?_
  rintro e9 v2 ⟨gp, rfl, k2⟩
  have A2 : Hid (Ab w v2) := A1.out.call k2
  clear k2
  clear c0 c1 c2 c3 c4 c5 c6 c7
  go_wp2
  go_ret
  exact ⟨rfl, A2.out⟩
set_option maxRecDepth 100000 in
set_option maxHeartbeats 32000000 in
theorem mem12_yes (side lim : Int) (bb bo wb wo M : Nat) (pt ps : Option Addr) (cb cw lt ct ls cs : Nat) (sky st : Int) (n M3 N N3 : Nat) (B : Nat → Nat) (Wt : Nat → Int) (Sp : Nat → Nat) (w : World) (h8 : ¬ 8 < (n : Int)) (hMN : M ≤ N) (hN : N ≤ 12288) (eM : (M : Int) + 3 = (M3 : Nat)) (eN : (N : Int) + 3 = (N3 : Nat))
    (AWK : Hid (∀ v, Ab w v → Calls Tryd.prog 4 #[] v fun e w' => e = .returned (.bool true) ∧ Below v.heap.size v w'))
    (NT : Hid (∀ v, Ab w v → Calls Tryd.prog 5 #[.agg #[.int .i64 side, .int .i64 lim, .slice (some ⟨bb, bo, none⟩) M cb, .slice (some ⟨wb, wo, none⟩) M cw, .slice pt lt ct, .slice ps ls cs, .int .i64 sky, .int .i64 st]] v fun e' w' => ∃ gb, e' = .returned (.tuple #[.pointer (some ⟨gb, 0, none⟩), .bool true]) ∧ Below v.heap.size v w' ∧ GridOf n gb w'))
    (CC : Hid (∀ gb v, GridOf n gb v → Calls Tryd.prog 7 #[.pointer (some ⟨gb, 0, none⟩)] v fun e w' => e = .returned (.int .i64 (M : Nat)) ∧ w' = v))
    (CI : Hid (∀ gb v, GridOf n gb v → Calls Tryd.prog 6 #[.pointer (some ⟨gb, 0, none⟩)] v fun e w' => e = .returned (.int .i64 (n : Nat)) ∧ w' = v))
    (CE : Hid (∀ gb v, GridOf n gb v → Calls Tryd.prog 8 #[.pointer (some ⟨gb, 0, none⟩)] v fun e w' => e = .returned (.int .i64 (N : Nat)) ∧ w' = v))
    (FB : Hid (∀ c, c < M → ∀ v, Ab w v → v.cell? ⟨bb, bo + c, none⟩ = some (.float .f64 (B c)))) (FA : Hid (∀ c, c < M → ∀ v, Ab w v → v.cell? ⟨wb, wo + c, none⟩ = some (.int .i64 (Wt c))))
    (LB : Hid (∀ c, c < M → B c < 18446744073709551616)) (LW : Hid (∀ c, c < M → -9223372036854775808 ≤ Wt c ∧ Wt c ≤ 9223372036854775807)) (OS : Hid (IsFl w ps ls Sp))
    (DS : Hid (∀ (gb b7 b8 b9 : Nat) (fb : Nat → Nat) (fw : Nat → Int) (fs : Nat → Nat), ∃ D : Nat → Nat, (∀ i, i < N → D i < 18446744073709551616) ∧ ∀ v : World, GridOf n gb v → IsFl v (some ⟨b7, 0, none⟩) M fb → IsIn v (some ⟨b8, 0, none⟩) M fw → IsFl v (some ⟨b9, 0, none⟩) N fs → Calls Tryd.prog 10 #[.pointer (some ⟨gb, 0, none⟩), .int .i64 lim, .agg #[.slice (some ⟨b7, 0, none⟩) M M3, .slice (some ⟨b8, 0, none⟩) M M3, .slice none 0 0, .slice (some ⟨b9, 0, none⟩) N N3, .int .i64 0, .int .i64 0]] v fun e w' => ∃ b, e = .returned (.tuple #[.slice (some ⟨b, 0, none⟩) N N, .int .i64 0]) ∧ Below v.heap.size v w' ∧ w'.rowIs b 33 N (fun i => .float .f64 (D i)) ∧ v.heap.size ≤ b)) :
    Calls Tryd.prog 3 #[.agg #[.int .i64 side, .int .i64 lim, .slice (some ⟨bb, bo, none⟩) M cb, .slice (some ⟨wb, wo, none⟩) M cw, .slice pt lt ct, .slice ps ls cs, .int .i64 sky, .int .i64 st]] w fun e w' => e = .returned (.bool true) ∧ Below w.heap.size w w' := by
  have HN := hid hN
  have HMN := hid hMN
  have hM3 : M3 = M + 3 := by omega
  have hN3 : N3 = N + 3 := by omega
  have H3 := hid (And.intro hM3 hN3)
  clear hN hMN hM3 hN3
  have A0 : Hid (Ab w (w.alloc (.cells #[.int .i64 side, .int .i64 lim, .slice (some ⟨bb, bo, none⟩) M cb, .slice (some ⟨wb, wo, none⟩) M cw, .slice pt lt ct, .slice ps ls cs, .int .i64 sky, .int .i64 st] 27))) := bl1 _ _
  have RO0 : Hid ((w.alloc (.cells #[.int .i64 side, .int .i64 lim, .slice (some ⟨bb, bo, none⟩) M cb, .slice (some ⟨wb, wo, none⟩) M cw, .slice pt lt ct, .slice ps ls cs, .int .i64 sky, .int .i64 st] 27)).heap[w.heap.size]? = some (.cells #[.int .i64 side, .int .i64 lim, .slice (some ⟨bb, bo, none⟩) M cb, .slice (some ⟨wb, wo, none⟩) M cw, .slice pt lt ct, .slice ps ls cs, .int .i64 sky, .int .i64 st] 27)) := heap_alloc_new _ _
  go_enter Tryd.func3, Tryd.ntmps3
  go_wp2_with fail
  refine (AWK.out _ A0.out).mono ?_
  rintro e9 v1 ⟨rfl, k1⟩
  have A1 : Hid (Ab w v1) := A0.out.call k1
  have RO1 : Hid (v1.heap[w.heap.size]? = some (.cells #[.int .i64 side, .int .i64 lim, .slice (some ⟨bb, bo, none⟩) M cb, .slice (some ⟨wb, wo, none⟩) M cw, .slice pt lt ct, .slice ps ls cs, .int .i64 sky, .int .i64 st] 27)) := Ab.heap k1 RO0.out
  clear k1 RO0 A0
  have c0 := cell_of_row _ _ 0 _ _ _ (RO1.out)
  have c1 := cell_of_row _ _ 1 _ _ _ (RO1.out)
  have c2 := cell_of_row _ _ 2 _ _ _ (RO1.out)
  have c3 := cell_of_row _ _ 3 _ _ _ (RO1.out)
  have c4 := cell_of_row _ _ 4 _ _ _ (RO1.out)
  have c5 := cell_of_row _ _ 5 _ _ _ (RO1.out)
  have c6 := cell_of_row _ _ 6 _ _ _ (RO1.out)
  have c7 := cell_of_row _ _ 7 _ _ _ (RO1.out)
  go_wp2_with fail
  refine (NT.out _ A1.out).mono ?_
  rintro e9 Wa ⟨gb, rfl, k2, g2⟩
  have AWa : Hid (Ab w Wa) := A1.out.call k2
  have ROa : Hid (Wa.heap[w.heap.size]? = some (.cells #[.int .i64 side, .int .i64 lim, .slice (some ⟨bb, bo, none⟩) M cb, .slice (some ⟨wb, wo, none⟩) M cw, .slice pt lt ct, .slice ps ls cs, .int .i64 sky, .int .i64 st] 27)) := Ab.heap k2 RO1.out
  have GGa := hid g2
  clear k2 g2 RO1 A1
  clear c0 c1 c2 c3 c4 c5 c6 c7
  go_wp2_with fail
  refine (CI.out _ _ GGa.out).mono ?_
  rintro e9 vq ⟨rfl, hvq⟩
  have hvq2 := hvq.symm
  subst hvq2
  go_wp2_with fail
  refine (CC.out _ _ GGa.out).mono ?_
  rintro e9 vq ⟨rfl, hvq⟩
  have hvq2 := hvq.symm
  subst hvq2
  go_wp2_with fail
  refine (CE.out _ _ GGa.out).mono ?_
  rintro e9 vq ⟨rfl, hvq⟩
  have hvq2 := hvq.symm
  subst hvq2
  have K1 : ∀ v : World, (Instr.makeSlice 22 (.int .i64 (M3 : Nat)) (.int .i64 (M3 : Nat))).run Tryd.prog v = .ok (.slice (some ⟨v.heap.size, 0, none⟩) M3 M3) (v.alloc (Obj.cells (madeCells #[.float .f64 0] M3) 33)) := fun v =>
    run_make_row' (P := Tryd.prog) 22 33 (.float .f64 0) 8 Tryd.underlying22 infoF64 rfl .i64 .i64 M3 (by have := HN.out; have := HMN.out; have := H3.out; omega) (by have := HN.out; have := HMN.out; have := H3.out; omega) v
  have K2 : ∀ v : World, (Instr.makeSlice 23 (.int .i64 (M3 : Nat)) (.int .i64 (M3 : Nat))).run Tryd.prog v = .ok (.slice (some ⟨v.heap.size, 0, none⟩) M3 M3) (v.alloc (Obj.cells (madeCells #[.int .i64 0] M3) 2)) := fun v =>
    run_make_row' (P := Tryd.prog) 23 2 (.int .i64 0) 8 Tryd.underlying23 info64 rfl .i64 .i64 M3 (by have := HN.out; have := HMN.out; have := H3.out; omega) (by have := HN.out; have := HMN.out; have := H3.out; omega) v
  have K3 : ∀ v : World, (Instr.makeSlice 22 (.int .i64 (N3 : Nat)) (.int .i64 (N3 : Nat))).run Tryd.prog v = .ok (.slice (some ⟨v.heap.size, 0, none⟩) N3 N3) (v.alloc (Obj.cells (madeCells #[.float .f64 0] N3) 33)) := fun v =>
    run_make_row' (P := Tryd.prog) 22 33 (.float .f64 0) 8 Tryd.underlying22 infoF64 rfl .i64 .i64 N3 (by have := HN.out; have := HMN.out; have := H3.out; omega) (by have := HN.out; have := HMN.out; have := H3.out; omega) v
  have bN : (N : Int) ≤ 12288 := by have := HN.out; omega
  have bM : (M : Int) ≤ 12288 := by have := HN.out; have := HMN.out; omega
  go_upto_region 11 with fail
  have OW0 := hid (own3_made Wa M3 N3)
  have AP0 := hid (ap3_made Wa)
  generalize hV : World.alloc (World.alloc (World.alloc Wa _) _) _ = V0 at *
  obtain ⟨b7, hb7⟩ : ∃ x, Wa.heap.size = x := ⟨_, rfl⟩
  obtain ⟨b8, hb8⟩ : ∃ x, Wa.heap.size + 1 = x := ⟨_, rfl⟩
  obtain ⟨b9, hb9⟩ : ∃ x, Wa.heap.size + 1 + 1 = x := ⟨_, rfl⟩
  rw [hb9, hb8, hb7] at OW0 AP0
  rw [hb9, hb8, hb7]
  clear hV hb7 hb8 hb9 K1 K2 K3
  have h8b : decide (8 < (n : Int)) = false := decide_eq_false (by omega)
  have IN : Hid (∃ fb fw fs, Own3 Wa b7 b8 b9 M3 N3 fb fw fs V0 ∧ Fill M N ls 0 B Wt Sp M3 N3 fb fw fs) := ⟨_, _, _, OW0.out, fun i _ h => by omega, fun i _ h => by omega⟩
  clear OW0
  go_wp2
  go_loopw [10] (fun iv wr => ∃ c : Nat, c ≤ N3 ∧ iv = .int .i64 (c : Nat) ∧ ∃ fb fw fs, Own3 Wa b7 b8 b9 M3 N3 fb fw fs wr ∧ Fill M N ls c B Wt Sp M3 N3 fb fw fs) (fun iv _ => N3 - (intOf iv).toNat)
  case atStart => exact ⟨0, by omega, rfl, IN.out⟩
  case round =>
    obtain ⟨c, hc, rfl, fb, fw, fs, ow, fi⟩ := hrel
    clear IN
    have OW := hid ow
    have FI := hid fi
    clear ow fi
    by_cases hcN : c < N3
    · have HC := hid hcN
      have hcI : (c : Int) < N3 := by omega
      have hcB : (c : Int) ≤ 12300 := by have := HN.out; have := H3.out; omega
      have HC3 := hid hc
      clear hc
      have xc := OW.out.2.2.2.cell HC.out
      have xf := OW.out.2.2.2.frozen c
      go_upto_region 15 with fail
      have O1 := hid (OW.out.set9 AP0.out c 4619567317775286272)
      clear xc xf OW
      generalize World.setCell wr _ _ = v1 at *
      by_cases hm3 : c < M3
      · have HM3 := hid hm3
        have m3 : (c : Int) < M3 := by omega
        have xc := O1.out.2.1.cell HM3.out
        have xf := O1.out.2.1.frozen c
        go_upto_region 17 with fail
        have O2 := hid (O1.out.set7 AP0.out c 4619567317775286272)
        clear xc xf O1
        generalize World.setCell v1 _ _ = v2 at *
        have xc := O2.out.2.2.1.cell HM3.out
        have xf := O2.out.2.2.1.frozen c
        go_upto_region 18 with fail
        have O3 := hid (O2.out.set8 AP0.out c 7)
        clear xc xf O2
        generalize World.setCell v2 _ _ = v3 at *
        by_cases hm : c < M
        · have HM1 := hid hm
          have m1 : (c : Int) < M := by omega
          have y2 := cell_of_row _ _ 2 _ _ _ (O3.out.1.heap ROa.out)
          have x2 := FB.out c HM1.out _ (AWa.out.trans O3.out.1)
          have xc := O3.out.2.1.cell HM3.out
          have xf := O3.out.2.1.frozen c
          go_upto_region 20 with fail
          have O4 := hid (O3.out.set7 AP0.out c (B c))
          clear xc xf O3 y2 x2
          generalize World.setCell v3 _ _ = v4 at *
          have y3 := cell_of_row _ _ 3 _ _ _ (O4.out.1.heap ROa.out)
          have x3 := FA.out c HM1.out _ (AWa.out.trans O4.out.1)
          have xc := O4.out.2.2.1.cell HM3.out
          have xf := O4.out.2.2.1.frozen c
          go_upto_region 21 with fail
          have O5 := hid (O4.out.set8 AP0.out c (Wt c))
          clear xc xf O4 y3 x3
          generalize World.setCell v4 _ _ = v5 at *
          by_cases hs : c < N ∧ c < ls
          · have HS := hid hs
            have s1 : (c : Int) < N := by omega
            have s2 : (c : Int) < ls := by omega
            have s3 : c < N := hs.1
            have s4 : c < ls := hs.2
            obtain ⟨ls9, b5, o5, hps, hb5, hx5⟩ := OS.out c hs.2
            clear hs
            have y5 := cell_of_row _ _ 5 _ _ _ (O5.out.1.heap ROa.out)
            rw [hps] at y5
            have x5 := (Below.cell (AWa.out.trans O5.out.1) hb5).trans hx5
            have xc := O5.out.2.2.2.cell HC.out
            have xf := O5.out.2.2.2.frozen c
            go_wp2
            refine ⟨⟨c + 1, by have := HC.out; omega, by simp, _, _, _, O5.out.set9 AP0.out c (Sp c), ⟨fun i h1 h2 => ?_, fun i h1 h2 => ?_⟩⟩, by simp [intOf]; have := HC.out; omega⟩
            · by_cases e : i = c
              · subst e
                simp [show i < M from HM1.out]
              · have q := FI.out.1 i h1 (by omega)
                first
                  | exact q
                  | (simp only [e, if_false]; exact q)
            · by_cases e : i = c
              · subst e
                simp [show i < N ∧ i < ls from HS.out]
              · have q := FI.out.2 i h1 (by omega)
                simp only [e, if_false]
                exact q
          · have HS := hid hs
            have y5 := cell_of_row _ _ 5 _ _ _ (O5.out.1.heap ROa.out)
            by_cases s3 : c < N
            · have s4 : ¬ c < ls := fun h => hs ⟨s3, h⟩
              have s1 : decide ((c : Int) < N) = true := decide_eq_true (by omega)
              have s2 : decide ((c : Int) < ls) = false := decide_eq_false (by omega)
              clear hs
              go_wp2
              refine ⟨⟨c + 1, by have := HC.out; omega, by simp, _, _, _, O5.out, ⟨fun i h1 h2 => ?_, fun i h1 h2 => ?_⟩⟩, by simp [intOf]; have := HC.out; omega⟩
              · by_cases e : i = c
                · subst e
                  simp [show i < M from HM1.out]
                · have q := FI.out.1 i h1 (by omega)
                  first
                    | exact q
                    | (simp only [e, if_false]; exact q)
              · by_cases e : i = c
                · subst e
                  simp only [if_true]; rw [if_neg HS.out]
                · have q := FI.out.2 i h1 (by omega)
                  simp only [e, if_false]
                  exact q
            · have s1 : decide ((c : Int) < N) = false := decide_eq_false (by omega)
              clear hs
              go_wp2
              refine ⟨⟨c + 1, by have := HC.out; omega, by simp, _, _, _, O5.out, ⟨fun i h1 h2 => ?_, fun i h1 h2 => ?_⟩⟩, by simp [intOf]; have := HC.out; omega⟩
              · by_cases e : i = c
                · subst e
                  simp [show i < M from HM1.out]
                · have q := FI.out.1 i h1 (by omega)
                  first
                    | exact q
                    | (simp only [e, if_false]; exact q)
              · by_cases e : i = c
                · subst e
                  simp only [if_true]; rw [if_neg HS.out]
                · have q := FI.out.2 i h1 (by omega)
                  simp only [e, if_false]
                  exact q
        · have HM1 := hid hm
          have m1 : decide ((c : Int) < M) = false := decide_eq_false (by omega)
          by_cases hs : c < N ∧ c < ls
          · have HS := hid hs
            have s1 : (c : Int) < N := by omega
            have s2 : (c : Int) < ls := by omega
            have s3 : c < N := hs.1
            have s4 : c < ls := hs.2
            obtain ⟨ls9, b5, o5, hps, hb5, hx5⟩ := OS.out c hs.2
            clear hs
            have y5 := cell_of_row _ _ 5 _ _ _ (O3.out.1.heap ROa.out)
            rw [hps] at y5
            have x5 := (Below.cell (AWa.out.trans O3.out.1) hb5).trans hx5
            have xc := O3.out.2.2.2.cell HC.out
            have xf := O3.out.2.2.2.frozen c
            go_wp2
            refine ⟨⟨c + 1, by have := HC.out; omega, by simp, _, _, _, O3.out.set9 AP0.out c (Sp c), ⟨fun i h1 h2 => ?_, fun i h1 h2 => ?_⟩⟩, by simp [intOf]; have := HC.out; omega⟩
            · by_cases e : i = c
              · subst e
                simp [show ¬ i < M from HM1.out]
              · have q := FI.out.1 i h1 (by omega)
                first
                  | exact q
                  | (simp only [e, if_false]; exact q)
            · by_cases e : i = c
              · subst e
                simp [show i < N ∧ i < ls from HS.out]
              · have q := FI.out.2 i h1 (by omega)
                simp only [e, if_false]
                exact q
          · have HS := hid hs
            have y5 := cell_of_row _ _ 5 _ _ _ (O3.out.1.heap ROa.out)
            by_cases s3 : c < N
            · have s4 : ¬ c < ls := fun h => hs ⟨s3, h⟩
              have s1 : decide ((c : Int) < N) = true := decide_eq_true (by omega)
              have s2 : decide ((c : Int) < ls) = false := decide_eq_false (by omega)
              clear hs
              go_wp2
              refine ⟨⟨c + 1, by have := HC.out; omega, by simp, _, _, _, O3.out, ⟨fun i h1 h2 => ?_, fun i h1 h2 => ?_⟩⟩, by simp [intOf]; have := HC.out; omega⟩
              · by_cases e : i = c
                · subst e
                  simp [show ¬ i < M from HM1.out]
                · have q := FI.out.1 i h1 (by omega)
                  first
                    | exact q
                    | (simp only [e, if_false]; exact q)
              · by_cases e : i = c
                · subst e
                  simp only [if_true]; rw [if_neg HS.out]
                · have q := FI.out.2 i h1 (by omega)
                  simp only [e, if_false]
                  exact q
            · have s1 : decide ((c : Int) < N) = false := decide_eq_false (by omega)
              clear hs
              go_wp2
              refine ⟨⟨c + 1, by have := HC.out; omega, by simp, _, _, _, O3.out, ⟨fun i h1 h2 => ?_, fun i h1 h2 => ?_⟩⟩, by simp [intOf]; have := HC.out; omega⟩
              · by_cases e : i = c
                · subst e
                  simp [show ¬ i < M from HM1.out]
                · have q := FI.out.1 i h1 (by omega)
                  first
                    | exact q
                    | (simp only [e, if_false]; exact q)
              · by_cases e : i = c
                · subst e
                  simp only [if_true]; rw [if_neg HS.out]
                · have q := FI.out.2 i h1 (by omega)
                  simp only [e, if_false]
                  exact q
      · have HM3 := hid hm3
        have m3 : decide ((c : Int) < M3) = false := decide_eq_false (by omega)
        have hm : ¬ c < M := by have := H3.out; omega
        have m1 : decide ((c : Int) < M) = false := decide_eq_false (by omega)
        by_cases hs : c < N ∧ c < ls
        · have HS := hid hs
          have s1 : (c : Int) < N := by omega
          have s2 : (c : Int) < ls := by omega
          have s3 : c < N := hs.1
          have s4 : c < ls := hs.2
          obtain ⟨ls9, b5, o5, hps, hb5, hx5⟩ := OS.out c hs.2
          clear hs
          have y5 := cell_of_row _ _ 5 _ _ _ (O1.out.1.heap ROa.out)
          rw [hps] at y5
          have x5 := (Below.cell (AWa.out.trans O1.out.1) hb5).trans hx5
          have xc := O1.out.2.2.2.cell HC.out
          have xf := O1.out.2.2.2.frozen c
          go_wp2
          refine ⟨⟨c + 1, by have := HC.out; omega, by simp, _, _, _, O1.out.set9 AP0.out c (Sp c), ⟨fun i h1 h2 => ?_, fun i h1 h2 => ?_⟩⟩, by simp [intOf]; have := HC.out; omega⟩
          · by_cases e : i = c
            · subst e
              exact absurd h1 HM3.out
            · have q := FI.out.1 i h1 (by omega)
              first
                | exact q
                | (simp only [e, if_false]; exact q)
          · by_cases e : i = c
            · subst e
              simp [show i < N ∧ i < ls from HS.out]
            · have q := FI.out.2 i h1 (by omega)
              simp only [e, if_false]
              exact q
        · have HS := hid hs
          have y5 := cell_of_row _ _ 5 _ _ _ (O1.out.1.heap ROa.out)
          by_cases s3 : c < N
          · have s4 : ¬ c < ls := fun h => hs ⟨s3, h⟩
            have s1 : decide ((c : Int) < N) = true := decide_eq_true (by omega)
            have s2 : decide ((c : Int) < ls) = false := decide_eq_false (by omega)
            clear hs
            go_wp2
            refine ⟨⟨c + 1, by have := HC.out; omega, by simp, _, _, _, O1.out, ⟨fun i h1 h2 => ?_, fun i h1 h2 => ?_⟩⟩, by simp [intOf]; have := HC.out; omega⟩
            · by_cases e : i = c
              · subst e
                exact absurd h1 HM3.out
              · have q := FI.out.1 i h1 (by omega)
                first
                  | exact q
                  | (simp only [e, if_false]; exact q)
            · by_cases e : i = c
              · subst e
                simp only [if_true]; rw [if_neg HS.out]
              · have q := FI.out.2 i h1 (by omega)
                simp only [e, if_false]
                exact q
          · have s1 : decide ((c : Int) < N) = false := decide_eq_false (by omega)
            clear hs
            go_wp2
            refine ⟨⟨c + 1, by have := HC.out; omega, by simp, _, _, _, O1.out, ⟨fun i h1 h2 => ?_, fun i h1 h2 => ?_⟩⟩, by simp [intOf]; have := HC.out; omega⟩
            · by_cases e : i = c
              · subst e
                exact absurd h1 HM3.out
              · have q := FI.out.1 i h1 (by omega)
                first
                  | exact q
                  | (simp only [e, if_false]; exact q)
            · by_cases e : i = c
              · subst e
                simp only [if_true]; rw [if_neg HS.out]
              · have q := FI.out.2 i h1 (by omega)
                simp only [e, if_false]
                exact q
    · have e6 : N3 = c := by omega
      subst e6
      clear hcN hc
      have FS2 : Hid (∀ i, i < N3 → fs i < 18446744073709551616) := fun i hi => by
        have q := FI.out.2 i hi hi
        rw [q]
        split
        · rename_i h; exact (OS.out i h.2).1
        · decide
      have FB2 : Hid (∀ i, i < M3 → i < M → fb i = B i ∧ fw i = Wt i) := fun i h1 h2 => by
        have q := FI.out.1 i h1 (by have := H3.out; have := HMN.out; omega)
        rw [if_pos h2, if_pos h2] at q
        exact q
      have FB3 : Hid (∀ i, i < M3 → ¬ i < M → fb i = 4619567317775286272 ∧ fw i = 7) := fun i h1 h2 => by
        have q := FI.out.1 i h1 (by have := H3.out; have := HMN.out; omega)
        rw [if_neg h2, if_neg h2] at q
        exact q
      clear FI
      go_wp2_with fail
      refine (copied12_at (some ⟨b9, 0, none⟩) N3 N3 fs wr (by have := HN.out; have := H3.out; omega) (rowIs.fl OW.out.2.2.2 FS2.out)).mono ?_
      rintro e9 v2 ⟨b11, rfl, k2, r11, l11⟩
      have O2 := hid (OW.out.to k2)
      have R11 := hid r11
      clear k2 r11 l11 OW
      have sl1 : (M : Int) ≤ M3 := by have := H3.out; omega
      have sl2 : (N : Int) ≤ N3 := by have := H3.out; omega
      have sl3 : M ≤ M3 := by have := H3.out; omega
      have sl4 : N ≤ N3 := by have := H3.out; omega
      go_upto_region 24 with fail
      go_region
      have SR0 : Hid ((v2.alloc (.cells #[.slice (some ⟨b7, 0, none⟩) M M3, .slice (some ⟨b8, 0, none⟩) M M3, .slice none 0 0, .slice (some ⟨b9, 0, none⟩) N N3, .int .i64 0, .int .i64 0] 25)).drew.heap[v2.heap.size]? = some (.cells #[.slice (some ⟨b7, 0, none⟩) M M3, .slice (some ⟨b8, 0, none⟩) M M3, .slice none 0 0, .slice (some ⟨b9, 0, none⟩) N N3, .int .i64 0, .int .i64 0] 25)) := heap_alloc_new _ _
      have AV0 : Hid (Ab v2 (v2.alloc (.cells #[.slice (some ⟨b7, 0, none⟩) M M3, .slice (some ⟨b8, 0, none⟩) M M3, .slice none 0 0, .slice (some ⟨b9, 0, none⟩) N N3, .int .i64 0, .int .i64 0] 25)).drew) := (Ab.alloc (Ab.refl v2) _).drew
      go_upto_region 25 with fail
      generalize hV1 : World.drew (World.alloc v2 _) = V1 at *
      obtain ⟨g12, hg12⟩ : ∃ x, v2.heap.size = x := ⟨_, rfl⟩
      rw [hg12] at SR0
      rw [hg12]
      have O1 := hid (O2.out.to AV0.out)
      have AW1 : Hid (Ab w V1) := AWa.out.trans O1.out.1
      have GV : Hid (GridOf n gb V1) := GGa.out.to O1.out.1
      have RO1 : Hid (V1.heap[w.heap.size]? = some (.cells #[.int .i64 side, .int .i64 lim, .slice (some ⟨bb, bo, none⟩) M cb, .slice (some ⟨wb, wo, none⟩) M cw, .slice pt lt ct, .slice ps ls cs, .int .i64 sky, .int .i64 st] 27)) := O1.out.1.heap ROa.out
      have R1 := hid (rowIs.ab R11.out AV0.out)
      have SR := SR0
      clear hV1 hg12 AV0 R11 O2 SR0
      obtain ⟨D, ld, cds⟩ := DS.out gb b7 b8 b9 fb fw fs
      have LD := hid ld
      have I7 : Hid (IsFl V1 (some ⟨b7, 0, none⟩) M fb) := rowIs.less O1.out.2.1 sl3 (fun i hi => by rw [(FB2.out i (by omega) hi).1]; exact LB.out i hi)
      have I8 : Hid (IsIn V1 (some ⟨b8, 0, none⟩) M fw) := rowIs.lessI O1.out.2.2.1 sl3 (fun i hi => by rw [(FB2.out i (by omega) hi).2]; exact LW.out i hi)
      have I9 : Hid (IsFl V1 (some ⟨b9, 0, none⟩) N fs) := rowIs.less O1.out.2.2.2 sl4 (fun i hi => FS2.out i (by omega))
      have CDS : Hid (∀ v, Ab V1 v → Calls Tryd.prog 10 #[.pointer (some ⟨gb, 0, none⟩), .int .i64 lim, .agg #[.slice (some ⟨b7, 0, none⟩) M M3, .slice (some ⟨b8, 0, none⟩) M M3, .slice none 0 0, .slice (some ⟨b9, 0, none⟩) N N3, .int .i64 0, .int .i64 0]] v fun e w' => ∃ b, e = .returned (.tuple #[.slice (some ⟨b, 0, none⟩) N N, .int .i64 0]) ∧ Below v.heap.size v w' ∧ w'.rowIs b 33 N (fun i => .float .f64 (D i)) ∧ v.heap.size ≤ b) := fun v hv => cds v (GV.out.to hv) (I7.out.below hv) (I8.out.below hv) (I9.out.below hv)
      clear ld cds I7 I8 I9
      have AV : Hid (Ab V1 V1) := Ab.refl V1
      have c0 := cell_of_row _ _ 0 _ _ _ (AV.out.heap SR.out)
      have c1 := cell_of_row _ _ 1 _ _ _ (AV.out.heap SR.out)
      have c2 := cell_of_row _ _ 2 _ _ _ (AV.out.heap SR.out)
      have c3 := cell_of_row _ _ 3 _ _ _ (AV.out.heap SR.out)
      have c4 := cell_of_row _ _ 4 _ _ _ (AV.out.heap SR.out)
      have c5 := cell_of_row _ _ 5 _ _ _ (AV.out.heap SR.out)
      have l1 := cell_of_row _ _ 1 _ _ _ (AV.out.heap RO1.out)
      go_wp2_with fail
      clear c0 c1 c2 c3 c4 c5 l1
      refine (CDS.out _ AV.out).mono ?_
      rintro e9 v3 ⟨bl, rfl, k, r, l⟩
      have Av3 : Hid (Ab V1 v3) := Ab.call AV.out k
      have RL3 := hid r
      have Lbl := hid l
      clear r l
      clear k AV
      have c0 := cell_of_row _ _ 0 _ _ _ (Av3.out.heap SR.out)
      have c1 := cell_of_row _ _ 1 _ _ _ (Av3.out.heap SR.out)
      have c2 := cell_of_row _ _ 2 _ _ _ (Av3.out.heap SR.out)
      have c3 := cell_of_row _ _ 3 _ _ _ (Av3.out.heap SR.out)
      have c4 := cell_of_row _ _ 4 _ _ _ (Av3.out.heap SR.out)
      have c5 := cell_of_row _ _ 5 _ _ _ (Av3.out.heap SR.out)
      have l1 := cell_of_row _ _ 1 _ _ _ (Av3.out.heap RO1.out)
      go_wp2_with fail
      clear c0 c1 c2 c3 c4 c5 l1
      refine (CDS.out _ Av3.out).mono ?_
      rintro e9 v4 ⟨bk, rfl, k, r, l⟩
      have Av4 : Hid (Ab V1 v4) := Ab.call Av3.out k
      have RK4 := hid r
      have Lbk := hid l
      have RL4 := hid (rowIs.ab RL3.out k)
      have NE : Hid (bl ≠ bk) := by have := RL3.out.lt; have := Lbk.out; exact fun h => by omega
      clear r l RL3 Lbk
      clear k Av3
      go_wp2_with fail
      refine (all12_at (some ⟨bl, 0, none⟩) (some ⟨bk, 0, none⟩) N N N D v4 (by have := HN.out; omega) (rowIs.fl RL4.out LD.out) (rowIs.fl RK4.out LD.out)).mono ?_
      rintro e9 v5 ⟨rfl, k⟩
      have Av5 : Hid (Ab V1 v5) := Av4.out.call k
      have RL5 := hid (rowIs.ab RL4.out k)
      have RK5 := hid (rowIs.ab RK4.out k)
      clear RL4 RK4
      clear k Av4
      go_wp2_with fail
      refine (all12_at (some ⟨b9, 0, none⟩) (some ⟨b11, 0, none⟩) N3 N3 N3 fs v5 (by have := HN.out; have := H3.out; omega) (rowIs.fl (rowIs.ab O1.out.2.2.2 Av5.out) FS2.out) (rowIs.fl (rowIs.ab R1.out Av5.out) FS2.out)).mono ?_
      rintro e9 v6 ⟨rfl, k⟩
      have Av6 : Hid (Ab V1 v6) := Av5.out.call k
      have RL6 := hid (rowIs.ab RL5.out k)
      have RK6 := hid (rowIs.ab RK5.out k)
      clear RL5 RK5
      clear k Av5
      have SS : Hid (∀ (x : Nat) (v : World), Calls Tryd.prog 12 #[.float .f64 x, .float .f64 x] v fun e w' => e = .returned (.bool true) ∧ Below v.heap.size v w') := fun x v => by
        have h := rawSame_any x x v
        rw [show sameB x x = true by unfold sameB; exact decide_eq_true rfl] at h
        exact h.mono fun _ _ ⟨he, hw⟩ => ⟨he, by rw [hw]; exact Below.refl _ _⟩
      go_wp2
      go_loopw [17] (fun iv wr => ∃ c : Nat, c ≤ M3 ∧ iv = .int .i64 (c : Nat) ∧ Ab v6 wr) (fun iv _ => M3 - (intOf iv).toNat)
      case atStart => exact ⟨0, by omega, rfl, Ab.refl v6⟩
      case round =>
        obtain ⟨c, hc, rfl, ar⟩ := hrel
        have AR := hid ar
        clear ar
        by_cases hcM : c < M3
        · have HC := hid hcM
          have hcI : (c : Int) < M3 := by omega
          have hcB : (c : Int) ≤ 12300 := by have := HN.out; have := H3.out; have := HMN.out; omega
          clear hc
          by_cases hm : c < M
          · have HM1 := hid hm
            have m1 : (c : Int) < M := by omega
            have m2 : decide ((M : Int) ≤ c) = false := decide_eq_false (by omega)
            have m3 : ¬ M ≤ c := by omega
            obtain ⟨bc, hbc⟩ : ∃ x, B c = x := ⟨_, rfl⟩
            obtain ⟨wcc, hwc⟩ : ∃ x, Wt c = x := ⟨_, rfl⟩
            have HBC := hid hbc
            have HWC := hid hwc
            have wne : (wcc != wcc) = false := by simp
            clear hbc hwc
            go_upto_region 32 with fail
            obtain ⟨UU, E, hF1, hF2⟩ := cls wr
            have HU := hid hF2
            have HU1 := hid hF1
            have x8 : ∀ u, (E u).cell? ⟨b8, c, none⟩ = some (.int .i64 wcc) := fun u => by rw [((O1.out.to Av6.out).to (AR.out.trans (hF1 u))).2.2.1.cell HC.out, (FB2.out c HC.out HM1.out).2, HWC.out]
            have x7 : ∀ u, (E u).cell? ⟨b7, c, none⟩ = some (.float .f64 bc) := fun u => by rw [((O1.out.to Av6.out).to (AR.out.trans (hF1 u))).2.1.cell HC.out, (FB2.out c HC.out HM1.out).1, HBC.out]
            have y2 : ∀ u, (E u).cell? ⟨w.heap.size, 2, none⟩ = some (.slice (some ⟨bb, bo, none⟩) M cb) := fun u => cell_of_row _ _ 2 _ _ _ ((Av6.out.trans (AR.out.trans (hF1 u))).heap RO1.out)
            have y3 : ∀ u, (E u).cell? ⟨w.heap.size, 3, none⟩ = some (.slice (some ⟨wb, wo, none⟩) M cw) := fun u => cell_of_row _ _ 3 _ _ _ ((Av6.out.trans (AR.out.trans (hF1 u))).heap RO1.out)
            have xb : ∀ u, (E u).cell? ⟨bb, bo + c, none⟩ = some (.float .f64 bc) := fun u => (FB.out c HM1.out _ (AW1.out.trans (Av6.out.trans (AR.out.trans (hF1 u))))).trans (by rw [HBC.out])
            have xw : ∀ u, (E u).cell? ⟨wb, wo + c, none⟩ = some (.int .i64 wcc) := fun u => (FA.out c HM1.out _ (AW1.out.trans (Av6.out.trans (AR.out.trans (hF1 u))))).trans (by rw [HWC.out])
            have DD0 := HU.out _ (Ab.refl wr).drew
            clear hF1 hF2
            refine region_cls E (by kernel_rfl) (by kernel_rfl) DD0 ?_
            repeat (go_big_quiet_step (first
              | (with_reducible rfl)
              | (go_at_call 12; exact calls_cls HU HU1 (SS.out _ _))))
            refine wpQuiet_nil ?_
            intro z hwz
            obtain ⟨u0, hu⟩ := hwz
            have AZ : Hid (Ab v6 z) := by rw [hu]; exact AR.out.trans (HU1.out u0)
            clear hu u0
            clear HU HU1 DD0 x8 x7 y2 y3 xb xw
            clear E UU
            go_wp2
            go_roundw
            case rel => exact ⟨c + 1, by have := HC.out; omega, by simp, AZ.out⟩
            case measure => simp [intOf]; have := HC.out; omega
          · have HM1 := hid hm
            have m1 : decide ((c : Int) < M) = false := decide_eq_false (by omega)
            have m2 : (M : Int) ≤ c := by omega
            have m3 : M ≤ c := by omega
            have f7 : feq 4619567317775286272 4619567317775286272 = true := by decide
            go_upto_region 32 with fail
            obtain ⟨UU, E, hF1, hF2⟩ := cls wr
            have HU := hid hF2
            have HU1 := hid hF1
            have x8 : ∀ u, (E u).cell? ⟨b8, c, none⟩ = some (.int .i64 7) := fun u => by rw [((O1.out.to Av6.out).to (AR.out.trans (hF1 u))).2.2.1.cell HC.out, (FB3.out c HC.out HM1.out).2]
            have x7 : ∀ u, (E u).cell? ⟨b7, c, none⟩ = some (.float .f64 4619567317775286272) := fun u => by rw [((O1.out.to Av6.out).to (AR.out.trans (hF1 u))).2.1.cell HC.out, (FB3.out c HC.out HM1.out).1]
            have DD0 := HU.out _ (Ab.refl wr).drew
            clear hF1 hF2
            refine region_cls E (by kernel_rfl) (by kernel_rfl) DD0 ?_
            repeat (go_big_quiet_step (first
              | (with_reducible rfl)
              | (go_at_call 12; exact calls_cls HU HU1 (SS.out _ _))))
            refine wpQuiet_nil ?_
            intro z hwz
            obtain ⟨u0, hu⟩ := hwz
            have AZ : Hid (Ab v6 z) := by rw [hu]; exact AR.out.trans (HU1.out u0)
            clear hu u0
            clear HU HU1 DD0 x8 x7
            clear E UU
            go_wp2
            go_roundw
            case rel => exact ⟨c + 1, by have := HC.out; omega, by simp, AZ.out⟩
            case measure => simp [intOf]; have := HC.out; omega
        · have e6 : M3 = c := by omega
          subst e6
          clear hcM hc
          have AV7 : Hid (Ab V1 wr) := Av6.out.trans AR.out
          have RL7 := hid (rowIs.ab RL6.out AR.out)
          have RK7 := hid (rowIs.ab RK6.out AR.out)
          clear AR Av6 RL6 RK6
          go_wp2
          go_loopw [18] (fun iv wr => ∃ c : Nat, c ≤ N ∧ iv = .int .i64 (c : Nat) ∧ Ab V1 wr ∧ (∃ f : Nat → Value, wr.rowIs bl 33 N f) ∧ wr.rowIs bk 33 N (fun i => .float .f64 (D i))) (fun iv _ => N - (intOf iv).toNat)
          case atStart => exact ⟨0, by omega, rfl, AV7.out, ⟨_, RL7.out⟩, RK7.out⟩
          case round =>
            obtain ⟨c, hc, rfl, ar, ⟨f, rl⟩, rk⟩ := hrel
            have AR := hid ar
            have RL := hid rl
            have RK := hid rk
            clear ar rl rk RL7 RK7 AV7
            by_cases hcN : c < N
            · have HC := hid hcN
              have hcI : (c : Int) < N := by omega
              have xc := RL.out.cell HC.out
              have xf := RL.out.frozen c
              clear hc
              go_wp2
              refine ⟨⟨c + 1, by have := HC.out; omega, by simp, AR.out.setk Lbl.out _, ⟨_, RL.out.set c _⟩, RK.out.setOther (Ne.symm NE.out) _⟩, by simp [intOf]; have := HC.out; omega⟩
            · have e6 : N = c := by omega
              subst e6
              clear hcN hc
              have c0 := cell_of_row _ _ 0 _ _ _ (AR.out.heap SR.out)
              have c1 := cell_of_row _ _ 1 _ _ _ (AR.out.heap SR.out)
              have c2 := cell_of_row _ _ 2 _ _ _ (AR.out.heap SR.out)
              have c3 := cell_of_row _ _ 3 _ _ _ (AR.out.heap SR.out)
              have c4 := cell_of_row _ _ 4 _ _ _ (AR.out.heap SR.out)
              have c5 := cell_of_row _ _ 5 _ _ _ (AR.out.heap SR.out)
              have l1 := cell_of_row _ _ 1 _ _ _ (AR.out.heap RO1.out)
              go_wp2_with fail
              clear c0 c1 c2 c3 c4 c5 l1
              refine (CDS.out _ AR.out).mono ?_
              rintro e9 v8 ⟨bh, rfl, k, r, l⟩
              have Av8 : Hid (Ab V1 v8) := Ab.call AR.out k
              have RH := hid r
              have Lbh := hid l
              have RK8 := hid (rowIs.ab RK.out k)
              clear k r l AR RK RL
              go_wp2_with fail
              refine (all12_at (some ⟨bh, 0, none⟩) (some ⟨bk, 0, none⟩) N N N D v8 (by have := HN.out; omega) (rowIs.fl RH.out LD.out) (rowIs.fl RK8.out LD.out)).mono ?_
              rintro e9 v9 ⟨rfl, k⟩
              have A9 : Hid (Ab w v9) := AW1.out.trans (Av8.out.call k)
              clear k
              go_wp2
              go_ret
              exact ⟨rfl, A9.out⟩
set_option maxRecDepth 100000 in
set_option maxHeartbeats 32000000 in
theorem mem12_bad (side lim : Int) (bb bo wb wo M : Nat) (pt ps : Option Addr) (cb cw lt ct ls cs : Nat) (sky st : Int) (n M3 N N3 : Nat) (B : Nat → Nat) (Wt : Nat → Int) (Sp : Nat → Nat) (w : World) (h8 : ¬ 8 < (n : Int)) (hMN : M ≤ N) (hN : N ≤ 12288) (eM : (M : Int) + 3 = (M3 : Nat)) (eN : (N : Int) + 3 = (N3 : Nat))
    (AWK : Hid (∀ v, Ab w v → Calls Tryd.prog 4 #[] v fun e w' => e = .returned (.bool true) ∧ Below v.heap.size v w'))
    (NT : Hid (∀ v, Ab w v → Calls Tryd.prog 5 #[.agg #[.int .i64 side, .int .i64 lim, .slice (some ⟨bb, bo, none⟩) M cb, .slice (some ⟨wb, wo, none⟩) M cw, .slice pt lt ct, .slice ps ls cs, .int .i64 sky, .int .i64 st]] v fun e' w' => ∃ gb, e' = .returned (.tuple #[.pointer (some ⟨gb, 0, none⟩), .bool true]) ∧ Below v.heap.size v w' ∧ GridOf n gb w'))
    (CC : Hid (∀ gb v, GridOf n gb v → Calls Tryd.prog 7 #[.pointer (some ⟨gb, 0, none⟩)] v fun e w' => e = .returned (.int .i64 (M : Nat)) ∧ w' = v))
    (CI : Hid (∀ gb v, GridOf n gb v → Calls Tryd.prog 6 #[.pointer (some ⟨gb, 0, none⟩)] v fun e w' => e = .returned (.int .i64 (n : Nat)) ∧ w' = v))
    (CE : Hid (∀ gb v, GridOf n gb v → Calls Tryd.prog 8 #[.pointer (some ⟨gb, 0, none⟩)] v fun e w' => e = .returned (.int .i64 (N : Nat)) ∧ w' = v))
    (FB : Hid (∀ c, c < M → ∀ v, Ab w v → v.cell? ⟨bb, bo + c, none⟩ = some (.float .f64 (B c)))) (FA : Hid (∀ c, c < M → ∀ v, Ab w v → v.cell? ⟨wb, wo + c, none⟩ = some (.int .i64 (Wt c))))
    (LB : Hid (∀ c, c < M → B c < 18446744073709551616)) (LW : Hid (∀ c, c < M → -9223372036854775808 ≤ Wt c ∧ Wt c ≤ 9223372036854775807)) (OS : Hid (IsFl w ps ls Sp))
    (DS : Hid (∀ (gb b7 b8 b9 : Nat) (fb : Nat → Nat) (fw : Nat → Int) (fs : Nat → Nat), ∃ D : Nat → Nat, (∀ i, i < N → D i < 18446744073709551616) ∧ ∀ v : World, GridOf n gb v → IsFl v (some ⟨b7, 0, none⟩) M fb → IsIn v (some ⟨b8, 0, none⟩) M fw → IsFl v (some ⟨b9, 0, none⟩) N fs → Calls Tryd.prog 10 #[.pointer (some ⟨gb, 0, none⟩), .int .i64 lim, .agg #[.slice (some ⟨b7, 0, none⟩) M M3, .slice (some ⟨b8, 0, none⟩) M M3, .slice none 0 0, .slice (some ⟨b9, 0, none⟩) N N3, .int .i64 0, .int .i64 0]] v fun e w' => e = .returned (.tuple #[.slice none 0 0, .int .i64 1]) ∧ Below v.heap.size v w')) :
    Calls Tryd.prog 3 #[.agg #[.int .i64 side, .int .i64 lim, .slice (some ⟨bb, bo, none⟩) M cb, .slice (some ⟨wb, wo, none⟩) M cw, .slice pt lt ct, .slice ps ls cs, .int .i64 sky, .int .i64 st]] w fun e w' => e = .returned (.bool true) ∧ Below w.heap.size w w' := by
  have HN := hid hN
  have HMN := hid hMN
  have hM3 : M3 = M + 3 := by omega
  have hN3 : N3 = N + 3 := by omega
  have H3 := hid (And.intro hM3 hN3)
  clear hN hMN hM3 hN3
  have A0 : Hid (Ab w (w.alloc (.cells #[.int .i64 side, .int .i64 lim, .slice (some ⟨bb, bo, none⟩) M cb, .slice (some ⟨wb, wo, none⟩) M cw, .slice pt lt ct, .slice ps ls cs, .int .i64 sky, .int .i64 st] 27))) := bl1 _ _
  have RO0 : Hid ((w.alloc (.cells #[.int .i64 side, .int .i64 lim, .slice (some ⟨bb, bo, none⟩) M cb, .slice (some ⟨wb, wo, none⟩) M cw, .slice pt lt ct, .slice ps ls cs, .int .i64 sky, .int .i64 st] 27)).heap[w.heap.size]? = some (.cells #[.int .i64 side, .int .i64 lim, .slice (some ⟨bb, bo, none⟩) M cb, .slice (some ⟨wb, wo, none⟩) M cw, .slice pt lt ct, .slice ps ls cs, .int .i64 sky, .int .i64 st] 27)) := heap_alloc_new _ _
  go_enter Tryd.func3, Tryd.ntmps3
  go_wp2_with fail
  refine (AWK.out _ A0.out).mono ?_
  rintro e9 v1 ⟨rfl, k1⟩
  have A1 : Hid (Ab w v1) := A0.out.call k1
  have RO1 : Hid (v1.heap[w.heap.size]? = some (.cells #[.int .i64 side, .int .i64 lim, .slice (some ⟨bb, bo, none⟩) M cb, .slice (some ⟨wb, wo, none⟩) M cw, .slice pt lt ct, .slice ps ls cs, .int .i64 sky, .int .i64 st] 27)) := Ab.heap k1 RO0.out
  clear k1 RO0 A0
  have c0 := cell_of_row _ _ 0 _ _ _ (RO1.out)
  have c1 := cell_of_row _ _ 1 _ _ _ (RO1.out)
  have c2 := cell_of_row _ _ 2 _ _ _ (RO1.out)
  have c3 := cell_of_row _ _ 3 _ _ _ (RO1.out)
  have c4 := cell_of_row _ _ 4 _ _ _ (RO1.out)
  have c5 := cell_of_row _ _ 5 _ _ _ (RO1.out)
  have c6 := cell_of_row _ _ 6 _ _ _ (RO1.out)
  have c7 := cell_of_row _ _ 7 _ _ _ (RO1.out)
  go_wp2_with fail
  refine (NT.out _ A1.out).mono ?_
  rintro e9 Wa ⟨gb, rfl, k2, g2⟩
  have AWa : Hid (Ab w Wa) := A1.out.call k2
  have ROa : Hid (Wa.heap[w.heap.size]? = some (.cells #[.int .i64 side, .int .i64 lim, .slice (some ⟨bb, bo, none⟩) M cb, .slice (some ⟨wb, wo, none⟩) M cw, .slice pt lt ct, .slice ps ls cs, .int .i64 sky, .int .i64 st] 27)) := Ab.heap k2 RO1.out
  have GGa := hid g2
  clear k2 g2 RO1 A1
  clear c0 c1 c2 c3 c4 c5 c6 c7
  go_wp2_with fail
  refine (CI.out _ _ GGa.out).mono ?_
  rintro e9 vq ⟨rfl, hvq⟩
  have hvq2 := hvq.symm
  subst hvq2
  go_wp2_with fail
  refine (CC.out _ _ GGa.out).mono ?_
  rintro e9 vq ⟨rfl, hvq⟩
  have hvq2 := hvq.symm
  subst hvq2
  go_wp2_with fail
  refine (CE.out _ _ GGa.out).mono ?_
  rintro e9 vq ⟨rfl, hvq⟩
  have hvq2 := hvq.symm
  subst hvq2
  have K1 : ∀ v : World, (Instr.makeSlice 22 (.int .i64 (M3 : Nat)) (.int .i64 (M3 : Nat))).run Tryd.prog v = .ok (.slice (some ⟨v.heap.size, 0, none⟩) M3 M3) (v.alloc (Obj.cells (madeCells #[.float .f64 0] M3) 33)) := fun v =>
    run_make_row' (P := Tryd.prog) 22 33 (.float .f64 0) 8 Tryd.underlying22 infoF64 rfl .i64 .i64 M3 (by have := HN.out; have := HMN.out; have := H3.out; omega) (by have := HN.out; have := HMN.out; have := H3.out; omega) v
  have K2 : ∀ v : World, (Instr.makeSlice 23 (.int .i64 (M3 : Nat)) (.int .i64 (M3 : Nat))).run Tryd.prog v = .ok (.slice (some ⟨v.heap.size, 0, none⟩) M3 M3) (v.alloc (Obj.cells (madeCells #[.int .i64 0] M3) 2)) := fun v =>
    run_make_row' (P := Tryd.prog) 23 2 (.int .i64 0) 8 Tryd.underlying23 info64 rfl .i64 .i64 M3 (by have := HN.out; have := HMN.out; have := H3.out; omega) (by have := HN.out; have := HMN.out; have := H3.out; omega) v
  have K3 : ∀ v : World, (Instr.makeSlice 22 (.int .i64 (N3 : Nat)) (.int .i64 (N3 : Nat))).run Tryd.prog v = .ok (.slice (some ⟨v.heap.size, 0, none⟩) N3 N3) (v.alloc (Obj.cells (madeCells #[.float .f64 0] N3) 33)) := fun v =>
    run_make_row' (P := Tryd.prog) 22 33 (.float .f64 0) 8 Tryd.underlying22 infoF64 rfl .i64 .i64 N3 (by have := HN.out; have := HMN.out; have := H3.out; omega) (by have := HN.out; have := HMN.out; have := H3.out; omega) v
  have bN : (N : Int) ≤ 12288 := by have := HN.out; omega
  have bM : (M : Int) ≤ 12288 := by have := HN.out; have := HMN.out; omega
  go_upto_region 11 with fail
  have OW0 := hid (own3_made Wa M3 N3)
  have AP0 := hid (ap3_made Wa)
  generalize hV : World.alloc (World.alloc (World.alloc Wa _) _) _ = V0 at *
  obtain ⟨b7, hb7⟩ : ∃ x, Wa.heap.size = x := ⟨_, rfl⟩
  obtain ⟨b8, hb8⟩ : ∃ x, Wa.heap.size + 1 = x := ⟨_, rfl⟩
  obtain ⟨b9, hb9⟩ : ∃ x, Wa.heap.size + 1 + 1 = x := ⟨_, rfl⟩
  rw [hb9, hb8, hb7] at OW0 AP0
  rw [hb9, hb8, hb7]
  clear hV hb7 hb8 hb9 K1 K2 K3
  have h8b : decide (8 < (n : Int)) = false := decide_eq_false (by omega)
  have IN : Hid (∃ fb fw fs, Own3 Wa b7 b8 b9 M3 N3 fb fw fs V0 ∧ Fill M N ls 0 B Wt Sp M3 N3 fb fw fs) := ⟨_, _, _, OW0.out, fun i _ h => by omega, fun i _ h => by omega⟩
  clear OW0
  go_wp2
  go_loopw [10] (fun iv wr => ∃ c : Nat, c ≤ N3 ∧ iv = .int .i64 (c : Nat) ∧ ∃ fb fw fs, Own3 Wa b7 b8 b9 M3 N3 fb fw fs wr ∧ Fill M N ls c B Wt Sp M3 N3 fb fw fs) (fun iv _ => N3 - (intOf iv).toNat)
  case atStart => exact ⟨0, by omega, rfl, IN.out⟩
  case round =>
    obtain ⟨c, hc, rfl, fb, fw, fs, ow, fi⟩ := hrel
    clear IN
    have OW := hid ow
    have FI := hid fi
    clear ow fi
    by_cases hcN : c < N3
    · have HC := hid hcN
      have hcI : (c : Int) < N3 := by omega
      have hcB : (c : Int) ≤ 12300 := by have := HN.out; have := H3.out; omega
      have HC3 := hid hc
      clear hc
      have xc := OW.out.2.2.2.cell HC.out
      have xf := OW.out.2.2.2.frozen c
      go_upto_region 15 with fail
      have O1 := hid (OW.out.set9 AP0.out c 4619567317775286272)
      clear xc xf OW
      generalize World.setCell wr _ _ = v1 at *
      by_cases hm3 : c < M3
      · have HM3 := hid hm3
        have m3 : (c : Int) < M3 := by omega
        have xc := O1.out.2.1.cell HM3.out
        have xf := O1.out.2.1.frozen c
        go_upto_region 17 with fail
        have O2 := hid (O1.out.set7 AP0.out c 4619567317775286272)
        clear xc xf O1
        generalize World.setCell v1 _ _ = v2 at *
        have xc := O2.out.2.2.1.cell HM3.out
        have xf := O2.out.2.2.1.frozen c
        go_upto_region 18 with fail
        have O3 := hid (O2.out.set8 AP0.out c 7)
        clear xc xf O2
        generalize World.setCell v2 _ _ = v3 at *
        by_cases hm : c < M
        · have HM1 := hid hm
          have m1 : (c : Int) < M := by omega
          have y2 := cell_of_row _ _ 2 _ _ _ (O3.out.1.heap ROa.out)
          have x2 := FB.out c HM1.out _ (AWa.out.trans O3.out.1)
          have xc := O3.out.2.1.cell HM3.out
          have xf := O3.out.2.1.frozen c
          go_upto_region 20 with fail
          have O4 := hid (O3.out.set7 AP0.out c (B c))
          clear xc xf O3 y2 x2
          generalize World.setCell v3 _ _ = v4 at *
          have y3 := cell_of_row _ _ 3 _ _ _ (O4.out.1.heap ROa.out)
          have x3 := FA.out c HM1.out _ (AWa.out.trans O4.out.1)
          have xc := O4.out.2.2.1.cell HM3.out
          have xf := O4.out.2.2.1.frozen c
          go_upto_region 21 with fail
          have O5 := hid (O4.out.set8 AP0.out c (Wt c))
          clear xc xf O4 y3 x3
          generalize World.setCell v4 _ _ = v5 at *
          by_cases hs : c < N ∧ c < ls
          · have HS := hid hs
            have s1 : (c : Int) < N := by omega
            have s2 : (c : Int) < ls := by omega
            have s3 : c < N := hs.1
            have s4 : c < ls := hs.2
            obtain ⟨ls9, b5, o5, hps, hb5, hx5⟩ := OS.out c hs.2
            clear hs
            have y5 := cell_of_row _ _ 5 _ _ _ (O5.out.1.heap ROa.out)
            rw [hps] at y5
            have x5 := (Below.cell (AWa.out.trans O5.out.1) hb5).trans hx5
            have xc := O5.out.2.2.2.cell HC.out
            have xf := O5.out.2.2.2.frozen c
            go_wp2
            refine ⟨⟨c + 1, by have := HC.out; omega, by simp, _, _, _, O5.out.set9 AP0.out c (Sp c), ⟨fun i h1 h2 => ?_, fun i h1 h2 => ?_⟩⟩, by simp [intOf]; have := HC.out; omega⟩
            · by_cases e : i = c
              · subst e
                simp [show i < M from HM1.out]
              · have q := FI.out.1 i h1 (by omega)
                first
                  | exact q
                  | (simp only [e, if_false]; exact q)
            · by_cases e : i = c
              · subst e
                simp [show i < N ∧ i < ls from HS.out]
              · have q := FI.out.2 i h1 (by omega)
                simp only [e, if_false]
                exact q
          · have HS := hid hs
            have y5 := cell_of_row _ _ 5 _ _ _ (O5.out.1.heap ROa.out)
            by_cases s3 : c < N
            · have s4 : ¬ c < ls := fun h => hs ⟨s3, h⟩
              have s1 : decide ((c : Int) < N) = true := decide_eq_true (by omega)
              have s2 : decide ((c : Int) < ls) = false := decide_eq_false (by omega)
              clear hs
              go_wp2
              refine ⟨⟨c + 1, by have := HC.out; omega, by simp, _, _, _, O5.out, ⟨fun i h1 h2 => ?_, fun i h1 h2 => ?_⟩⟩, by simp [intOf]; have := HC.out; omega⟩
              · by_cases e : i = c
                · subst e
                  simp [show i < M from HM1.out]
                · have q := FI.out.1 i h1 (by omega)
                  first
                    | exact q
                    | (simp only [e, if_false]; exact q)
              · by_cases e : i = c
                · subst e
                  simp only [if_true]; rw [if_neg HS.out]
                · have q := FI.out.2 i h1 (by omega)
                  simp only [e, if_false]
                  exact q
            · have s1 : decide ((c : Int) < N) = false := decide_eq_false (by omega)
              clear hs
              go_wp2
              refine ⟨⟨c + 1, by have := HC.out; omega, by simp, _, _, _, O5.out, ⟨fun i h1 h2 => ?_, fun i h1 h2 => ?_⟩⟩, by simp [intOf]; have := HC.out; omega⟩
              · by_cases e : i = c
                · subst e
                  simp [show i < M from HM1.out]
                · have q := FI.out.1 i h1 (by omega)
                  first
                    | exact q
                    | (simp only [e, if_false]; exact q)
              · by_cases e : i = c
                · subst e
                  simp only [if_true]; rw [if_neg HS.out]
                · have q := FI.out.2 i h1 (by omega)
                  simp only [e, if_false]
                  exact q
        · have HM1 := hid hm
          have m1 : decide ((c : Int) < M) = false := decide_eq_false (by omega)
          by_cases hs : c < N ∧ c < ls
          · have HS := hid hs
            have s1 : (c : Int) < N := by omega
            have s2 : (c : Int) < ls := by omega
            have s3 : c < N := hs.1
            have s4 : c < ls := hs.2
            obtain ⟨ls9, b5, o5, hps, hb5, hx5⟩ := OS.out c hs.2
            clear hs
            have y5 := cell_of_row _ _ 5 _ _ _ (O3.out.1.heap ROa.out)
            rw [hps] at y5
            have x5 := (Below.cell (AWa.out.trans O3.out.1) hb5).trans hx5
            have xc := O3.out.2.2.2.cell HC.out
            have xf := O3.out.2.2.2.frozen c
            go_wp2
            refine ⟨⟨c + 1, by have := HC.out; omega, by simp, _, _, _, O3.out.set9 AP0.out c (Sp c), ⟨fun i h1 h2 => ?_, fun i h1 h2 => ?_⟩⟩, by simp [intOf]; have := HC.out; omega⟩
            · by_cases e : i = c
              · subst e
                simp [show ¬ i < M from HM1.out]
              · have q := FI.out.1 i h1 (by omega)
                first
                  | exact q
                  | (simp only [e, if_false]; exact q)
            · by_cases e : i = c
              · subst e
                simp [show i < N ∧ i < ls from HS.out]
              · have q := FI.out.2 i h1 (by omega)
                simp only [e, if_false]
                exact q
          · have HS := hid hs
            have y5 := cell_of_row _ _ 5 _ _ _ (O3.out.1.heap ROa.out)
            by_cases s3 : c < N
            · have s4 : ¬ c < ls := fun h => hs ⟨s3, h⟩
              have s1 : decide ((c : Int) < N) = true := decide_eq_true (by omega)
              have s2 : decide ((c : Int) < ls) = false := decide_eq_false (by omega)
              clear hs
              go_wp2
              refine ⟨⟨c + 1, by have := HC.out; omega, by simp, _, _, _, O3.out, ⟨fun i h1 h2 => ?_, fun i h1 h2 => ?_⟩⟩, by simp [intOf]; have := HC.out; omega⟩
              · by_cases e : i = c
                · subst e
                  simp [show ¬ i < M from HM1.out]
                · have q := FI.out.1 i h1 (by omega)
                  first
                    | exact q
                    | (simp only [e, if_false]; exact q)
              · by_cases e : i = c
                · subst e
                  simp only [if_true]; rw [if_neg HS.out]
                · have q := FI.out.2 i h1 (by omega)
                  simp only [e, if_false]
                  exact q
            · have s1 : decide ((c : Int) < N) = false := decide_eq_false (by omega)
              clear hs
              go_wp2
              refine ⟨⟨c + 1, by have := HC.out; omega, by simp, _, _, _, O3.out, ⟨fun i h1 h2 => ?_, fun i h1 h2 => ?_⟩⟩, by simp [intOf]; have := HC.out; omega⟩
              · by_cases e : i = c
                · subst e
                  simp [show ¬ i < M from HM1.out]
                · have q := FI.out.1 i h1 (by omega)
                  first
                    | exact q
                    | (simp only [e, if_false]; exact q)
              · by_cases e : i = c
                · subst e
                  simp only [if_true]; rw [if_neg HS.out]
                · have q := FI.out.2 i h1 (by omega)
                  simp only [e, if_false]
                  exact q
      · have HM3 := hid hm3
        have m3 : decide ((c : Int) < M3) = false := decide_eq_false (by omega)
        have hm : ¬ c < M := by have := H3.out; omega
        have m1 : decide ((c : Int) < M) = false := decide_eq_false (by omega)
        by_cases hs : c < N ∧ c < ls
        · have HS := hid hs
          have s1 : (c : Int) < N := by omega
          have s2 : (c : Int) < ls := by omega
          have s3 : c < N := hs.1
          have s4 : c < ls := hs.2
          obtain ⟨ls9, b5, o5, hps, hb5, hx5⟩ := OS.out c hs.2
          clear hs
          have y5 := cell_of_row _ _ 5 _ _ _ (O1.out.1.heap ROa.out)
          rw [hps] at y5
          have x5 := (Below.cell (AWa.out.trans O1.out.1) hb5).trans hx5
          have xc := O1.out.2.2.2.cell HC.out
          have xf := O1.out.2.2.2.frozen c
          go_wp2
          refine ⟨⟨c + 1, by have := HC.out; omega, by simp, _, _, _, O1.out.set9 AP0.out c (Sp c), ⟨fun i h1 h2 => ?_, fun i h1 h2 => ?_⟩⟩, by simp [intOf]; have := HC.out; omega⟩
          · by_cases e : i = c
            · subst e
              exact absurd h1 HM3.out
            · have q := FI.out.1 i h1 (by omega)
              first
                | exact q
                | (simp only [e, if_false]; exact q)
          · by_cases e : i = c
            · subst e
              simp [show i < N ∧ i < ls from HS.out]
            · have q := FI.out.2 i h1 (by omega)
              simp only [e, if_false]
              exact q
        · have HS := hid hs
          have y5 := cell_of_row _ _ 5 _ _ _ (O1.out.1.heap ROa.out)
          by_cases s3 : c < N
          · have s4 : ¬ c < ls := fun h => hs ⟨s3, h⟩
            have s1 : decide ((c : Int) < N) = true := decide_eq_true (by omega)
            have s2 : decide ((c : Int) < ls) = false := decide_eq_false (by omega)
            clear hs
            go_wp2
            refine ⟨⟨c + 1, by have := HC.out; omega, by simp, _, _, _, O1.out, ⟨fun i h1 h2 => ?_, fun i h1 h2 => ?_⟩⟩, by simp [intOf]; have := HC.out; omega⟩
            · by_cases e : i = c
              · subst e
                exact absurd h1 HM3.out
              · have q := FI.out.1 i h1 (by omega)
                first
                  | exact q
                  | (simp only [e, if_false]; exact q)
            · by_cases e : i = c
              · subst e
                simp only [if_true]; rw [if_neg HS.out]
              · have q := FI.out.2 i h1 (by omega)
                simp only [e, if_false]
                exact q
          · have s1 : decide ((c : Int) < N) = false := decide_eq_false (by omega)
            clear hs
            go_wp2
            refine ⟨⟨c + 1, by have := HC.out; omega, by simp, _, _, _, O1.out, ⟨fun i h1 h2 => ?_, fun i h1 h2 => ?_⟩⟩, by simp [intOf]; have := HC.out; omega⟩
            · by_cases e : i = c
              · subst e
                exact absurd h1 HM3.out
              · have q := FI.out.1 i h1 (by omega)
                first
                  | exact q
                  | (simp only [e, if_false]; exact q)
            · by_cases e : i = c
              · subst e
                simp only [if_true]; rw [if_neg HS.out]
              · have q := FI.out.2 i h1 (by omega)
                simp only [e, if_false]
                exact q
    · have e6 : N3 = c := by omega
      subst e6
      clear hcN hc
      have FS2 : Hid (∀ i, i < N3 → fs i < 18446744073709551616) := fun i hi => by
        have q := FI.out.2 i hi hi
        rw [q]
        split
        · rename_i h; exact (OS.out i h.2).1
        · decide
      have FB2 : Hid (∀ i, i < M3 → i < M → fb i = B i ∧ fw i = Wt i) := fun i h1 h2 => by
        have q := FI.out.1 i h1 (by have := H3.out; have := HMN.out; omega)
        rw [if_pos h2, if_pos h2] at q
        exact q
      have FB3 : Hid (∀ i, i < M3 → ¬ i < M → fb i = 4619567317775286272 ∧ fw i = 7) := fun i h1 h2 => by
        have q := FI.out.1 i h1 (by have := H3.out; have := HMN.out; omega)
        rw [if_neg h2, if_neg h2] at q
        exact q
      clear FI
      go_wp2_with fail
      refine (copied12_at (some ⟨b9, 0, none⟩) N3 N3 fs wr (by have := HN.out; have := H3.out; omega) (rowIs.fl OW.out.2.2.2 FS2.out)).mono ?_
      rintro e9 v2 ⟨b11, rfl, k2, r11, l11⟩
      have O2 := hid (OW.out.to k2)
      have R11 := hid r11
      clear k2 r11 l11 OW
      have sl1 : (M : Int) ≤ M3 := by have := H3.out; omega
      have sl2 : (N : Int) ≤ N3 := by have := H3.out; omega
      have sl3 : M ≤ M3 := by have := H3.out; omega
      have sl4 : N ≤ N3 := by have := H3.out; omega
      go_upto_region 24 with fail
      go_region
      have SR0 : Hid ((v2.alloc (.cells #[.slice (some ⟨b7, 0, none⟩) M M3, .slice (some ⟨b8, 0, none⟩) M M3, .slice none 0 0, .slice (some ⟨b9, 0, none⟩) N N3, .int .i64 0, .int .i64 0] 25)).drew.heap[v2.heap.size]? = some (.cells #[.slice (some ⟨b7, 0, none⟩) M M3, .slice (some ⟨b8, 0, none⟩) M M3, .slice none 0 0, .slice (some ⟨b9, 0, none⟩) N N3, .int .i64 0, .int .i64 0] 25)) := heap_alloc_new _ _
      have AV0 : Hid (Ab v2 (v2.alloc (.cells #[.slice (some ⟨b7, 0, none⟩) M M3, .slice (some ⟨b8, 0, none⟩) M M3, .slice none 0 0, .slice (some ⟨b9, 0, none⟩) N N3, .int .i64 0, .int .i64 0] 25)).drew) := (Ab.alloc (Ab.refl v2) _).drew
      go_upto_region 25 with fail
      generalize hV1 : World.drew (World.alloc v2 _) = V1 at *
      obtain ⟨g12, hg12⟩ : ∃ x, v2.heap.size = x := ⟨_, rfl⟩
      rw [hg12] at SR0
      rw [hg12]
      have O1 := hid (O2.out.to AV0.out)
      have AW1 : Hid (Ab w V1) := AWa.out.trans O1.out.1
      have GV : Hid (GridOf n gb V1) := GGa.out.to O1.out.1
      have RO1 : Hid (V1.heap[w.heap.size]? = some (.cells #[.int .i64 side, .int .i64 lim, .slice (some ⟨bb, bo, none⟩) M cb, .slice (some ⟨wb, wo, none⟩) M cw, .slice pt lt ct, .slice ps ls cs, .int .i64 sky, .int .i64 st] 27)) := O1.out.1.heap ROa.out
      have R1 := hid (rowIs.ab R11.out AV0.out)
      have SR := SR0
      clear hV1 hg12 AV0 R11 O2 SR0
      obtain ⟨_, _, cds⟩ := DS.out gb b7 b8 b9 fb fw fs
      have I7 : Hid (IsFl V1 (some ⟨b7, 0, none⟩) M fb) := rowIs.less O1.out.2.1 sl3 (fun i hi => by rw [(FB2.out i (by omega) hi).1]; exact LB.out i hi)
      have I8 : Hid (IsIn V1 (some ⟨b8, 0, none⟩) M fw) := rowIs.lessI O1.out.2.2.1 sl3 (fun i hi => by rw [(FB2.out i (by omega) hi).2]; exact LW.out i hi)
      have I9 : Hid (IsFl V1 (some ⟨b9, 0, none⟩) N fs) := rowIs.less O1.out.2.2.2 sl4 (fun i hi => FS2.out i (by omega))
      have CDS : Hid (∀ v, Ab V1 v → Calls Tryd.prog 10 #[.pointer (some ⟨gb, 0, none⟩), .int .i64 lim, .agg #[.slice (some ⟨b7, 0, none⟩) M M3, .slice (some ⟨b8, 0, none⟩) M M3, .slice none 0 0, .slice (some ⟨b9, 0, none⟩) N N3, .int .i64 0, .int .i64 0]] v fun e w' => e = .returned (.tuple #[.slice none 0 0, .int .i64 1]) ∧ Below v.heap.size v w') := fun v hv => cds v (GV.out.to hv) (I7.out.below hv) (I8.out.below hv) (I9.out.below hv)
      clear cds I7 I8 I9
      have AV : Hid (Ab V1 V1) := Ab.refl V1
      have c0 := cell_of_row _ _ 0 _ _ _ (AV.out.heap SR.out)
      have c1 := cell_of_row _ _ 1 _ _ _ (AV.out.heap SR.out)
      have c2 := cell_of_row _ _ 2 _ _ _ (AV.out.heap SR.out)
      have c3 := cell_of_row _ _ 3 _ _ _ (AV.out.heap SR.out)
      have c4 := cell_of_row _ _ 4 _ _ _ (AV.out.heap SR.out)
      have c5 := cell_of_row _ _ 5 _ _ _ (AV.out.heap SR.out)
      have l1 := cell_of_row _ _ 1 _ _ _ (AV.out.heap RO1.out)
      go_wp2_with fail
      clear c0 c1 c2 c3 c4 c5 l1
      refine (CDS.out _ AV.out).mono ?_
      rintro e9 v3 ⟨rfl, k⟩
      have Av3 : Hid (Ab V1 v3) := Ab.call AV.out k
      clear k AV
      have c0 := cell_of_row _ _ 0 _ _ _ (Av3.out.heap SR.out)
      have c1 := cell_of_row _ _ 1 _ _ _ (Av3.out.heap SR.out)
      have c2 := cell_of_row _ _ 2 _ _ _ (Av3.out.heap SR.out)
      have c3 := cell_of_row _ _ 3 _ _ _ (Av3.out.heap SR.out)
      have c4 := cell_of_row _ _ 4 _ _ _ (Av3.out.heap SR.out)
      have c5 := cell_of_row _ _ 5 _ _ _ (Av3.out.heap SR.out)
      have l1 := cell_of_row _ _ 1 _ _ _ (Av3.out.heap RO1.out)
      go_wp2_with fail
      clear c0 c1 c2 c3 c4 c5 l1
      refine (CDS.out _ Av3.out).mono ?_
      rintro e9 v4 ⟨rfl, k⟩
      have Av4 : Hid (Ab V1 v4) := Ab.call Av3.out k
      clear k Av3
      go_wp2_with fail
      refine (all12_at none none 0 0 0 (fun _ => 0) v4 (by omega) (fun k hk => by omega) (fun k hk => by omega)).mono ?_
      rintro e9 v5 ⟨rfl, k⟩
      have Av5 : Hid (Ab V1 v5) := Av4.out.call k
      clear k Av4
      go_wp2_with fail
      refine (all12_at (some ⟨b9, 0, none⟩) (some ⟨b11, 0, none⟩) N3 N3 N3 fs v5 (by have := HN.out; have := H3.out; omega) (rowIs.fl (rowIs.ab O1.out.2.2.2 Av5.out) FS2.out) (rowIs.fl (rowIs.ab R1.out Av5.out) FS2.out)).mono ?_
      rintro e9 v6 ⟨rfl, k⟩
      have Av6 : Hid (Ab V1 v6) := Av5.out.call k
      clear k Av5
      have SS : Hid (∀ (x : Nat) (v : World), Calls Tryd.prog 12 #[.float .f64 x, .float .f64 x] v fun e w' => e = .returned (.bool true) ∧ Below v.heap.size v w') := fun x v => by
        have h := rawSame_any x x v
        rw [show sameB x x = true by unfold sameB; exact decide_eq_true rfl] at h
        exact h.mono fun _ _ ⟨he, hw⟩ => ⟨he, by rw [hw]; exact Below.refl _ _⟩
      go_wp2
      go_loopw [17] (fun iv wr => ∃ c : Nat, c ≤ M3 ∧ iv = .int .i64 (c : Nat) ∧ Ab v6 wr) (fun iv _ => M3 - (intOf iv).toNat)
      case atStart => exact ⟨0, by omega, rfl, Ab.refl v6⟩
      case round =>
        obtain ⟨c, hc, rfl, ar⟩ := hrel
        have AR := hid ar
        clear ar
        by_cases hcM : c < M3
        · have HC := hid hcM
          have hcI : (c : Int) < M3 := by omega
          have hcB : (c : Int) ≤ 12300 := by have := HN.out; have := H3.out; have := HMN.out; omega
          clear hc
          by_cases hm : c < M
          · have HM1 := hid hm
            have m1 : (c : Int) < M := by omega
            have m2 : decide ((M : Int) ≤ c) = false := decide_eq_false (by omega)
            have m3 : ¬ M ≤ c := by omega
            obtain ⟨bc, hbc⟩ : ∃ x, B c = x := ⟨_, rfl⟩
            obtain ⟨wcc, hwc⟩ : ∃ x, Wt c = x := ⟨_, rfl⟩
            have HBC := hid hbc
            have HWC := hid hwc
            have wne : (wcc != wcc) = false := by simp
            clear hbc hwc
            go_upto_region 32 with fail
            obtain ⟨UU, E, hF1, hF2⟩ := cls wr
            have HU := hid hF2
            have HU1 := hid hF1
            have x8 : ∀ u, (E u).cell? ⟨b8, c, none⟩ = some (.int .i64 wcc) := fun u => by rw [((O1.out.to Av6.out).to (AR.out.trans (hF1 u))).2.2.1.cell HC.out, (FB2.out c HC.out HM1.out).2, HWC.out]
            have x7 : ∀ u, (E u).cell? ⟨b7, c, none⟩ = some (.float .f64 bc) := fun u => by rw [((O1.out.to Av6.out).to (AR.out.trans (hF1 u))).2.1.cell HC.out, (FB2.out c HC.out HM1.out).1, HBC.out]
            have y2 : ∀ u, (E u).cell? ⟨w.heap.size, 2, none⟩ = some (.slice (some ⟨bb, bo, none⟩) M cb) := fun u => cell_of_row _ _ 2 _ _ _ ((Av6.out.trans (AR.out.trans (hF1 u))).heap RO1.out)
            have y3 : ∀ u, (E u).cell? ⟨w.heap.size, 3, none⟩ = some (.slice (some ⟨wb, wo, none⟩) M cw) := fun u => cell_of_row _ _ 3 _ _ _ ((Av6.out.trans (AR.out.trans (hF1 u))).heap RO1.out)
            have xb : ∀ u, (E u).cell? ⟨bb, bo + c, none⟩ = some (.float .f64 bc) := fun u => (FB.out c HM1.out _ (AW1.out.trans (Av6.out.trans (AR.out.trans (hF1 u))))).trans (by rw [HBC.out])
            have xw : ∀ u, (E u).cell? ⟨wb, wo + c, none⟩ = some (.int .i64 wcc) := fun u => (FA.out c HM1.out _ (AW1.out.trans (Av6.out.trans (AR.out.trans (hF1 u))))).trans (by rw [HWC.out])
            have DD0 := HU.out _ (Ab.refl wr).drew
            clear hF1 hF2
            refine region_cls E (by kernel_rfl) (by kernel_rfl) DD0 ?_
            repeat (go_big_quiet_step (first
              | (with_reducible rfl)
              | (go_at_call 12; exact calls_cls HU HU1 (SS.out _ _))))
            refine wpQuiet_nil ?_
            intro z hwz
            obtain ⟨u0, hu⟩ := hwz
            have AZ : Hid (Ab v6 z) := by rw [hu]; exact AR.out.trans (HU1.out u0)
            clear hu u0
            clear HU HU1 DD0 x8 x7 y2 y3 xb xw
            clear E UU
            go_wp2
            go_roundw
            case rel => exact ⟨c + 1, by have := HC.out; omega, by simp, AZ.out⟩
            case measure => simp [intOf]; have := HC.out; omega
          · have HM1 := hid hm
            have m1 : decide ((c : Int) < M) = false := decide_eq_false (by omega)
            have m2 : (M : Int) ≤ c := by omega
            have m3 : M ≤ c := by omega
            have f7 : feq 4619567317775286272 4619567317775286272 = true := by decide
            go_upto_region 32 with fail
            obtain ⟨UU, E, hF1, hF2⟩ := cls wr
            have HU := hid hF2
            have HU1 := hid hF1
            have x8 : ∀ u, (E u).cell? ⟨b8, c, none⟩ = some (.int .i64 7) := fun u => by rw [((O1.out.to Av6.out).to (AR.out.trans (hF1 u))).2.2.1.cell HC.out, (FB3.out c HC.out HM1.out).2]
            have x7 : ∀ u, (E u).cell? ⟨b7, c, none⟩ = some (.float .f64 4619567317775286272) := fun u => by rw [((O1.out.to Av6.out).to (AR.out.trans (hF1 u))).2.1.cell HC.out, (FB3.out c HC.out HM1.out).1]
            have DD0 := HU.out _ (Ab.refl wr).drew
            clear hF1 hF2
            refine region_cls E (by kernel_rfl) (by kernel_rfl) DD0 ?_
            repeat (go_big_quiet_step (first
              | (with_reducible rfl)
              | (go_at_call 12; exact calls_cls HU HU1 (SS.out _ _))))
            refine wpQuiet_nil ?_
            intro z hwz
            obtain ⟨u0, hu⟩ := hwz
            have AZ : Hid (Ab v6 z) := by rw [hu]; exact AR.out.trans (HU1.out u0)
            clear hu u0
            clear HU HU1 DD0 x8 x7
            clear E UU
            go_wp2
            go_roundw
            case rel => exact ⟨c + 1, by have := HC.out; omega, by simp, AZ.out⟩
            case measure => simp [intOf]; have := HC.out; omega
        · have e6 : M3 = c := by omega
          subst e6
          clear hcM hc
          have AV7 : Hid (Ab V1 wr) := Av6.out.trans AR.out
          clear AR Av6
          go_wp2
          go_loopw [18] (fun iv wr => iv = .int .i64 0 ∧ Ab V1 wr) (fun iv _ => 0)
          case atStart => exact ⟨rfl, AV7.out⟩
          case round =>
            obtain ⟨rfl, ar⟩ := hrel
            have AR := hid ar
            clear ar AV7
            have c0 := cell_of_row _ _ 0 _ _ _ (AR.out.heap SR.out)
            have c1 := cell_of_row _ _ 1 _ _ _ (AR.out.heap SR.out)
            have c2 := cell_of_row _ _ 2 _ _ _ (AR.out.heap SR.out)
            have c3 := cell_of_row _ _ 3 _ _ _ (AR.out.heap SR.out)
            have c4 := cell_of_row _ _ 4 _ _ _ (AR.out.heap SR.out)
            have c5 := cell_of_row _ _ 5 _ _ _ (AR.out.heap SR.out)
            have l1 := cell_of_row _ _ 1 _ _ _ (AR.out.heap RO1.out)
            go_wp2_with fail
            clear c0 c1 c2 c3 c4 c5 l1
            refine (CDS.out _ AR.out).mono ?_
            rintro e9 v8 ⟨rfl, k⟩
            have Av8 : Hid (Ab V1 v8) := Ab.call AR.out k
            clear k AR
            go_wp2_with fail
            refine (all12_at none none 0 0 0 (fun _ => 0) v8 (by omega) (fun k hk => by omega) (fun k hk => by omega)).mono ?_
            rintro e9 v9 ⟨rfl, k⟩
            have A9 : Hid (Ab w v9) := AW1.out.trans (Av8.out.call k)
            clear k
            go_wp2
            go_ret
            exact ⟨rfl, A9.out⟩
end Go.Proofs.YtbhgfmoopmlnjaaDoor
