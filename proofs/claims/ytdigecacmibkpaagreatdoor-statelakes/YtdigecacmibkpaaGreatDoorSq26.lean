/-
  Some of the texts of this proof, one behind the other.
-/
import Derived.Test.YtdigecacmibkpaaGreatDoorSq25
set_option maxRecDepth 100000
set_option maxHeartbeats 400000000
namespace Go.Proofs.YtdigecacmibkpaaGreatDoor
open Go.RowKit Tf Cu Go.Deep
attribute [local go_sem] run_bits run_from raw_feq raw_fne raw_flt raw_fgt run_neg run_store_float
namespace Ss
theorem mkS_sl (n : Nat) (x : Cg.Ix) : ∃ p m c, mkS n x = .slice p m c := by
  obtain ⟨x1, x2⟩ := x
  cases x1
  · exact ⟨_, _, _, rfl⟩
  · exact ⟨_, _, _, rfl⟩
theorem row_far {t : TypeId} {B n g : Nat} {v : Value} {l : List Value} {w : World} (h : w.ownsRow B t 1 v n l) (hg : v.ownBlock ≠ some g) (k : Nat) (u : Value) : (w.setCell ⟨g, k, none⟩ u).ownsRow B t 1 v n l := by
  refine ⟨h.1, ?_⟩
  rcases h.2 with h0 | ⟨b, cap, cur, e, h1, h2, rest⟩
  · exact .inl h0
  · refine .inr ⟨b, cap, cur, e, h1, ?_, rest⟩
    rw [heap_set_ne (fun q => hg (by rw [e]; show some b = some g; rw [q]))]
    exact h2
theorem row_far6 {t : TypeId} {B n g : Nat} {v : Value} {l : List Value} {w : World} (h : w.ownsRow B t 1 v n l) (hg : v.ownBlock ≠ some g) (x0 x1 x2 x3 x4 x5 : Value) : ((((((w.setCell ⟨g, 0, none⟩ x0).setCell ⟨g, 1, none⟩ x1).setCell ⟨g, 2, none⟩ x2).setCell ⟨g, 3, none⟩ x3).setCell ⟨g, 4, none⟩ x4).setCell ⟨g, 5, none⟩ x5).ownsRow B t 1 v n l :=
  row_far (row_far (row_far (row_far (row_far (row_far h hg _ _) hg _ _) hg _ _) hg _ _) hg _ _) hg _ _
theorem copy_at (pb : Option Addr) (lb cb : Nat) (B : Nat -> Nat) (pw : Option Addr) (lw cw : Nat) (W : Nat -> Int) (pt : Option Addr) (lt ct : Nat) (T : Nat -> Int) (ps : Option Addr) (ls cs : Nat) (S : Nat -> Nat) (sky st : Int) (w : World) (HL : Hid (lb <= 17592186044416 /\ lw <= 17592186044416 /\ lt <= 17592186044416 /\ ls <= 17592186044416)) (i1 : IsFl w pb lb B) (i2 : Sh.IsI w pw lw W) (i3 : Sh.IsI w pt lt T) (i4 : IsFl w ps ls S) :
    Calls Tryz.prog 17 #[.agg #[.slice pb lb cb, .slice pw lw cw, .slice pt lt ct, .slice ps ls cs, .int .i64 sky, .int .i64 st]] w fun e w' => ∃ v, e = .returned v /\ Below w.heap.size w w' /\ OwnS w.heap.size v lb lw lt ls B W T S sky st w' := by
  have I1 := hid i1
  have I2 := hid i2
  have I3 := hid i3
  have I4 := hid i4
  have A0 : Hid (Ab w ((w.alloc (.cells #[.slice pb lb cb, .slice pw lw cw, .slice pt lt ct, .slice ps ls cs, .int .i64 sky, .int .i64 st] 33)).alloc (.cells #[.slice none 0 0, .slice none 0 0, .slice none 0 0, .slice none 0 0, .int .i64 0, .int .i64 0] 33))) := bl2 _ _ _
  have R0 : Hid (((w.alloc (.cells #[.slice pb lb cb, .slice pw lw cw, .slice pt lt ct, .slice ps ls cs, .int .i64 sky, .int .i64 st] 33)).alloc (.cells #[.slice none 0 0, .slice none 0 0, .slice none 0 0, .slice none 0 0, .int .i64 0, .int .i64 0] 33)).heap[w.heap.size]? = some (.cells #[.slice pb lb cb, .slice pw lw cw, .slice pt lt ct, .slice ps ls cs, .int .i64 sky, .int .i64 st] 33)) := heap_alloc2_old _ _ _
  have Q0 : Hid (((w.alloc (.cells #[.slice pb lb cb, .slice pw lw cw, .slice pt lt ct, .slice ps ls cs, .int .i64 sky, .int .i64 st] 33)).alloc (.cells #[.slice none 0 0, .slice none 0 0, .slice none 0 0, .slice none 0 0, .int .i64 0, .int .i64 0] 33)).heap[w.heap.size + 1]? = some (.cells #[.slice none 0 0, .slice none 0 0, .slice none 0 0, .slice none 0 0, .int .i64 0, .int .i64 0] 33)) := heap_alloc2_new _ _ _
  clear i1 i2 i3 i4
  go_enter Tryz.func17, Tryz.ntmps17
  go_upto_region 1 with fail
  generalize hW : World.alloc (World.alloc w _) _ = V0 at *
  obtain ⟨ga, hga⟩ : ∃ g, w.heap.size = g := ⟨_, rfl⟩
  obtain ⟨gr, hgr⟩ : ∃ g, w.heap.size + 1 = g := ⟨_, rfl⟩
  have HG : Hid (w.heap.size <= gr) := by show _ <= _; omega
  rw [hgr] at Q0 ⊢
  rw [hga] at R0
  try rw [hga]
  clear hgr hW
  have HM := hid hga
  clear hga
  obtain ⟨UU, E, hF1, hF2⟩ := cls V0.drew
  have HU := hid hF2
  have HU1 := hid hF1
  have e0 : ∀ u, (E u).cell? ⟨ga, 0, none⟩ = some (.slice pb lb cb) := fun u => cell_of_row _ _ 0 _ _ _ ((hF1 u).heap R0.out)
  have e1 : ∀ u, (E u).cell? ⟨ga, 1, none⟩ = some (.slice pw lw cw) := fun u => cell_of_row _ _ 1 _ _ _ ((hF1 u).heap R0.out)
  have e2 : ∀ u, (E u).cell? ⟨ga, 2, none⟩ = some (.slice pt lt ct) := fun u => cell_of_row _ _ 2 _ _ _ ((hF1 u).heap R0.out)
  have e3 : ∀ u, (E u).cell? ⟨ga, 3, none⟩ = some (.slice ps ls cs) := fun u => cell_of_row _ _ 3 _ _ _ ((hF1 u).heap R0.out)
  have e4 : ∀ u, (E u).cell? ⟨ga, 4, none⟩ = some (.int .i64 sky) := fun u => cell_of_row _ _ 4 _ _ _ ((hF1 u).heap R0.out)
  have e5 : ∀ u, (E u).cell? ⟨ga, 5, none⟩ = some (.int .i64 st) := fun u => cell_of_row _ _ 5 _ _ _ ((hF1 u).heap R0.out)
  have C1 : Hid (∀ v, Ab V0.drew v -> Calls Tryz.prog 46 #[.slice pb lb cb] v (fun e w2 => ∃ x, e = .returned (mkS lb x) /\ Ab v w2 /\ (∀ b, x.1 = some b -> v.heap.size <= b /\ b < w2.heap.size) /\ (fun x w' => OwnG w.heap.size (mkS lb x) ((List.range lb).map B) w') x w2)) := fun v a => cloneF pb lb cb B w.heap.size v HL.out.1 (I1.out.below (A0.out.trans ((Ab.refl V0).drew.trans a))) (A0.out.trans ((Ab.refl V0).drew.trans a)).size
  have C2 : Hid (∀ v, Ab V0.drew v -> Calls Tryz.prog 47 #[.slice pw lw cw] v (fun e w2 => ∃ x, e = .returned (mkS lw x) /\ Ab v w2 /\ (∀ b, x.1 = some b -> v.heap.size <= b /\ b < w2.heap.size) /\ (fun x w' => Sh.Own w.heap.size (mkS lw x) ((List.range lw).map W) w') x w2)) := fun v a => cloneI pw lw cw W w.heap.size v HL.out.2.1 (I2.out.below (A0.out.trans ((Ab.refl V0).drew.trans a))) (A0.out.trans ((Ab.refl V0).drew.trans a)).size
  have C3 : Hid (∀ v, Ab V0.drew v -> Calls Tryz.prog 47 #[.slice pt lt ct] v (fun e w2 => ∃ x, e = .returned (mkS lt x) /\ Ab v w2 /\ (∀ b, x.1 = some b -> v.heap.size <= b /\ b < w2.heap.size) /\ (fun x w' => Sh.Own w.heap.size (mkS lt x) ((List.range lt).map T) w') x w2)) := fun v a => cloneI pt lt ct T w.heap.size v HL.out.2.2.1 (I3.out.below (A0.out.trans ((Ab.refl V0).drew.trans a))) (A0.out.trans ((Ab.refl V0).drew.trans a)).size
  have C4 : Hid (∀ v, Ab V0.drew v -> Calls Tryz.prog 46 #[.slice ps ls cs] v (fun e w2 => ∃ x, e = .returned (mkS ls x) /\ Ab v w2 /\ (∀ b, x.1 = some b -> v.heap.size <= b /\ b < w2.heap.size) /\ (fun x w' => OwnG w.heap.size (mkS ls x) ((List.range ls).map S) w') x w2)) := fun v a => cloneF ps ls cs S w.heap.size v HL.out.2.2.2 (I4.out.below (A0.out.trans ((Ab.refl V0).drew.trans a))) (A0.out.trans ((Ab.refl V0).drew.trans a)).size
  clear hF1 hF2
  have STB : Cg.Stable (fun k => if k = 2 then some ((fun x w' => OwnG w.heap.size (mkS lb x) ((List.range lb).map B) w'), mkS lb) else if k = 5 then some ((fun x w' => Sh.Own w.heap.size (mkS lw x) ((List.range lw).map W) w'), mkS lw) else if k = 8 then some ((fun x w' => Sh.Own w.heap.size (mkS lt x) ((List.range lt).map T) w'), mkS lt) else if k = 11 then some ((fun x w' => OwnG w.heap.size (mkS ls x) ((List.range ls).map S) w'), mkS ls) else none) := fun i R mk h x v v' hr ha => by
    by_cases q2 : i = 2
    · subst q2
      simp only [if_true, Option.some.injEq, Prod.mk.injEq] at h
      obtain ⟨h1, h2⟩ := h
      subst h1 h2
      exact OwnG.to hr ha
    · by_cases q5 : i = 5
      · subst q5
        simp only [if_true, if_neg (show ¬ (5 : Nat) = 2 by decide), Option.some.injEq, Prod.mk.injEq] at h
        obtain ⟨h1, h2⟩ := h
        subst h1 h2
        exact Sh.Own.to hr ha
      · by_cases q8 : i = 8
        · subst q8
          simp only [if_true, if_neg (show ¬ (8 : Nat) = 2 by decide), if_neg (show ¬ (8 : Nat) = 5 by decide), Option.some.injEq, Prod.mk.injEq] at h
          obtain ⟨h1, h2⟩ := h
          subst h1 h2
          exact Sh.Own.to hr ha
        · by_cases q11 : i = 11
          · subst q11
            simp only [if_true, if_neg (show ¬ (11 : Nat) = 2 by decide), if_neg (show ¬ (11 : Nat) = 5 by decide), if_neg (show ¬ (11 : Nat) = 8 by decide), Option.some.injEq, Prod.mk.injEq] at h
            obtain ⟨h1, h2⟩ := h
            subst h1 h2
            exact OwnG.to hr ha
          · simp only [if_neg q2, if_neg q5, if_neg q8, if_neg q11] at h
            cases h
  refine Cg.region_free 16 (fun k => if k = 2 then some ((fun x w' => OwnG w.heap.size (mkS lb x) ((List.range lb).map B) w'), mkS lb) else if k = 5 then some ((fun x w' => Sh.Own w.heap.size (mkS lw x) ((List.range lw).map W) w'), mkS lw) else if k = 8 then some ((fun x w' => Sh.Own w.heap.size (mkS lt x) ((List.range lt).map T) w'), mkS lt) else if k = 11 then some ((fun x w' => OwnG w.heap.size (mkS ls x) ((List.range ls).map S) w'), mkS ls) else none) STB (by kernel_rfl) (by kernel_rfl) (by kernel_rfl) ?_
  simp only [List.take_succ_cons, List.take_zero]
  refine Cg.wpFree_one HU (by rfl) (by rfl) ?_
  go_big_quiet_step (with_reducible rfl)
  refine wpQuiet_nil ?_
  refine Cg.wpFree_one HU (by rfl) (by rfl) ?_
  go_big_quiet_step (with_reducible rfl)
  refine wpQuiet_nil ?_
  refine Cg.wpFree_lay (ob := (fun x w' => OwnG w.heap.size (mkS lb x) ((List.range lb).map B) w')) (mk := mkS lb) (by rfl) (by kernel_rfl) ?_ ?_
  · refine Cg.lay_call (f := 46) (args := #[.slice pb lb cb]) ?_ C1.out
    intro v
    refine enter_run (x := .tmp 4) (ats := #[30]) (by rfl) (by rfl) Tryz.func46 (by kernel_rfl) (by kernel_rfl) v
  intro x1 fx1
  simp only [Act.put, List.setIfInBounds_toArray, List.set_cons_succ, List.set_cons_zero]
  refine Cg.wpFree_one HU (by rfl) (by rfl) ?_
  go_big_quiet_step (with_reducible rfl)
  refine wpQuiet_nil ?_
  refine Cg.wpFree_one HU (by rfl) (by rfl) ?_
  go_big_quiet_step (with_reducible rfl)
  refine wpQuiet_nil ?_
  refine Cg.wpFree_lay (ob := (fun x w' => Sh.Own w.heap.size (mkS lw x) ((List.range lw).map W) w')) (mk := mkS lw) (by rfl) (by kernel_rfl) ?_ ?_
  · refine Cg.lay_call (f := 47) (args := #[.slice pw lw cw]) ?_ C2.out
    intro v
    refine enter_run (x := .tmp 7) (ats := #[31]) (by rfl) (by rfl) Tryz.func47 (by kernel_rfl) (by kernel_rfl) v
  intro x2 fx2
  simp only [Act.put, List.setIfInBounds_toArray, List.set_cons_succ, List.set_cons_zero]
  refine Cg.wpFree_one HU (by rfl) (by rfl) ?_
  go_big_quiet_step (with_reducible rfl)
  refine wpQuiet_nil ?_
  refine Cg.wpFree_one HU (by rfl) (by rfl) ?_
  go_big_quiet_step (with_reducible rfl)
  refine wpQuiet_nil ?_
  refine Cg.wpFree_lay (ob := (fun x w' => Sh.Own w.heap.size (mkS lt x) ((List.range lt).map T) w')) (mk := mkS lt) (by rfl) (by kernel_rfl) ?_ ?_
  · refine Cg.lay_call (f := 47) (args := #[.slice pt lt ct]) ?_ C3.out
    intro v
    refine enter_run (x := .tmp 10) (ats := #[31]) (by rfl) (by rfl) Tryz.func47 (by kernel_rfl) (by kernel_rfl) v
  intro x3 fx3
  simp only [Act.put, List.setIfInBounds_toArray, List.set_cons_succ, List.set_cons_zero]
  refine Cg.wpFree_one HU (by rfl) (by rfl) ?_
  go_big_quiet_step (with_reducible rfl)
  refine wpQuiet_nil ?_
  refine Cg.wpFree_one HU (by rfl) (by rfl) ?_
  go_big_quiet_step (with_reducible rfl)
  refine wpQuiet_nil ?_
  refine Cg.wpFree_lay (ob := (fun x w' => OwnG w.heap.size (mkS ls x) ((List.range ls).map S) w')) (mk := mkS ls) (by rfl) (by kernel_rfl) ?_ ?_
  · refine Cg.lay_call (f := 46) (args := #[.slice ps ls cs]) ?_ C4.out
    intro v
    refine enter_run (x := .tmp 13) (ats := #[30]) (by rfl) (by rfl) Tryz.func46 (by kernel_rfl) (by kernel_rfl) v
  intro x4 fx4
  simp only [Act.put, List.setIfInBounds_toArray, List.set_cons_succ, List.set_cons_zero]
  refine Cg.wpFree_one HU (by rfl) (by rfl) ?_
  go_big_quiet_step (with_reducible rfl)
  refine wpQuiet_nil ?_
  refine Cg.wpFree_one HU (by rfl) (by rfl) ?_
  go_big_quiet_step (with_reducible rfl)
  refine wpQuiet_nil ?_
  refine Cg.wpFree_one HU (by rfl) (by rfl) ?_
  go_big_quiet_step (with_reducible rfl)
  refine wpQuiet_nil ?_
  refine Cg.wpFree_one HU (by rfl) (by rfl) ?_
  go_big_quiet_step (with_reducible rfl)
  refine wpQuiet_nil ?_
  refine Cg.wpFree_nil ?_
  intro wz hz
  have h1 := hz.at (i := 2) (x := x1) (R := (fun x w' => OwnG w.heap.size (mkS lb x) ((List.range lb).map B) w')) (mk := mkS lb) (by rfl) (by rfl)
  have h2 := hz.at (i := 5) (x := x2) (R := (fun x w' => Sh.Own w.heap.size (mkS lw x) ((List.range lw).map W) w')) (mk := mkS lw) (by rfl) (by rfl)
  have h3 := hz.at (i := 8) (x := x3) (R := (fun x w' => Sh.Own w.heap.size (mkS lt x) ((List.range lt).map T) w')) (mk := mkS lt) (by rfl) (by rfl)
  have h4 := hz.at (i := 11) (x := x4) (R := (fun x w' => OwnG w.heap.size (mkS ls x) ((List.range ls).map S) w')) (mk := mkS ls) (by rfl) (by rfl)
  have n14 : Dj (mkS lb x1) (mkS ls x4) := fun b q r => by
    rw [mkS_own] at q r
    exact (fx4 b r).2 2 x1 (by rfl) q
  have n23 : Dj (mkS lw x2) (mkS lt x3) := fun b q r => by
    rw [mkS_own] at q r
    exact (fx3 b r).2 5 x2 (by rfl) q
  have AZ : Hid (Ab V0 wz) := (Ab.refl V0).drew.trans hz.1
  have G1 : Hid (gr < V0.heap.size) := Rv.lt_of_get Q0.out
  have far : ∀ (n : Nat) (x : Cg.Ix), (∀ b, x.1 = some b -> V0.drew.heap.size <= b /\ b < wz.heap.size) -> (mkS n x).ownBlock ≠ some gr := fun n x h q => by
    rw [mkS_own] at q
    have h1 : V0.heap.size <= gr := (h gr q).1
    have h2 := G1.out
    omega
  have O1 : Hid (OwnG w.heap.size (mkS lb x1) ((List.range lb).map B) wz /\ (mkS lb x1).ownBlock ≠ some gr) := ⟨h1.1, far _ _ h1.2⟩
  have O2 : Hid (Sh.Own w.heap.size (mkS lw x2) ((List.range lw).map W) wz /\ (mkS lw x2).ownBlock ≠ some gr) := ⟨h2.1, far _ _ h2.2⟩
  have O3 : Hid (Sh.Own w.heap.size (mkS lt x3) ((List.range lt).map T) wz /\ (mkS lt x3).ownBlock ≠ some gr) := ⟨h3.1, far _ _ h3.2⟩
  have O4 : Hid (OwnG w.heap.size (mkS ls x4) ((List.range ls).map S) wz /\ (mkS ls x4).ownBlock ≠ some gr) := ⟨h4.1, far _ _ h4.2⟩
  have NN := hid (And.intro n14 n23)
  have RZ := hid (AZ.out.heap Q0.out)
  obtain ⟨p1, m1, c1, q1⟩ := mkS_sl lb x1
  obtain ⟨p2, m2, c2, q2⟩ := mkS_sl lw x2
  obtain ⟨p3, m3, c3, q3⟩ := mkS_sl lt x3
  obtain ⟨p4, m4, c4, q4⟩ := mkS_sl ls x4
  rw [q1] at O1 NN ⊢
  rw [q2] at O2 NN ⊢
  rw [q3] at O3 NN ⊢
  rw [q4] at O4 NN ⊢
  clear hz fx1 fx2 fx3 fx4 h1 h2 h3 h4 n14 n23 HU HU1 e0 e1 e2 e3 e4 e5 C1 C2 C3 C4 STB q1 q2 q3 q4 far
  clear E UU
  have t0 := cell_of_row _ _ 0 _ _ _ RZ.out
  have t1 := cell_of_row _ _ 1 _ _ _ RZ.out
  have t2 := cell_of_row _ _ 2 _ _ _ RZ.out
  have t3 := cell_of_row _ _ 3 _ _ _ RZ.out
  have t4 := cell_of_row _ _ 4 _ _ _ RZ.out
  have t5 := cell_of_row _ _ 5 _ _ _ RZ.out
  have f0 := free_row RZ.out 0
  have f1 := free_row RZ.out 1
  have f2 := free_row RZ.out 2
  have f3 := free_row RZ.out 3
  have f4 := free_row RZ.out 4
  have f5 := free_row RZ.out 5
  simp only [List.drop_succ_cons, List.drop_zero]
  go_wp2_with fail
  have RY := hid (row6 (x := .slice p1 m1 c1) (y := .slice p2 m2 c2) (z := .slice p3 m3 c3) (p := .slice p4 m4 c4) (q := .int .i64 sky) (r := .int .i64 st) RZ.out)
  refine bodyPost_ret (v := .agg #[.slice p1 m1 c1, .slice p2 m2 c2, .slice p3 m3 c3, .slice p4 m4 c4, .int .i64 sky, .int .i64 st]) ?_ rfl ?_
  · exact results_cell_row Tryz.results17 _ _ gr _ _ (0, 0) _ rfl RY.out Tryz.underlying33 rfl (by kernel_rfl)
  have hg := HG.out
  refine ⟨_, rfl, (((((((A0.out.trans AZ.out).setk hg _).setk hg _).setk hg _).setk hg _).setk hg _).setk hg _), _, _, _, _, rfl, ?_, ?_, ?_, ?_, NN.out.1, NN.out.2⟩
  · exact row_far6 O1.out.1 O1.out.2 _ _ _ _ _ _
  · exact row_far6 O2.out.1 O2.out.2 _ _ _ _ _ _
  · exact row_far6 O3.out.1 O3.out.2 _ _ _ _ _ _
  · exact row_far6 O4.out.1 O4.out.2 _ _ _ _ _ _
theorem copyC : CopyC := fun pb lb cb B pw lw cw W pt lt ct T ps ls cs S sky st w hl i1 i2 i3 i4 => copy_at pb lb cb B pw lw cw W pt lt ct T ps ls cs S sky st w (by show _ /\ _; omega) i1 i2 i3 i4
end Ss
end Go.Proofs.YtdigecacmibkpaaGreatDoor

namespace Go.Proofs.YtdigecacmibkpaaGreatDoor
open Go.RowKit Tf Cu Go.Deep
attribute [local go_sem] run_bits run_from raw_feq raw_fne raw_flt raw_fgt run_neg run_store_float
namespace Ss
theorem sameLF_len (p : Option Addr) (n c : Nat) (p' : Option Addr) (n' c' : Nat) (w : World) (h : ((n : Int) != (n' : Int)) = true) :
    Calls Tryz.prog 40 #[.slice p n c, .slice p' n' c', .func (.func 41) #[] #[]] w fun e w' => e = .returned (.bool false) /\ w' = w := by
  go_enter Tryz.func40, Tryz.ntmps40
  go_wp2
  go_ret
  exact ⟨rfl, rfl⟩
theorem sameLF_go (p : Option Addr) (n c : Nat) (p' : Option Addr) (c' : Nat) (f g : Nat -> Nat) (w : World) (hN : n <= 281474976710656) (HF : Hid (IsFl w p n f)) (HG : Hid (IsFl w p' n g)) (r : Bool) (RY : Hid ((∀ i, i < n -> f i = g i) -> r = true)) (RN : Hid (∀ k, k < n -> f k ≠ g k -> r = false)) :
    Calls Tryz.prog 40 #[.slice p n c, .slice p' n c', .func (.func 41) #[] #[]] w fun e w' => e = .returned (.bool r) /\ w' = w := by
  have HN := hid hN
  clear hN
  have d0 : ((n : Int) != (n : Int)) = false := by simp
  go_enter Tryz.func40, Tryz.ntmps40
  go_wp2
  go_loopw [16] (fun iv wr => ∃ k : Nat, k <= n /\ iv = .int .i64 (k : Nat) /\ (∀ i, i < k -> f i = g i) /\ wr = w) (fun iv _ => n - (intOf iv).toNat)
  case atStart => exact ⟨0, by omega, rfl, fun i hi => absurd hi (Nat.not_lt_zero i), rfl⟩
  case round =>
    obtain ⟨k, hk, rfl, g1, hwr⟩ := hrel
    have hwr2 := hwr.symm
    subst hwr2
    have G1 := hid g1
    clear g1
    by_cases hkn : k < n
    · have HK := hid hkn
      have kI : (k : Int) < n := by omega
      have kB : (k : Int) <= 281474976710656 := by have := HN.out; omega
      obtain ⟨b0, o0, rfl⟩ := HF.out.some0 (show 0 < n by omega)
      obtain ⟨b1, o1, rfl⟩ := HG.out.some0 (show 0 < n by omega)
      obtain ⟨x, hx⟩ : ∃ x, f k = x := ⟨_, rfl⟩
      obtain ⟨y, hy⟩ : ∃ y, g k = y := ⟨_, rfl⟩
      have xc := (HF.out.at0 hkn).2.2
      have yc := (HG.out.at0 hkn).2.2
      rw [hx] at xc
      rw [hy] at yc
      by_cases q : x = y
      · have CS := hid (sameF_at x y true w (decide_eq_true q))
        have E : Hid (f k = g k) := by rw [hx, hy]; exact q
        clear q hx hy hkn hk
        go_wp2_with fail
        refine CS.out.mono ?_
        rintro e9 v9 ⟨rfl, hv9⟩
        have hv8 := hv9.symm
        subst hv8
        go_wp2
        refine ⟨⟨k + 1, by have := HK.out; omega, by simp, fun i hi => ?_, by first | trivial | rfl⟩, by have := HK.out; simp [intOf]; omega⟩
        by_cases l : i < k
        · exact G1.out i l
        · obtain rfl : i = k := by omega
          exact E.out
      · have CS := hid (sameF_at x y false w (decide_eq_false q))
        have E : Hid (r = false) := RN.out k hkn (by rw [hx, hy]; exact q)
        clear q hx hy hkn hk
        go_wp2_with fail
        refine CS.out.mono ?_
        rintro e9 v9 ⟨rfl, hv9⟩
        have hv8 := hv9.symm
        subst hv8
        go_wp2
        go_ret
        exact ⟨by rw [E.out]; rfl, by first | trivial | rfl⟩
    · have e6 : n = k := by omega
      subst e6
      have E : Hid (r = true) := RY.out G1.out
      go_wp2
      go_ret
      exact ⟨by rw [E.out]; rfl, by first | trivial | rfl⟩
theorem sameLF_at (p : Option Addr) (n c : Nat) (p' : Option Addr) (n' c' : Nat) (f g : Nat -> Nat) (r : Bool) (w : World) (hN : n <= 281474976710656) (hf : IsFl w p n f) (hg : IsFl w p' n' g) (hr : eqL n n' f g = r) :
    Calls Tryz.prog 40 #[.slice p n c, .slice p' n' c', .func (.func 41) #[] #[]] w fun e w' => e = .returned (.bool r) /\ w' = w := by
  by_cases h : n = n'
  · subst h
    exact sameLF_go p n c p' c' f g w hN hf hg r (fun q => by rw [<- hr]; exact eqL_yes q) (fun k hk q => by rw [<- hr]; exact eqL_no hk q)
  · rw [<- hr, eqL_len h]
    exact sameLF_len p n c p' n' c' w (by simp; omega)
theorem sameLI_len (p : Option Addr) (n c : Nat) (p' : Option Addr) (n' c' : Nat) (w : World) (h : ((n : Int) != (n' : Int)) = true) :
    Calls Tryz.prog 42 #[.slice p n c, .slice p' n' c', .func (.func 43) #[] #[]] w fun e w' => e = .returned (.bool false) /\ w' = w := by
  go_enter Tryz.func42, Tryz.ntmps42
  go_wp2
  go_ret
  exact ⟨rfl, rfl⟩
theorem sameLI_go (p : Option Addr) (n c : Nat) (p' : Option Addr) (c' : Nat) (f g : Nat -> Int) (w : World) (hN : n <= 281474976710656) (HF : Hid (Sh.IsI w p n f)) (HG : Hid (Sh.IsI w p' n g)) (r : Bool) (RY : Hid ((∀ i, i < n -> f i = g i) -> r = true)) (RN : Hid (∀ k, k < n -> f k ≠ g k -> r = false)) :
    Calls Tryz.prog 42 #[.slice p n c, .slice p' n c', .func (.func 43) #[] #[]] w fun e w' => e = .returned (.bool r) /\ w' = w := by
  have HN := hid hN
  clear hN
  have d0 : ((n : Int) != (n : Int)) = false := by simp
  go_enter Tryz.func42, Tryz.ntmps42
  go_wp2
  go_loopw [16] (fun iv wr => ∃ k : Nat, k <= n /\ iv = .int .i64 (k : Nat) /\ (∀ i, i < k -> f i = g i) /\ wr = w) (fun iv _ => n - (intOf iv).toNat)
  case atStart => exact ⟨0, by omega, rfl, fun i hi => absurd hi (Nat.not_lt_zero i), rfl⟩
  case round =>
    obtain ⟨k, hk, rfl, g1, hwr⟩ := hrel
    have hwr2 := hwr.symm
    subst hwr2
    have G1 := hid g1
    clear g1
    by_cases hkn : k < n
    · have HK := hid hkn
      have kI : (k : Int) < n := by omega
      have kB : (k : Int) <= 281474976710656 := by have := HN.out; omega
      obtain ⟨b0, o0, rfl⟩ := HF.out.some0 (show 0 < n by omega)
      obtain ⟨b1, o1, rfl⟩ := HG.out.some0 (show 0 < n by omega)
      obtain ⟨x, hx⟩ : ∃ x, f k = x := ⟨_, rfl⟩
      obtain ⟨y, hy⟩ : ∃ y, g k = y := ⟨_, rfl⟩
      have xc := (HF.out.at0 hkn).2.2
      have yc := (HG.out.at0 hkn).2.2
      rw [hx] at xc
      rw [hy] at yc
      by_cases q : x = y
      · have CS := hid (sameQ_at x y true w (decide_eq_true q))
        have E : Hid (f k = g k) := by rw [hx, hy]; exact q
        clear q hx hy hkn hk
        go_wp2_with fail
        refine CS.out.mono ?_
        rintro e9 v9 ⟨rfl, hv9⟩
        have hv8 := hv9.symm
        subst hv8
        go_wp2
        refine ⟨⟨k + 1, by have := HK.out; omega, by simp, fun i hi => ?_, by first | trivial | rfl⟩, by have := HK.out; simp [intOf]; omega⟩
        by_cases l : i < k
        · exact G1.out i l
        · obtain rfl : i = k := by omega
          exact E.out
      · have CS := hid (sameQ_at x y false w (decide_eq_false q))
        have E : Hid (r = false) := RN.out k hkn (by rw [hx, hy]; exact q)
        clear q hx hy hkn hk
        go_wp2_with fail
        refine CS.out.mono ?_
        rintro e9 v9 ⟨rfl, hv9⟩
        have hv8 := hv9.symm
        subst hv8
        go_wp2
        go_ret
        exact ⟨by rw [E.out]; rfl, by first | trivial | rfl⟩
    · have e6 : n = k := by omega
      subst e6
      have E : Hid (r = true) := RY.out G1.out
      go_wp2
      go_ret
      exact ⟨by rw [E.out]; rfl, by first | trivial | rfl⟩
theorem sameLI_at (p : Option Addr) (n c : Nat) (p' : Option Addr) (n' c' : Nat) (f g : Nat -> Int) (r : Bool) (w : World) (hN : n <= 281474976710656) (hf : Sh.IsI w p n f) (hg : Sh.IsI w p' n' g) (hr : eqL n n' f g = r) :
    Calls Tryz.prog 42 #[.slice p n c, .slice p' n' c', .func (.func 43) #[] #[]] w fun e w' => e = .returned (.bool r) /\ w' = w := by
  by_cases h : n = n'
  · subst h
    exact sameLI_go p n c p' c' f g w hN hf hg r (fun q => by rw [<- hr]; exact eqL_yes q) (fun k hk q => by rw [<- hr]; exact eqL_no hk q)
  · rw [<- hr, eqL_len h]
    exact sameLI_len p n c p' n' c' w (by simp; omega)
theorem same_0 (pb : Option Addr) (lb cb : Nat) (pw : Option Addr) (lw cw : Nat) (pt : Option Addr) (lt ct : Nat) (ps : Option Addr) (ls cs : Nat) (sky st : Int) (pb' : Option Addr) (lb' cb' : Nat) (pw' : Option Addr) (lw' cw' : Nat) (pt' : Option Addr) (lt' ct' : Nat) (ps' : Option Addr) (ls' cs' : Nat) (sky' st' : Int) (w : World)
    (C0 : Hid (∀ v, Ab w v -> Calls Tryz.prog 40 #[.slice pb lb cb, .slice pb' lb' cb', .func (.func 41) #[] #[]] v fun e w' => e = .returned (.bool false) /\ w' = v)) :
    Calls Tryz.prog 15 #[.agg #[.slice pb lb cb, .slice pw lw cw, .slice pt lt ct, .slice ps ls cs, .int .i64 sky, .int .i64 st], .agg #[.slice pb' lb' cb', .slice pw' lw' cw', .slice pt' lt' ct', .slice ps' ls' cs', .int .i64 sky', .int .i64 st']] w fun e w' => e = .returned (.bool false) /\ Below w.heap.size w w' := by
  have A0 : Hid (Ab w ((w.alloc (.cells #[.slice pb lb cb, .slice pw lw cw, .slice pt lt ct, .slice ps ls cs, .int .i64 sky, .int .i64 st] 33)).alloc (.cells #[.slice pb' lb' cb', .slice pw' lw' cw', .slice pt' lt' ct', .slice ps' ls' cs', .int .i64 sky', .int .i64 st'] 33))) := bl2 _ _ _
  have R0 : Hid (((w.alloc (.cells #[.slice pb lb cb, .slice pw lw cw, .slice pt lt ct, .slice ps ls cs, .int .i64 sky, .int .i64 st] 33)).alloc (.cells #[.slice pb' lb' cb', .slice pw' lw' cw', .slice pt' lt' ct', .slice ps' ls' cs', .int .i64 sky', .int .i64 st'] 33)).heap[w.heap.size]? = some (.cells #[.slice pb lb cb, .slice pw lw cw, .slice pt lt ct, .slice ps ls cs, .int .i64 sky, .int .i64 st] 33)) := heap_alloc2_old _ _ _
  have Q0 : Hid (((w.alloc (.cells #[.slice pb lb cb, .slice pw lw cw, .slice pt lt ct, .slice ps ls cs, .int .i64 sky, .int .i64 st] 33)).alloc (.cells #[.slice pb' lb' cb', .slice pw' lw' cw', .slice pt' lt' ct', .slice ps' ls' cs', .int .i64 sky', .int .i64 st'] 33)).heap[w.heap.size + 1]? = some (.cells #[.slice pb' lb' cb', .slice pw' lw' cw', .slice pt' lt' ct', .slice ps' ls' cs', .int .i64 sky', .int .i64 st'] 33)) := heap_alloc2_new _ _ _
  go_enter Tryz.func15, Tryz.ntmps15
  go_upto_region 1 with fail
  generalize hW : World.alloc (World.alloc w _) _ = v0 at *
  obtain ⟨ga, hga⟩ : ∃ g, w.heap.size = g := ⟨_, rfl⟩
  obtain ⟨gq, hgq⟩ : ∃ g, w.heap.size + 1 = g := ⟨_, rfl⟩
  rw [hgq] at Q0 ⊢
  rw [hga] at R0 ⊢
  clear hga hgq hW
  have x0 := cell_of_row _ _ 0 _ _ _ R0.out
  have x1 := cell_of_row _ _ 1 _ _ _ R0.out
  have x2 := cell_of_row _ _ 2 _ _ _ R0.out
  have x3 := cell_of_row _ _ 3 _ _ _ R0.out
  have x4 := cell_of_row _ _ 4 _ _ _ R0.out
  have x5 := cell_of_row _ _ 5 _ _ _ R0.out
  have y0 := cell_of_row _ _ 0 _ _ _ Q0.out
  have y1 := cell_of_row _ _ 1 _ _ _ Q0.out
  have y2 := cell_of_row _ _ 2 _ _ _ Q0.out
  have y3 := cell_of_row _ _ 3 _ _ _ Q0.out
  have y4 := cell_of_row _ _ 4 _ _ _ Q0.out
  have y5 := cell_of_row _ _ 5 _ _ _ Q0.out
  go_wp2_with fail
  refine (C0.out v0 A0.out).mono ?_
  rintro e9 v9 ⟨rfl, hv9⟩
  have hv8 := hv9.symm
  subst hv8
  go_wp2
  go_ret
  exact ⟨rfl, A0.out⟩
theorem same_1 (pb : Option Addr) (lb cb : Nat) (pw : Option Addr) (lw cw : Nat) (pt : Option Addr) (lt ct : Nat) (ps : Option Addr) (ls cs : Nat) (sky st : Int) (pb' : Option Addr) (lb' cb' : Nat) (pw' : Option Addr) (lw' cw' : Nat) (pt' : Option Addr) (lt' ct' : Nat) (ps' : Option Addr) (ls' cs' : Nat) (sky' st' : Int) (w : World)
    (C0 : Hid (∀ v, Ab w v -> Calls Tryz.prog 40 #[.slice pb lb cb, .slice pb' lb' cb', .func (.func 41) #[] #[]] v fun e w' => e = .returned (.bool true) /\ w' = v))
    (C1 : Hid (∀ v, Ab w v -> Calls Tryz.prog 42 #[.slice pw lw cw, .slice pw' lw' cw', .func (.func 43) #[] #[]] v fun e w' => e = .returned (.bool false) /\ w' = v)) :
    Calls Tryz.prog 15 #[.agg #[.slice pb lb cb, .slice pw lw cw, .slice pt lt ct, .slice ps ls cs, .int .i64 sky, .int .i64 st], .agg #[.slice pb' lb' cb', .slice pw' lw' cw', .slice pt' lt' ct', .slice ps' ls' cs', .int .i64 sky', .int .i64 st']] w fun e w' => e = .returned (.bool false) /\ Below w.heap.size w w' := by
  have A0 : Hid (Ab w ((w.alloc (.cells #[.slice pb lb cb, .slice pw lw cw, .slice pt lt ct, .slice ps ls cs, .int .i64 sky, .int .i64 st] 33)).alloc (.cells #[.slice pb' lb' cb', .slice pw' lw' cw', .slice pt' lt' ct', .slice ps' ls' cs', .int .i64 sky', .int .i64 st'] 33))) := bl2 _ _ _
  have R0 : Hid (((w.alloc (.cells #[.slice pb lb cb, .slice pw lw cw, .slice pt lt ct, .slice ps ls cs, .int .i64 sky, .int .i64 st] 33)).alloc (.cells #[.slice pb' lb' cb', .slice pw' lw' cw', .slice pt' lt' ct', .slice ps' ls' cs', .int .i64 sky', .int .i64 st'] 33)).heap[w.heap.size]? = some (.cells #[.slice pb lb cb, .slice pw lw cw, .slice pt lt ct, .slice ps ls cs, .int .i64 sky, .int .i64 st] 33)) := heap_alloc2_old _ _ _
  have Q0 : Hid (((w.alloc (.cells #[.slice pb lb cb, .slice pw lw cw, .slice pt lt ct, .slice ps ls cs, .int .i64 sky, .int .i64 st] 33)).alloc (.cells #[.slice pb' lb' cb', .slice pw' lw' cw', .slice pt' lt' ct', .slice ps' ls' cs', .int .i64 sky', .int .i64 st'] 33)).heap[w.heap.size + 1]? = some (.cells #[.slice pb' lb' cb', .slice pw' lw' cw', .slice pt' lt' ct', .slice ps' ls' cs', .int .i64 sky', .int .i64 st'] 33)) := heap_alloc2_new _ _ _
  go_enter Tryz.func15, Tryz.ntmps15
  go_upto_region 1 with fail
  generalize hW : World.alloc (World.alloc w _) _ = v0 at *
  obtain ⟨ga, hga⟩ : ∃ g, w.heap.size = g := ⟨_, rfl⟩
  obtain ⟨gq, hgq⟩ : ∃ g, w.heap.size + 1 = g := ⟨_, rfl⟩
  rw [hgq] at Q0 ⊢
  rw [hga] at R0 ⊢
  clear hga hgq hW
  have x0 := cell_of_row _ _ 0 _ _ _ R0.out
  have x1 := cell_of_row _ _ 1 _ _ _ R0.out
  have x2 := cell_of_row _ _ 2 _ _ _ R0.out
  have x3 := cell_of_row _ _ 3 _ _ _ R0.out
  have x4 := cell_of_row _ _ 4 _ _ _ R0.out
  have x5 := cell_of_row _ _ 5 _ _ _ R0.out
  have y0 := cell_of_row _ _ 0 _ _ _ Q0.out
  have y1 := cell_of_row _ _ 1 _ _ _ Q0.out
  have y2 := cell_of_row _ _ 2 _ _ _ Q0.out
  have y3 := cell_of_row _ _ 3 _ _ _ Q0.out
  have y4 := cell_of_row _ _ 4 _ _ _ Q0.out
  have y5 := cell_of_row _ _ 5 _ _ _ Q0.out
  go_wp2_with fail
  refine (C0.out v0 A0.out).mono ?_
  rintro e9 v9 ⟨rfl, hv9⟩
  have hv8 := hv9.symm
  subst hv8
  go_wp2_with fail
  refine (C1.out v0 A0.out).mono ?_
  rintro e9 v9 ⟨rfl, hv9⟩
  have hv8 := hv9.symm
  subst hv8
  go_wp2
  go_ret
  exact ⟨rfl, A0.out⟩
theorem same_2 (pb : Option Addr) (lb cb : Nat) (pw : Option Addr) (lw cw : Nat) (pt : Option Addr) (lt ct : Nat) (ps : Option Addr) (ls cs : Nat) (sky st : Int) (pb' : Option Addr) (lb' cb' : Nat) (pw' : Option Addr) (lw' cw' : Nat) (pt' : Option Addr) (lt' ct' : Nat) (ps' : Option Addr) (ls' cs' : Nat) (sky' st' : Int) (w : World)
    (C0 : Hid (∀ v, Ab w v -> Calls Tryz.prog 40 #[.slice pb lb cb, .slice pb' lb' cb', .func (.func 41) #[] #[]] v fun e w' => e = .returned (.bool true) /\ w' = v))
    (C1 : Hid (∀ v, Ab w v -> Calls Tryz.prog 42 #[.slice pw lw cw, .slice pw' lw' cw', .func (.func 43) #[] #[]] v fun e w' => e = .returned (.bool true) /\ w' = v))
    (C2 : Hid (∀ v, Ab w v -> Calls Tryz.prog 42 #[.slice pt lt ct, .slice pt' lt' ct', .func (.func 43) #[] #[]] v fun e w' => e = .returned (.bool false) /\ w' = v)) :
    Calls Tryz.prog 15 #[.agg #[.slice pb lb cb, .slice pw lw cw, .slice pt lt ct, .slice ps ls cs, .int .i64 sky, .int .i64 st], .agg #[.slice pb' lb' cb', .slice pw' lw' cw', .slice pt' lt' ct', .slice ps' ls' cs', .int .i64 sky', .int .i64 st']] w fun e w' => e = .returned (.bool false) /\ Below w.heap.size w w' := by
  have A0 : Hid (Ab w ((w.alloc (.cells #[.slice pb lb cb, .slice pw lw cw, .slice pt lt ct, .slice ps ls cs, .int .i64 sky, .int .i64 st] 33)).alloc (.cells #[.slice pb' lb' cb', .slice pw' lw' cw', .slice pt' lt' ct', .slice ps' ls' cs', .int .i64 sky', .int .i64 st'] 33))) := bl2 _ _ _
  have R0 : Hid (((w.alloc (.cells #[.slice pb lb cb, .slice pw lw cw, .slice pt lt ct, .slice ps ls cs, .int .i64 sky, .int .i64 st] 33)).alloc (.cells #[.slice pb' lb' cb', .slice pw' lw' cw', .slice pt' lt' ct', .slice ps' ls' cs', .int .i64 sky', .int .i64 st'] 33)).heap[w.heap.size]? = some (.cells #[.slice pb lb cb, .slice pw lw cw, .slice pt lt ct, .slice ps ls cs, .int .i64 sky, .int .i64 st] 33)) := heap_alloc2_old _ _ _
  have Q0 : Hid (((w.alloc (.cells #[.slice pb lb cb, .slice pw lw cw, .slice pt lt ct, .slice ps ls cs, .int .i64 sky, .int .i64 st] 33)).alloc (.cells #[.slice pb' lb' cb', .slice pw' lw' cw', .slice pt' lt' ct', .slice ps' ls' cs', .int .i64 sky', .int .i64 st'] 33)).heap[w.heap.size + 1]? = some (.cells #[.slice pb' lb' cb', .slice pw' lw' cw', .slice pt' lt' ct', .slice ps' ls' cs', .int .i64 sky', .int .i64 st'] 33)) := heap_alloc2_new _ _ _
  go_enter Tryz.func15, Tryz.ntmps15
  go_upto_region 1 with fail
  generalize hW : World.alloc (World.alloc w _) _ = v0 at *
  obtain ⟨ga, hga⟩ : ∃ g, w.heap.size = g := ⟨_, rfl⟩
  obtain ⟨gq, hgq⟩ : ∃ g, w.heap.size + 1 = g := ⟨_, rfl⟩
  rw [hgq] at Q0 ⊢
  rw [hga] at R0 ⊢
  clear hga hgq hW
  have x0 := cell_of_row _ _ 0 _ _ _ R0.out
  have x1 := cell_of_row _ _ 1 _ _ _ R0.out
  have x2 := cell_of_row _ _ 2 _ _ _ R0.out
  have x3 := cell_of_row _ _ 3 _ _ _ R0.out
  have x4 := cell_of_row _ _ 4 _ _ _ R0.out
  have x5 := cell_of_row _ _ 5 _ _ _ R0.out
  have y0 := cell_of_row _ _ 0 _ _ _ Q0.out
  have y1 := cell_of_row _ _ 1 _ _ _ Q0.out
  have y2 := cell_of_row _ _ 2 _ _ _ Q0.out
  have y3 := cell_of_row _ _ 3 _ _ _ Q0.out
  have y4 := cell_of_row _ _ 4 _ _ _ Q0.out
  have y5 := cell_of_row _ _ 5 _ _ _ Q0.out
  go_wp2_with fail
  refine (C0.out v0 A0.out).mono ?_
  rintro e9 v9 ⟨rfl, hv9⟩
  have hv8 := hv9.symm
  subst hv8
  go_wp2_with fail
  refine (C1.out v0 A0.out).mono ?_
  rintro e9 v9 ⟨rfl, hv9⟩
  have hv8 := hv9.symm
  subst hv8
  go_wp2_with fail
  refine (C2.out v0 A0.out).mono ?_
  rintro e9 v9 ⟨rfl, hv9⟩
  have hv8 := hv9.symm
  subst hv8
  go_wp2
  go_ret
  exact ⟨rfl, A0.out⟩
theorem same_3 (pb : Option Addr) (lb cb : Nat) (pw : Option Addr) (lw cw : Nat) (pt : Option Addr) (lt ct : Nat) (ps : Option Addr) (ls cs : Nat) (sky st : Int) (pb' : Option Addr) (lb' cb' : Nat) (pw' : Option Addr) (lw' cw' : Nat) (pt' : Option Addr) (lt' ct' : Nat) (ps' : Option Addr) (ls' cs' : Nat) (sky' st' : Int) (w : World)
    (C0 : Hid (∀ v, Ab w v -> Calls Tryz.prog 40 #[.slice pb lb cb, .slice pb' lb' cb', .func (.func 41) #[] #[]] v fun e w' => e = .returned (.bool true) /\ w' = v))
    (C1 : Hid (∀ v, Ab w v -> Calls Tryz.prog 42 #[.slice pw lw cw, .slice pw' lw' cw', .func (.func 43) #[] #[]] v fun e w' => e = .returned (.bool true) /\ w' = v))
    (C2 : Hid (∀ v, Ab w v -> Calls Tryz.prog 42 #[.slice pt lt ct, .slice pt' lt' ct', .func (.func 43) #[] #[]] v fun e w' => e = .returned (.bool true) /\ w' = v))
    (C3 : Hid (∀ v, Ab w v -> Calls Tryz.prog 40 #[.slice ps ls cs, .slice ps' ls' cs', .func (.func 41) #[] #[]] v fun e w' => e = .returned (.bool false) /\ w' = v)) :
    Calls Tryz.prog 15 #[.agg #[.slice pb lb cb, .slice pw lw cw, .slice pt lt ct, .slice ps ls cs, .int .i64 sky, .int .i64 st], .agg #[.slice pb' lb' cb', .slice pw' lw' cw', .slice pt' lt' ct', .slice ps' ls' cs', .int .i64 sky', .int .i64 st']] w fun e w' => e = .returned (.bool false) /\ Below w.heap.size w w' := by
  have A0 : Hid (Ab w ((w.alloc (.cells #[.slice pb lb cb, .slice pw lw cw, .slice pt lt ct, .slice ps ls cs, .int .i64 sky, .int .i64 st] 33)).alloc (.cells #[.slice pb' lb' cb', .slice pw' lw' cw', .slice pt' lt' ct', .slice ps' ls' cs', .int .i64 sky', .int .i64 st'] 33))) := bl2 _ _ _
  have R0 : Hid (((w.alloc (.cells #[.slice pb lb cb, .slice pw lw cw, .slice pt lt ct, .slice ps ls cs, .int .i64 sky, .int .i64 st] 33)).alloc (.cells #[.slice pb' lb' cb', .slice pw' lw' cw', .slice pt' lt' ct', .slice ps' ls' cs', .int .i64 sky', .int .i64 st'] 33)).heap[w.heap.size]? = some (.cells #[.slice pb lb cb, .slice pw lw cw, .slice pt lt ct, .slice ps ls cs, .int .i64 sky, .int .i64 st] 33)) := heap_alloc2_old _ _ _
  have Q0 : Hid (((w.alloc (.cells #[.slice pb lb cb, .slice pw lw cw, .slice pt lt ct, .slice ps ls cs, .int .i64 sky, .int .i64 st] 33)).alloc (.cells #[.slice pb' lb' cb', .slice pw' lw' cw', .slice pt' lt' ct', .slice ps' ls' cs', .int .i64 sky', .int .i64 st'] 33)).heap[w.heap.size + 1]? = some (.cells #[.slice pb' lb' cb', .slice pw' lw' cw', .slice pt' lt' ct', .slice ps' ls' cs', .int .i64 sky', .int .i64 st'] 33)) := heap_alloc2_new _ _ _
  go_enter Tryz.func15, Tryz.ntmps15
  go_upto_region 1 with fail
  generalize hW : World.alloc (World.alloc w _) _ = v0 at *
  obtain ⟨ga, hga⟩ : ∃ g, w.heap.size = g := ⟨_, rfl⟩
  obtain ⟨gq, hgq⟩ : ∃ g, w.heap.size + 1 = g := ⟨_, rfl⟩
  rw [hgq] at Q0 ⊢
  rw [hga] at R0 ⊢
  clear hga hgq hW
  have x0 := cell_of_row _ _ 0 _ _ _ R0.out
  have x1 := cell_of_row _ _ 1 _ _ _ R0.out
  have x2 := cell_of_row _ _ 2 _ _ _ R0.out
  have x3 := cell_of_row _ _ 3 _ _ _ R0.out
  have x4 := cell_of_row _ _ 4 _ _ _ R0.out
  have x5 := cell_of_row _ _ 5 _ _ _ R0.out
  have y0 := cell_of_row _ _ 0 _ _ _ Q0.out
  have y1 := cell_of_row _ _ 1 _ _ _ Q0.out
  have y2 := cell_of_row _ _ 2 _ _ _ Q0.out
  have y3 := cell_of_row _ _ 3 _ _ _ Q0.out
  have y4 := cell_of_row _ _ 4 _ _ _ Q0.out
  have y5 := cell_of_row _ _ 5 _ _ _ Q0.out
  go_wp2_with fail
  refine (C0.out v0 A0.out).mono ?_
  rintro e9 v9 ⟨rfl, hv9⟩
  have hv8 := hv9.symm
  subst hv8
  go_wp2_with fail
  refine (C1.out v0 A0.out).mono ?_
  rintro e9 v9 ⟨rfl, hv9⟩
  have hv8 := hv9.symm
  subst hv8
  go_wp2_with fail
  refine (C2.out v0 A0.out).mono ?_
  rintro e9 v9 ⟨rfl, hv9⟩
  have hv8 := hv9.symm
  subst hv8
  go_wp2_with fail
  refine (C3.out v0 A0.out).mono ?_
  rintro e9 v9 ⟨rfl, hv9⟩
  have hv8 := hv9.symm
  subst hv8
  go_wp2
  go_ret
  exact ⟨rfl, A0.out⟩
theorem same_4 (pb : Option Addr) (lb cb : Nat) (pw : Option Addr) (lw cw : Nat) (pt : Option Addr) (lt ct : Nat) (ps : Option Addr) (ls cs : Nat) (sky st : Int) (pb' : Option Addr) (lb' cb' : Nat) (pw' : Option Addr) (lw' cw' : Nat) (pt' : Option Addr) (lt' ct' : Nat) (ps' : Option Addr) (ls' cs' : Nat) (sky' st' : Int) (w : World) (h4 : (sky == sky') = false)
    (C0 : Hid (∀ v, Ab w v -> Calls Tryz.prog 40 #[.slice pb lb cb, .slice pb' lb' cb', .func (.func 41) #[] #[]] v fun e w' => e = .returned (.bool true) /\ w' = v))
    (C1 : Hid (∀ v, Ab w v -> Calls Tryz.prog 42 #[.slice pw lw cw, .slice pw' lw' cw', .func (.func 43) #[] #[]] v fun e w' => e = .returned (.bool true) /\ w' = v))
    (C2 : Hid (∀ v, Ab w v -> Calls Tryz.prog 42 #[.slice pt lt ct, .slice pt' lt' ct', .func (.func 43) #[] #[]] v fun e w' => e = .returned (.bool true) /\ w' = v))
    (C3 : Hid (∀ v, Ab w v -> Calls Tryz.prog 40 #[.slice ps ls cs, .slice ps' ls' cs', .func (.func 41) #[] #[]] v fun e w' => e = .returned (.bool true) /\ w' = v)) :
    Calls Tryz.prog 15 #[.agg #[.slice pb lb cb, .slice pw lw cw, .slice pt lt ct, .slice ps ls cs, .int .i64 sky, .int .i64 st], .agg #[.slice pb' lb' cb', .slice pw' lw' cw', .slice pt' lt' ct', .slice ps' ls' cs', .int .i64 sky', .int .i64 st']] w fun e w' => e = .returned (.bool false) /\ Below w.heap.size w w' := by
  have A0 : Hid (Ab w ((w.alloc (.cells #[.slice pb lb cb, .slice pw lw cw, .slice pt lt ct, .slice ps ls cs, .int .i64 sky, .int .i64 st] 33)).alloc (.cells #[.slice pb' lb' cb', .slice pw' lw' cw', .slice pt' lt' ct', .slice ps' ls' cs', .int .i64 sky', .int .i64 st'] 33))) := bl2 _ _ _
  have R0 : Hid (((w.alloc (.cells #[.slice pb lb cb, .slice pw lw cw, .slice pt lt ct, .slice ps ls cs, .int .i64 sky, .int .i64 st] 33)).alloc (.cells #[.slice pb' lb' cb', .slice pw' lw' cw', .slice pt' lt' ct', .slice ps' ls' cs', .int .i64 sky', .int .i64 st'] 33)).heap[w.heap.size]? = some (.cells #[.slice pb lb cb, .slice pw lw cw, .slice pt lt ct, .slice ps ls cs, .int .i64 sky, .int .i64 st] 33)) := heap_alloc2_old _ _ _
  have Q0 : Hid (((w.alloc (.cells #[.slice pb lb cb, .slice pw lw cw, .slice pt lt ct, .slice ps ls cs, .int .i64 sky, .int .i64 st] 33)).alloc (.cells #[.slice pb' lb' cb', .slice pw' lw' cw', .slice pt' lt' ct', .slice ps' ls' cs', .int .i64 sky', .int .i64 st'] 33)).heap[w.heap.size + 1]? = some (.cells #[.slice pb' lb' cb', .slice pw' lw' cw', .slice pt' lt' ct', .slice ps' ls' cs', .int .i64 sky', .int .i64 st'] 33)) := heap_alloc2_new _ _ _
  go_enter Tryz.func15, Tryz.ntmps15
  go_upto_region 1 with fail
  generalize hW : World.alloc (World.alloc w _) _ = v0 at *
  obtain ⟨ga, hga⟩ : ∃ g, w.heap.size = g := ⟨_, rfl⟩
  obtain ⟨gq, hgq⟩ : ∃ g, w.heap.size + 1 = g := ⟨_, rfl⟩
  rw [hgq] at Q0 ⊢
  rw [hga] at R0 ⊢
  clear hga hgq hW
  have x0 := cell_of_row _ _ 0 _ _ _ R0.out
  have x1 := cell_of_row _ _ 1 _ _ _ R0.out
  have x2 := cell_of_row _ _ 2 _ _ _ R0.out
  have x3 := cell_of_row _ _ 3 _ _ _ R0.out
  have x4 := cell_of_row _ _ 4 _ _ _ R0.out
  have x5 := cell_of_row _ _ 5 _ _ _ R0.out
  have y0 := cell_of_row _ _ 0 _ _ _ Q0.out
  have y1 := cell_of_row _ _ 1 _ _ _ Q0.out
  have y2 := cell_of_row _ _ 2 _ _ _ Q0.out
  have y3 := cell_of_row _ _ 3 _ _ _ Q0.out
  have y4 := cell_of_row _ _ 4 _ _ _ Q0.out
  have y5 := cell_of_row _ _ 5 _ _ _ Q0.out
  go_wp2_with fail
  refine (C0.out v0 A0.out).mono ?_
  rintro e9 v9 ⟨rfl, hv9⟩
  have hv8 := hv9.symm
  subst hv8
  go_wp2_with fail
  refine (C1.out v0 A0.out).mono ?_
  rintro e9 v9 ⟨rfl, hv9⟩
  have hv8 := hv9.symm
  subst hv8
  go_wp2_with fail
  refine (C2.out v0 A0.out).mono ?_
  rintro e9 v9 ⟨rfl, hv9⟩
  have hv8 := hv9.symm
  subst hv8
  go_wp2_with fail
  refine (C3.out v0 A0.out).mono ?_
  rintro e9 v9 ⟨rfl, hv9⟩
  have hv8 := hv9.symm
  subst hv8
  go_wp2
  go_ret
  exact ⟨rfl, A0.out⟩
theorem same_5 (pb : Option Addr) (lb cb : Nat) (pw : Option Addr) (lw cw : Nat) (pt : Option Addr) (lt ct : Nat) (ps : Option Addr) (ls cs : Nat) (sky st : Int) (pb' : Option Addr) (lb' cb' : Nat) (pw' : Option Addr) (lw' cw' : Nat) (pt' : Option Addr) (lt' ct' : Nat) (ps' : Option Addr) (ls' cs' : Nat) (sky' st' : Int) (w : World) (h4 : (sky == sky') = true) (h5 : (st == st') = false)
    (C0 : Hid (∀ v, Ab w v -> Calls Tryz.prog 40 #[.slice pb lb cb, .slice pb' lb' cb', .func (.func 41) #[] #[]] v fun e w' => e = .returned (.bool true) /\ w' = v))
    (C1 : Hid (∀ v, Ab w v -> Calls Tryz.prog 42 #[.slice pw lw cw, .slice pw' lw' cw', .func (.func 43) #[] #[]] v fun e w' => e = .returned (.bool true) /\ w' = v))
    (C2 : Hid (∀ v, Ab w v -> Calls Tryz.prog 42 #[.slice pt lt ct, .slice pt' lt' ct', .func (.func 43) #[] #[]] v fun e w' => e = .returned (.bool true) /\ w' = v))
    (C3 : Hid (∀ v, Ab w v -> Calls Tryz.prog 40 #[.slice ps ls cs, .slice ps' ls' cs', .func (.func 41) #[] #[]] v fun e w' => e = .returned (.bool true) /\ w' = v)) :
    Calls Tryz.prog 15 #[.agg #[.slice pb lb cb, .slice pw lw cw, .slice pt lt ct, .slice ps ls cs, .int .i64 sky, .int .i64 st], .agg #[.slice pb' lb' cb', .slice pw' lw' cw', .slice pt' lt' ct', .slice ps' ls' cs', .int .i64 sky', .int .i64 st']] w fun e w' => e = .returned (.bool false) /\ Below w.heap.size w w' := by
  have A0 : Hid (Ab w ((w.alloc (.cells #[.slice pb lb cb, .slice pw lw cw, .slice pt lt ct, .slice ps ls cs, .int .i64 sky, .int .i64 st] 33)).alloc (.cells #[.slice pb' lb' cb', .slice pw' lw' cw', .slice pt' lt' ct', .slice ps' ls' cs', .int .i64 sky', .int .i64 st'] 33))) := bl2 _ _ _
  have R0 : Hid (((w.alloc (.cells #[.slice pb lb cb, .slice pw lw cw, .slice pt lt ct, .slice ps ls cs, .int .i64 sky, .int .i64 st] 33)).alloc (.cells #[.slice pb' lb' cb', .slice pw' lw' cw', .slice pt' lt' ct', .slice ps' ls' cs', .int .i64 sky', .int .i64 st'] 33)).heap[w.heap.size]? = some (.cells #[.slice pb lb cb, .slice pw lw cw, .slice pt lt ct, .slice ps ls cs, .int .i64 sky, .int .i64 st] 33)) := heap_alloc2_old _ _ _
  have Q0 : Hid (((w.alloc (.cells #[.slice pb lb cb, .slice pw lw cw, .slice pt lt ct, .slice ps ls cs, .int .i64 sky, .int .i64 st] 33)).alloc (.cells #[.slice pb' lb' cb', .slice pw' lw' cw', .slice pt' lt' ct', .slice ps' ls' cs', .int .i64 sky', .int .i64 st'] 33)).heap[w.heap.size + 1]? = some (.cells #[.slice pb' lb' cb', .slice pw' lw' cw', .slice pt' lt' ct', .slice ps' ls' cs', .int .i64 sky', .int .i64 st'] 33)) := heap_alloc2_new _ _ _
  go_enter Tryz.func15, Tryz.ntmps15
  go_upto_region 1 with fail
  generalize hW : World.alloc (World.alloc w _) _ = v0 at *
  obtain ⟨ga, hga⟩ : ∃ g, w.heap.size = g := ⟨_, rfl⟩
  obtain ⟨gq, hgq⟩ : ∃ g, w.heap.size + 1 = g := ⟨_, rfl⟩
  rw [hgq] at Q0 ⊢
  rw [hga] at R0 ⊢
  clear hga hgq hW
  have x0 := cell_of_row _ _ 0 _ _ _ R0.out
  have x1 := cell_of_row _ _ 1 _ _ _ R0.out
  have x2 := cell_of_row _ _ 2 _ _ _ R0.out
  have x3 := cell_of_row _ _ 3 _ _ _ R0.out
  have x4 := cell_of_row _ _ 4 _ _ _ R0.out
  have x5 := cell_of_row _ _ 5 _ _ _ R0.out
  have y0 := cell_of_row _ _ 0 _ _ _ Q0.out
  have y1 := cell_of_row _ _ 1 _ _ _ Q0.out
  have y2 := cell_of_row _ _ 2 _ _ _ Q0.out
  have y3 := cell_of_row _ _ 3 _ _ _ Q0.out
  have y4 := cell_of_row _ _ 4 _ _ _ Q0.out
  have y5 := cell_of_row _ _ 5 _ _ _ Q0.out
  go_wp2_with fail
  refine (C0.out v0 A0.out).mono ?_
  rintro e9 v9 ⟨rfl, hv9⟩
  have hv8 := hv9.symm
  subst hv8
  go_wp2_with fail
  refine (C1.out v0 A0.out).mono ?_
  rintro e9 v9 ⟨rfl, hv9⟩
  have hv8 := hv9.symm
  subst hv8
  go_wp2_with fail
  refine (C2.out v0 A0.out).mono ?_
  rintro e9 v9 ⟨rfl, hv9⟩
  have hv8 := hv9.symm
  subst hv8
  go_wp2_with fail
  refine (C3.out v0 A0.out).mono ?_
  rintro e9 v9 ⟨rfl, hv9⟩
  have hv8 := hv9.symm
  subst hv8
  go_wp2
  go_ret
  exact ⟨rfl, A0.out⟩
theorem same_6 (pb : Option Addr) (lb cb : Nat) (pw : Option Addr) (lw cw : Nat) (pt : Option Addr) (lt ct : Nat) (ps : Option Addr) (ls cs : Nat) (sky st : Int) (pb' : Option Addr) (lb' cb' : Nat) (pw' : Option Addr) (lw' cw' : Nat) (pt' : Option Addr) (lt' ct' : Nat) (ps' : Option Addr) (ls' cs' : Nat) (sky' st' : Int) (w : World) (h4 : (sky == sky') = true) (h5 : (st == st') = true)
    (C0 : Hid (∀ v, Ab w v -> Calls Tryz.prog 40 #[.slice pb lb cb, .slice pb' lb' cb', .func (.func 41) #[] #[]] v fun e w' => e = .returned (.bool true) /\ w' = v))
    (C1 : Hid (∀ v, Ab w v -> Calls Tryz.prog 42 #[.slice pw lw cw, .slice pw' lw' cw', .func (.func 43) #[] #[]] v fun e w' => e = .returned (.bool true) /\ w' = v))
    (C2 : Hid (∀ v, Ab w v -> Calls Tryz.prog 42 #[.slice pt lt ct, .slice pt' lt' ct', .func (.func 43) #[] #[]] v fun e w' => e = .returned (.bool true) /\ w' = v))
    (C3 : Hid (∀ v, Ab w v -> Calls Tryz.prog 40 #[.slice ps ls cs, .slice ps' ls' cs', .func (.func 41) #[] #[]] v fun e w' => e = .returned (.bool true) /\ w' = v)) :
    Calls Tryz.prog 15 #[.agg #[.slice pb lb cb, .slice pw lw cw, .slice pt lt ct, .slice ps ls cs, .int .i64 sky, .int .i64 st], .agg #[.slice pb' lb' cb', .slice pw' lw' cw', .slice pt' lt' ct', .slice ps' ls' cs', .int .i64 sky', .int .i64 st']] w fun e w' => e = .returned (.bool true) /\ Below w.heap.size w w' := by
  have A0 : Hid (Ab w ((w.alloc (.cells #[.slice pb lb cb, .slice pw lw cw, .slice pt lt ct, .slice ps ls cs, .int .i64 sky, .int .i64 st] 33)).alloc (.cells #[.slice pb' lb' cb', .slice pw' lw' cw', .slice pt' lt' ct', .slice ps' ls' cs', .int .i64 sky', .int .i64 st'] 33))) := bl2 _ _ _
  have R0 : Hid (((w.alloc (.cells #[.slice pb lb cb, .slice pw lw cw, .slice pt lt ct, .slice ps ls cs, .int .i64 sky, .int .i64 st] 33)).alloc (.cells #[.slice pb' lb' cb', .slice pw' lw' cw', .slice pt' lt' ct', .slice ps' ls' cs', .int .i64 sky', .int .i64 st'] 33)).heap[w.heap.size]? = some (.cells #[.slice pb lb cb, .slice pw lw cw, .slice pt lt ct, .slice ps ls cs, .int .i64 sky, .int .i64 st] 33)) := heap_alloc2_old _ _ _
  have Q0 : Hid (((w.alloc (.cells #[.slice pb lb cb, .slice pw lw cw, .slice pt lt ct, .slice ps ls cs, .int .i64 sky, .int .i64 st] 33)).alloc (.cells #[.slice pb' lb' cb', .slice pw' lw' cw', .slice pt' lt' ct', .slice ps' ls' cs', .int .i64 sky', .int .i64 st'] 33)).heap[w.heap.size + 1]? = some (.cells #[.slice pb' lb' cb', .slice pw' lw' cw', .slice pt' lt' ct', .slice ps' ls' cs', .int .i64 sky', .int .i64 st'] 33)) := heap_alloc2_new _ _ _
  go_enter Tryz.func15, Tryz.ntmps15
  go_upto_region 1 with fail
  generalize hW : World.alloc (World.alloc w _) _ = v0 at *
  obtain ⟨ga, hga⟩ : ∃ g, w.heap.size = g := ⟨_, rfl⟩
  obtain ⟨gq, hgq⟩ : ∃ g, w.heap.size + 1 = g := ⟨_, rfl⟩
  rw [hgq] at Q0 ⊢
  rw [hga] at R0 ⊢
  clear hga hgq hW
  have x0 := cell_of_row _ _ 0 _ _ _ R0.out
  have x1 := cell_of_row _ _ 1 _ _ _ R0.out
  have x2 := cell_of_row _ _ 2 _ _ _ R0.out
  have x3 := cell_of_row _ _ 3 _ _ _ R0.out
  have x4 := cell_of_row _ _ 4 _ _ _ R0.out
  have x5 := cell_of_row _ _ 5 _ _ _ R0.out
  have y0 := cell_of_row _ _ 0 _ _ _ Q0.out
  have y1 := cell_of_row _ _ 1 _ _ _ Q0.out
  have y2 := cell_of_row _ _ 2 _ _ _ Q0.out
  have y3 := cell_of_row _ _ 3 _ _ _ Q0.out
  have y4 := cell_of_row _ _ 4 _ _ _ Q0.out
  have y5 := cell_of_row _ _ 5 _ _ _ Q0.out
  go_wp2_with fail
  refine (C0.out v0 A0.out).mono ?_
  rintro e9 v9 ⟨rfl, hv9⟩
  have hv8 := hv9.symm
  subst hv8
  go_wp2_with fail
  refine (C1.out v0 A0.out).mono ?_
  rintro e9 v9 ⟨rfl, hv9⟩
  have hv8 := hv9.symm
  subst hv8
  go_wp2_with fail
  refine (C2.out v0 A0.out).mono ?_
  rintro e9 v9 ⟨rfl, hv9⟩
  have hv8 := hv9.symm
  subst hv8
  go_wp2_with fail
  refine (C3.out v0 A0.out).mono ?_
  rintro e9 v9 ⟨rfl, hv9⟩
  have hv8 := hv9.symm
  subst hv8
  go_wp2
  go_ret
  exact ⟨rfl, A0.out⟩
theorem same_at (pb : Option Addr) (lb cb : Nat) (B : Nat -> Nat) (pw : Option Addr) (lw cw : Nat) (W : Nat -> Int) (pt : Option Addr) (lt ct : Nat) (T : Nat -> Int) (ps : Option Addr) (ls cs : Nat) (S : Nat -> Nat) (sky st : Int) (pb' : Option Addr) (lb' cb' : Nat) (B' : Nat -> Nat) (pw' : Option Addr) (lw' cw' : Nat) (W' : Nat -> Int) (pt' : Option Addr) (lt' ct' : Nat) (T' : Nat -> Int) (ps' : Option Addr) (ls' cs' : Nat) (S' : Nat -> Nat) (sky' st' : Int) (w : World) (hl : (lb <= 281474976710656 /\ lw <= 281474976710656 /\ lt <= 281474976710656 /\ ls <= 281474976710656)) (i1 : IsFl w pb lb B) (i2 : Sh.IsI w pw lw W) (i3 : Sh.IsI w pt lt T) (i4 : IsFl w ps ls S) (j1 : IsFl w pb' lb' B') (j2 : Sh.IsI w pw' lw' W') (j3 : Sh.IsI w pt' lt' T') (j4 : IsFl w ps' ls' S') :
    Calls Tryz.prog 15 #[.agg #[.slice pb lb cb, .slice pw lw cw, .slice pt lt ct, .slice ps ls cs, .int .i64 sky, .int .i64 st], .agg #[.slice pb' lb' cb', .slice pw' lw' cw', .slice pt' lt' ct', .slice ps' ls' cs', .int .i64 sky', .int .i64 st']] w fun e w' => e = .returned (.bool (eqS lb lw lt ls B W T S sky st lb' lw' lt' ls' B' W' T' S' sky' st')) /\ Below w.heap.size w w' := by
  have C1 := fun r (h : eqL lb lb' B B' = r) v (a : Ab w v) => sameLF_at pb lb cb pb' lb' cb' B B' r v hl.1 (i1.below a) (j1.below a) h
  have C2 := fun r (h : eqL lw lw' W W' = r) v (a : Ab w v) => sameLI_at pw lw cw pw' lw' cw' W W' r v hl.2.1 (i2.below a) (j2.below a) h
  have C3 := fun r (h : eqL lt lt' T T' = r) v (a : Ab w v) => sameLI_at pt lt ct pt' lt' ct' T T' r v hl.2.2.1 (i3.below a) (j3.below a) h
  have C4 := fun r (h : eqL ls ls' S S' = r) v (a : Ab w v) => sameLF_at ps ls cs ps' ls' cs' S S' r v hl.2.2.2 (i4.below a) (j4.below a) h
  unfold eqS
  cases h0 : eqL lb lb' B B' with
  | false => exact same_0 pb lb cb pw lw cw pt lt ct ps ls cs sky st pb' lb' cb' pw' lw' cw' pt' lt' ct' ps' ls' cs' sky' st' w (C1 _ h0)
  | true =>
    cases h1 : eqL lw lw' W W' with
    | false => exact same_1 pb lb cb pw lw cw pt lt ct ps ls cs sky st pb' lb' cb' pw' lw' cw' pt' lt' ct' ps' ls' cs' sky' st' w (C1 _ h0) (C2 _ h1)
    | true =>
      cases h2 : eqL lt lt' T T' with
      | false => exact same_2 pb lb cb pw lw cw pt lt ct ps ls cs sky st pb' lb' cb' pw' lw' cw' pt' lt' ct' ps' ls' cs' sky' st' w (C1 _ h0) (C2 _ h1) (C3 _ h2)
      | true =>
        cases h3 : eqL ls ls' S S' with
        | false => exact same_3 pb lb cb pw lw cw pt lt ct ps ls cs sky st pb' lb' cb' pw' lw' cw' pt' lt' ct' ps' ls' cs' sky' st' w (C1 _ h0) (C2 _ h1) (C3 _ h2) (C4 _ h3)
        | true =>
          by_cases h4 : sky = sky'
          · by_cases h5 : st = st'
            · rw [decide_eq_true h4, decide_eq_true h5]
              exact same_6 pb lb cb pw lw cw pt lt ct ps ls cs sky st pb' lb' cb' pw' lw' cw' pt' lt' ct' ps' ls' cs' sky' st' w (by simp [h4]) (by simp [h5]) (C1 _ h0) (C2 _ h1) (C3 _ h2) (C4 _ h3)
            · rw [decide_eq_true h4, decide_eq_false h5]
              exact same_5 pb lb cb pw lw cw pt lt ct ps ls cs sky st pb' lb' cb' pw' lw' cw' pt' lt' ct' ps' ls' cs' sky' st' w (by simp [h4]) (by simp [h5]) (C1 _ h0) (C2 _ h1) (C3 _ h2) (C4 _ h3)
          · rw [decide_eq_false h4]
            exact same_4 pb lb cb pw lw cw pt lt ct ps ls cs sky st pb' lb' cb' pw' lw' cw' pt' lt' ct' ps' ls' cs' sky' st' w (by simp [h4]) (C1 _ h0) (C2 _ h1) (C3 _ h2) (C4 _ h3)
theorem sameC : SameC := fun pb lb cb B pw lw cw W pt lt ct T ps ls cs S sky st pb' lb' cb' B' pw' lw' cw' W' pt' lt' ct' T' ps' ls' cs' S' sky' st' w hl _ i1 i2 i3 i4 j1 j2 j3 j4 => same_at pb lb cb B pw lw cw W pt lt ct T ps ls cs S sky st pb' lb' cb' B' pw' lw' cw' W' pt' lt' ct' T' ps' ls' cs' S' sky' st' w (le20 hl) i1 i2 i3 i4 j1 j2 j3 j4
end Ss
end Go.Proofs.YtdigecacmibkpaaGreatDoor

namespace Go.Proofs.YtdigecacmibkpaaGreatDoor
open Go.RowKit Tf Cu Go.Deep
attribute [local go_sem] run_bits run_from raw_feq raw_fne raw_flt raw_fgt run_neg run_store_float
namespace Ss
theorem edgeT_go (n gb r i l s rcl bkl c q u a : Nat) (g : Int) (w : World) (sB : s < 4) (qB : q < 4) (hu : (s + q) % 4 = u)
    (CE : Hid (∀ v, Ab w v -> Calls Tryz.prog 90 #[.pointer (some ⟨gb, 0, none⟩), .int .i64 (i : Nat)] v fun e w' => e = .returned (.tuple #[.agg #[.int .i64 (l : Nat), .int .i64 (s : Nat), .int .i64 (rcl : Nat), .int .i64 (bkl : Nat)], .bool true]) /\ Below v.heap.size v w'))
    (CS : Hid (∀ v, Ab w v -> Calls Tryz.prog 91 #[.pointer (some ⟨gb, 0, none⟩)] v fun e w' => e = .returned (.int .i64 (n : Nat)) /\ Below v.heap.size v w'))
    (CT : Hid (∀ v, Ab w v -> Calls Tryz.prog 50 #[.int .i64 (n : Nat), .int .i64 (r : Nat), .int .i64 (l : Nat)] v fun e w' => e = .returned (.tuple #[.int .i64 (c : Nat), .int .i64 (q : Nat)]) /\ Below v.heap.size v w'))
    (CA : Hid (∀ v, Ab w v -> Calls Tryz.prog 92 #[.pointer (some ⟨gb, 0, none⟩), .int .i64 (c : Nat), .int .i64 (u : Nat)] v fun e w' => e = .returned (.tuple #[.int .i64 (a : Nat), .int .i64 g]) /\ Below v.heap.size v w')) :
    Calls Tryz.prog 51 #[.pointer (some ⟨gb, 0, none⟩), .int .i64 (r : Nat), .int .i64 (i : Nat)] w fun e w' => e = .returned (.tuple #[.int .i64 (a : Nat), .int .i64 g]) /\ Below w.heap.size w w' := by
  have rm : ((s : Int) + (q : Int)).tmod 4 = (u : Nat) := by rw [Int.tmod_eq_emod_of_nonneg (by omega)]; omega
  have sI : (s : Int) < 4 := by omega
  have qI : (q : Int) < 4 := by omega
  clear sB qB hu
  go_enter Tryz.func51, Tryz.ntmps51
  go_wp2_with fail
  refine (CE.out w (Ab.refl w)).mono ?_
  rintro e9 v1 ⟨rfl, b1⟩
  have A1 : Hid (Ab w v1) := b1
  clear b1 CE
  have E2 : Hid ((v1.alloc (.cells #[.int .i64 (l : Nat), .int .i64 (s : Nat), .int .i64 (rcl : Nat), .int .i64 (bkl : Nat)] 84)).heap[v1.heap.size]? = some (.cells #[.int .i64 (l : Nat), .int .i64 (s : Nat), .int .i64 (rcl : Nat), .int .i64 (bkl : Nat)] 84)) := heap_alloc_new _ _
  have A2 : Hid (Ab w (v1.alloc (.cells #[.int .i64 (l : Nat), .int .i64 (s : Nat), .int .i64 (rcl : Nat), .int .i64 (bkl : Nat)] 84))) := A1.out.trans (bl1 _ _)
  go_upto_region 2 with fail
  generalize hW : World.alloc v1 _ = v2 at *
  obtain ⟨ge, hge⟩ : ∃ g, v1.heap.size = g := ⟨_, rfl⟩
  rw [hge] at E2 ⊢
  clear hge hW A1
  obtain ⟨UU, E, hF1, hF2⟩ := cls v2
  have HU := hid hF2
  have HU1 := hid hF1
  have y0 : ∀ u, (E u).cell? ⟨ge, 0, none⟩ = some (.int .i64 (l : Nat)) := fun u => cell_of_row _ _ 0 _ _ _ ((hF1 u).heap E2.out)
  have HX : Hid (∀ u, Ab w (E u)) := fun u => A2.out.trans (hF1 u)
  have DD0 := HU.out _ (Ab.refl v2).drew
  clear hF1 hF2
  refine region_cls E (by kernel_rfl) (by kernel_rfl) DD0 ?_
  repeat (go_big_quiet_step (first
    | (go_at_call 91; exact calls_cls HU HU1 (CS.out _ (HX.out _)))
    | (go_at_call 50; exact calls_cls HU HU1 (CT.out _ (HX.out _)))
    | (with_reducible rfl)))
  refine wpQuiet_nil ?_
  intro v3 hwz
  obtain ⟨u0, hu⟩ := hwz
  have A3 : Hid (Ab v2 v3) := by rw [hu]; exact HU1.out u0
  clear hu u0
  clear HU HU1 DD0 y0 HX
  clear E UU
  have y1 := cell_of_row _ _ 1 _ _ _ (A3.out.heap E2.out)
  go_wp2_with fail
  refine (CA.out v3 (A2.out.trans A3.out)).mono ?_
  rintro e9 v4 ⟨rfl, b4⟩
  have A4 : Hid (Ab w v4) := (A2.out.trans A3.out).trans b4
  clear b4 y1
  go_wp2
  go_ret2
  exact ⟨rfl, A4.out⟩
theorem edgeT_at {n gb r i : Nat} {w : World} (hn : 1 <= n /\ n <= 32) (hr : r < 24) (hi : i < 12 * n * n) (g : GridOf n gb w) (hF : Fr w) :
    Calls Tryz.prog 51 #[.pointer (some ⟨gb, 0, none⟩), .int .i64 (r : Nat), .int .i64 (i : Nat)] w fun e w' => e = .returned (.tuple #[.int .i64 (atS n r i : Nat), .int .i64 (eS n (tnT n r (edT n i)))]) /\ Below w.heap.size w w' := by
  obtain ⟨h1, h2, h3⟩ := edT_spec hn.1 hi
  refine edgeT_go n gb r i (edT n i / 4) (edT n i % 4) (bsC n (edT n i / 4) (edT n i % 4)) (bsS n (edT n i / 4) (edT n i % 4)) (tnC n r (edT n i / 4)) (tnS n r (edT n i / 4)) _ _ _ w (Nat.mod_lt _ (by omega)) (tn_lt9 hn.1 (t_cell h1) hr).2 rfl (fun v a => ?_) (fun v a => ?_) (fun v a => ?_) (fun v a => ?_)
  · have e := gEdge_ok hn h1 h2 (g.to a)
    rw [h3] at e
    exact e
  · exact (gSide_at (g.to a)).mono fun e w' h => ⟨h.1, by rw [h.2]; exact Below.refl _ _⟩
  · exact turn_at n r (edT n i / 4) v hn (t_cell h1) hr (hF.to a)
  · exact gAround_n hn (tn_in hn.1 hr (t_cell h1)) (Nat.mod_lt _ (by omega)) (g.to a)
end Ss
end Go.Proofs.YtdigecacmibkpaaGreatDoor
