/-
  Some of the texts of this proof, one behind the other.
-/
import Derived.Deep.QuietTactic
import Derived.Test.YtpfoohpncbkkfaaDoorZ14
namespace Go.Proofs.YtpfoohpncbkkfaaDoor
open Go.RowKit Tf Cu Go.Deep Rl
attribute [local go_sem] run_bits run_from raw_feq raw_fne raw_flt raw_fgt run_neg run_store_float
namespace Fc
set_option maxRecDepth 100000 in
set_option maxHeartbeats 8000000 in
theorem kept_at (x : Nat) (w : World) (hx : x < 18446744073709551616) : Calls Tryd.prog 57 #[.float .f64 x] w fun e w' => e = .returned (.float .f64 (cuB x)) ∧ w' = w := by
  have CL := hid (class_any x w hx)
  have CN := hid (canon_any x w hx)
  cases c1 : fgt x 4652218415073722368
  · cases c2 : flt x 13875590451928498176
    · cases c3 : isN x
      · have e : cuB x = canonB x := by unfold cuB; rw [if_neg (by rw [c1]; decide), if_neg (by rw [c2]; decide), if_neg (by rw [c3]; decide)]
        rw [e]
        have e4 : (classB x == 4) = false := by
          have h := isN_false.1 c3
          unfold classB
          split
          · rfl
          · split
            · rfl
            · split
              · rfl
              · rw [if_pos (by omega)]; rfl
        clear e c3 hx
        generalize canonB x = y at *
        generalize classB x = c at *
        go_enter Tryd.func57, Tryd.ntmps57
        go_wp2_with fail
        refine (CL.out).mono ?_
        rintro e w' ⟨rfl, rfl⟩
        go_wp2_with fail
        refine (CN.out).mono ?_
        rintro e w' ⟨rfl, rfl⟩
        go_wp2
        go_ret
        exact ⟨rfl, rfl⟩
      · have e : cuB x = 0 := by unfold cuB; rw [if_neg (by rw [c1]; decide), if_neg (by rw [c2]; decide), if_pos c3]
        rw [e]
        have e4 : (classB x == 4) = true := by
          have h := isN_true.1 c3
          unfold classB
          rw [if_neg (by omega), if_neg (by omega), if_neg (by omega), if_neg (by omega)]
          rfl
        clear e c3 hx
        generalize classB x = c at *
        go_enter Tryd.func57, Tryd.ntmps57
        go_wp2_with fail
        refine (CL.out).mono ?_
        rintro e w' ⟨rfl, rfl⟩
        go_wp2
        go_ret
        exact ⟨rfl, rfl⟩
    · have e : cuB x = 13875590451928498176 := by unfold cuB; rw [if_neg (by rw [c1]; decide), if_pos c2]
      rw [e]
      clear e hx
      go_enter Tryd.func57, Tryd.ntmps57
      go_wp2
      go_ret
      exact ⟨rfl, rfl⟩
  · have e : cuB x = 4652218415073722368 := by unfold cuB; rw [if_pos c1]
    rw [e]
    clear e hx
    go_enter Tryd.func57, Tryd.ntmps57
    go_wp2
    go_ret
    exact ⟨rfl, rfl⟩
set_option maxRecDepth 100000 in
set_option maxHeartbeats 8000000 in
theorem edepth_at (bl br gap vu : Nat) (wl al wr ar : Int) (dl dv : Nat) (w : World) (h3 : dl < 18446744073709551616) (h4 : dv < 18446744073709551616)
    (DL : Hid (∀ v, Calls Tryd.prog 60 #[.agg #[.float .f64 bl, .int .i64 wl, .int .i64 al]] v fun e w' => e = .returned (.float .f64 dl) ∧ Below v.heap.size v w'))
    (DR : Hid (∀ v, Calls Tryd.prog 60 #[.agg #[.float .f64 br, .int .i64 wr, .int .i64 ar]] v fun e w' => e = .returned (.float .f64 dv) ∧ Below v.heap.size v w')) :
    Calls Tryd.prog 39 #[.agg #[.float .f64 bl, .int .i64 wl, .int .i64 al, .float .f64 br, .int .i64 wr, .int .i64 ar, .float .f64 gap, .float .f64 vu]] w fun e w' => (∃ r, e = .returned (.float .f64 r) ∧ r < 18446744073709551616 ∧ fgt r 0 = fgt (hB dl dv) 0 ∧ (fgt r 0 = true → r = hB dl dv)) ∧ Below w.heap.size w w' := by
  have W_W0 : Hid (Ab w (w.alloc (.cells #[.float .f64 bl, .int .i64 wl, .int .i64 al, .float .f64 br, .int .i64 wr, .int .i64 ar, .float .f64 gap, .float .f64 vu] 73))) := bl1 _ _
  have R0 : Hid ((w.alloc (.cells #[.float .f64 bl, .int .i64 wl, .int .i64 al, .float .f64 br, .int .i64 wr, .int .i64 ar, .float .f64 gap, .float .f64 vu] 73)).heap[w.heap.size]? = some (.cells #[.float .f64 bl, .int .i64 wl, .int .i64 al, .float .f64 br, .int .i64 wr, .int .i64 ar, .float .f64 gap, .float .f64 vu] 73)) := heap_alloc_new _ _
  go_enter Tryd.func39, Tryd.ntmps39
  go_upto_region 1 with fail
  generalize hW : World.alloc w _ = W0 at *
  obtain ⟨g1, hg1⟩ : ∃ g, w.heap.size = g := ⟨_, rfl⟩
  rw [hg1] at R0 ⊢
  clear hg1 hW
  obtain ⟨UU, E, hF1, hF2⟩ := cls W0
  have HU := hid hF2
  have HU1 := hid hF1
  have HX : Hid (∀ u, Ab w (E u)) := fun u => W_W0.out.trans (hF1 u)
  have x0 : ∀ u, (E u).cell? ⟨g1, 0, none⟩ = some (.float .f64 bl) := fun u => cell_of_row _ _ 0 _ _ _ ((hF1 u).heap R0.out)
  have x1 : ∀ u, (E u).cell? ⟨g1, 1, none⟩ = some (.int .i64 wl) := fun u => cell_of_row _ _ 1 _ _ _ ((hF1 u).heap R0.out)
  have x2 : ∀ u, (E u).cell? ⟨g1, 2, none⟩ = some (.int .i64 al) := fun u => cell_of_row _ _ 2 _ _ _ ((hF1 u).heap R0.out)
  have x3 : ∀ u, (E u).cell? ⟨g1, 3, none⟩ = some (.float .f64 br) := fun u => cell_of_row _ _ 3 _ _ _ ((hF1 u).heap R0.out)
  have x4 : ∀ u, (E u).cell? ⟨g1, 4, none⟩ = some (.int .i64 wr) := fun u => cell_of_row _ _ 4 _ _ _ ((hF1 u).heap R0.out)
  have x5 : ∀ u, (E u).cell? ⟨g1, 5, none⟩ = some (.int .i64 ar) := fun u => cell_of_row _ _ 5 _ _ _ ((hF1 u).heap R0.out)
  have x6 : ∀ u, (E u).cell? ⟨g1, 6, none⟩ = some (.float .f64 gap) := fun u => cell_of_row _ _ 6 _ _ _ ((hF1 u).heap R0.out)
  have x7 : ∀ u, (E u).cell? ⟨g1, 7, none⟩ = some (.float .f64 vu) := fun u => cell_of_row _ _ 7 _ _ _ ((hF1 u).heap R0.out)
  have DD0 := HU.out _ (Ab.refl W0).drew
  clear hF1 hF2
  refine region_tail 6 E (by kernel_rfl) (by kernel_rfl) (by kernel_rfl) DD0 ?_
  simp only [List.take_succ_cons, List.take_zero, List.drop_succ_cons, List.drop_zero]
  repeat (go_big_quiet_step (first
    | (with_reducible rfl)
    | (go_at_call_of 60 bl; exact calls_cls HU HU1 (DL.out _))
    | (go_at_call_of 60 br; exact calls_cls HU HU1 (DR.out _))))
  refine wpQuiet_nil ?_
  intro z hwz
  obtain ⟨u0, hu⟩ := hwz
  have AZ : Hid (Ab W0 z) := by rw [hu]; exact HU1.out u0
  clear hu u0
  clear HU HU1 DD0 HX x0 x1 x2 x3 x4 x5 x6 x7
  clear E UU
  have W_z : Hid (Ab w z) := W_W0.out.trans AZ.out
  obtain ⟨rs, n1, hr1, i1, _⟩ := add_o (P := Tryd.prog) z dl dv h3 h4
  obtain ⟨rh, n2, hr2, i2⟩ := mul_o (P := Tryd.prog) (z.drewN n1) 4602678819172646912 rs (by decide) i1.1
  have HH := hid (h_o h3 h4 i1 i2)
  have HL := hid i2.1
  clear i1 i2 h3 h4
  go_wp2
  go_ret
  exact ⟨⟨rh, rfl, HL.out, HH.out.1, HH.out.2⟩, Ab.drewN W_z.out _⟩
set_option maxRecDepth 100000 in
set_option maxHeartbeats 8000000 in
theorem pulled_at (bl br gap vu : Nat) (wl al wr ar : Int) (sd : Int) (dt gr dr : Nat) (lim : Int) (rv : Bool) (pr : Option Addr) (lr cr : Nat) (ll lv : Nat) (w : World) (ht : dt < 18446744073709551616) (hG : gr < 18446744073709551616) (hu : vu < 18446744073709551616) (h1 : ll < 18446744073709551616) (h2 : lv < 18446744073709551616) (hg : gap < 18446744073709551616)
    (LL : Hid (∀ v, Calls Tryd.prog 59 #[.agg #[.float .f64 bl, .int .i64 wl, .int .i64 al]] v fun e w' => e = .returned (.float .f64 ll) ∧ Below v.heap.size v w'))
    (LR : Hid (∀ v, Calls Tryd.prog 59 #[.agg #[.float .f64 br, .int .i64 wr, .int .i64 ar]] v fun e w' => e = .returned (.float .f64 lv) ∧ Below v.heap.size v w')) :
    Calls Tryd.prog 38 #[.agg #[.float .f64 bl, .int .i64 wl, .int .i64 al, .float .f64 br, .int .i64 wr, .int .i64 ar, .float .f64 gap, .float .f64 vu], .agg #[.int .i64 sd, .float .f64 dt, .float .f64 gr, .float .f64 dr, .int .i64 lim, .bool rv, .slice pr lr cr]] w fun e w' => (∃ r, e = .returned (.float .f64 r) ∧ IsC r (u1B gr dt vu ll lv gap)) ∧ Below w.heap.size w w' := by
  have W_W0 : Hid (Ab w ((w.alloc (.cells #[.float .f64 bl, .int .i64 wl, .int .i64 al, .float .f64 br, .int .i64 wr, .int .i64 ar, .float .f64 gap, .float .f64 vu] 73)).alloc (.cells #[.int .i64 sd, .float .f64 dt, .float .f64 gr, .float .f64 dr, .int .i64 lim, .bool rv, .slice pr lr cr] 25))) := bl2 _ _ _
  have RE : Hid (((w.alloc (.cells #[.float .f64 bl, .int .i64 wl, .int .i64 al, .float .f64 br, .int .i64 wr, .int .i64 ar, .float .f64 gap, .float .f64 vu] 73)).alloc (.cells #[.int .i64 sd, .float .f64 dt, .float .f64 gr, .float .f64 dr, .int .i64 lim, .bool rv, .slice pr lr cr] 25)).heap[w.heap.size]? = some (.cells #[.float .f64 bl, .int .i64 wl, .int .i64 al, .float .f64 br, .int .i64 wr, .int .i64 ar, .float .f64 gap, .float .f64 vu] 73)) := heap_alloc2_old _ _ _
  have RP : Hid (((w.alloc (.cells #[.float .f64 bl, .int .i64 wl, .int .i64 al, .float .f64 br, .int .i64 wr, .int .i64 ar, .float .f64 gap, .float .f64 vu] 73)).alloc (.cells #[.int .i64 sd, .float .f64 dt, .float .f64 gr, .float .f64 dr, .int .i64 lim, .bool rv, .slice pr lr cr] 25)).heap[w.heap.size + 1]? = some (.cells #[.int .i64 sd, .float .f64 dt, .float .f64 gr, .float .f64 dr, .int .i64 lim, .bool rv, .slice pr lr cr] 25)) := heap_alloc2_new _ _ _
  go_enter Tryd.func38, Tryd.ntmps38
  go_upto_region 1 with fail
  generalize hW : World.alloc (World.alloc w _) _ = W0 at *
  obtain ⟨ge, hge⟩ : ∃ g, w.heap.size = g := ⟨_, rfl⟩
  obtain ⟨gp, hgp⟩ : ∃ g, w.heap.size + 1 = g := ⟨_, rfl⟩
  rw [hgp] at RP ⊢
  rw [hge] at RE ⊢
  clear hge hgp hW
  have HB := hid (And.intro ht (And.intro hG (And.intro hu (And.intro h1 (And.intro h2 hg)))))
  clear ht hG hu h1 h2 hg
  refine Rl.region_rel (fun i v => match i with
      | 0 => v = .pointer (some ⟨gp, 2, none⟩)
      | 1 => v = .float .f64 gr
      | 2 => v = .pointer (some ⟨gp, 1, none⟩)
      | 3 => v = .float .f64 dt
      | 4 => ∃ r, v = .float .f64 r ∧ IsQ r (mlB gr dt)
      | 5 => v = .pointer (some ⟨ge, 3, none⟩)
      | 6 => v = .agg #[.float .f64 br, .int .i64 wr, .int .i64 ar]
      | 7 => v = .float .f64 lv
      | 8 => v = .pointer (some ⟨ge, 0, none⟩)
      | 9 => v = .agg #[.float .f64 bl, .int .i64 wl, .int .i64 al]
      | 10 => v = .float .f64 ll
      | 11 => ∃ r, v = .float .f64 r ∧ IsC r (sbB lv ll)
      | 12 => ∃ r, v = .float .f64 r ∧ r < 18446744073709551616 ∧ dvB r gap = puB gr dt ll lv gap
      | 13 => v = .pointer (some ⟨ge, 6, none⟩)
      | 14 => v = .float .f64 gap
      | 15 => ∃ r, v = .float .f64 r ∧ IsC r (puB gr dt ll lv gap)
      | _ => ∃ r, v = .float .f64 r ∧ IsC r (puB gr dt ll lv gap)) (fun w9 => Ab W0 w9) (by kernel_rfl) (by kernel_rfl) (by kernel_rfl) (Ab.refl W0).drew ?_ ?_
  · refine Rl.rel_cons 1 (fun v => v = .pointer (some ⟨gp, 2, none⟩)) rfl rfl ?_ ?_
    · intro x v hC hR
      clear hR
      intro K hK
      simp only [putAll, Act.put, List.setIfInBounds_toArray, List.set_cons_zero, List.set_cons_succ, Nat.reduceAdd, Nat.zero_add] at hK ⊢
      go_simp
      exact hK.out _ _ rfl hC
    refine Rl.rel_cons 2 (fun v => v = .float .f64 gr) rfl rfl ?_ ?_
    · intro x v hC hR
      have h0 : x 0 = .pointer (some ⟨gp, 2, none⟩) := hR 0 (by kernel_rfl)
      have y0 := cell_of_row _ _ 2 _ _ _ (hC.heap RP.out)
      clear hR
      intro K hK
      simp only [putAll, Act.put, List.setIfInBounds_toArray, List.set_cons_zero, List.set_cons_succ, Nat.reduceAdd, Nat.zero_add] at hK ⊢
      simp only [h0] at hK ⊢
      go_simp
      exact hK.out _ _ rfl hC
    refine Rl.rel_cons 3 (fun v => v = .pointer (some ⟨gp, 1, none⟩)) rfl rfl ?_ ?_
    · intro x v hC hR
      clear hR
      intro K hK
      simp only [putAll, Act.put, List.setIfInBounds_toArray, List.set_cons_zero, List.set_cons_succ, Nat.reduceAdd, Nat.zero_add] at hK ⊢
      go_simp
      exact hK.out _ _ rfl hC
    refine Rl.rel_cons 4 (fun v => v = .float .f64 dt) rfl rfl ?_ ?_
    · intro x v hC hR
      have h0 : x 2 = .pointer (some ⟨gp, 1, none⟩) := hR 2 (by kernel_rfl)
      have y0 := cell_of_row _ _ 1 _ _ _ (hC.heap RP.out)
      clear hR
      intro K hK
      simp only [putAll, Act.put, List.setIfInBounds_toArray, List.set_cons_zero, List.set_cons_succ, Nat.reduceAdd, Nat.zero_add] at hK ⊢
      simp only [h0] at hK ⊢
      go_simp
      exact hK.out _ _ rfl hC
    refine Rl.rel_cons 5 (fun v => ∃ r, v = .float .f64 r ∧ IsQ r (mlB gr dt)) rfl rfl ?_ ?_
    · intro x v hC hR
      have h0 : x 1 = .float .f64 gr := hR 1 (by kernel_rfl)
      have h1 : x 3 = .float .f64 dt := hR 3 (by kernel_rfl)
      obtain ⟨r, k, hr, hi⟩ := mul_o (P := Tryd.prog) v gr dt HB.out.2.1 HB.out.1
      have HI := hid hi
      clear hi
      clear hR
      intro K hK
      simp only [putAll, Act.put, List.setIfInBounds_toArray, List.set_cons_zero, List.set_cons_succ, Nat.reduceAdd, Nat.zero_add] at hK ⊢
      simp only [h0, h1] at hK ⊢
      go_simp
      exact hK.out _ _ ⟨r, rfl, HI.out⟩ (Ab.drewN hC k)
    refine Rl.rel_cons 6 (fun v => v = .pointer (some ⟨ge, 3, none⟩)) rfl rfl ?_ ?_
    · intro x v hC hR
      clear hR
      intro K hK
      simp only [putAll, Act.put, List.setIfInBounds_toArray, List.set_cons_zero, List.set_cons_succ, Nat.reduceAdd, Nat.zero_add] at hK ⊢
      go_simp
      exact hK.out _ _ rfl hC
    refine Rl.rel_cons 7 (fun v => v = .agg #[.float .f64 br, .int .i64 wr, .int .i64 ar]) rfl rfl ?_ ?_
    · intro x v hC hR
      have h0 : x 5 = .pointer (some ⟨ge, 3, none⟩) := hR 5 (by kernel_rfl)
      have y0 := cell_of_row _ _ 3 _ _ _ (hC.heap RE.out)
      have y1 := cell_of_row _ _ 4 _ _ _ (hC.heap RE.out)
      have y2 := cell_of_row _ _ 5 _ _ _ (hC.heap RE.out)
      clear hR
      intro K hK
      simp only [putAll, Act.put, List.setIfInBounds_toArray, List.set_cons_zero, List.set_cons_succ, Nat.reduceAdd, Nat.zero_add] at hK ⊢
      simp only [h0] at hK ⊢
      go_simp
      exact hK.out _ _ rfl hC
    refine Rl.rel_cons 8 (fun v => v = .float .f64 lv) rfl rfl ?_ ?_
    · intro x v hC hR
      have h0 : x 6 = .agg #[.float .f64 br, .int .i64 wr, .int .i64 ar] := hR 6 (by kernel_rfl)
      clear hR
      intro K hK
      simp only [putAll, Act.put, List.setIfInBounds_toArray, List.set_cons_zero, List.set_cons_succ, Nat.reduceAdd, Nat.zero_add] at hK ⊢
      simp only [h0] at hK ⊢
      go_simp
      refine (LR.out _).mono ?_
      rintro e w8 ⟨rfl, kb⟩
      exact hK.out _ _ rfl (hC.call kb)
    refine Rl.rel_cons 9 (fun v => v = .pointer (some ⟨ge, 0, none⟩)) rfl rfl ?_ ?_
    · intro x v hC hR
      clear hR
      intro K hK
      simp only [putAll, Act.put, List.setIfInBounds_toArray, List.set_cons_zero, List.set_cons_succ, Nat.reduceAdd, Nat.zero_add] at hK ⊢
      go_simp
      exact hK.out _ _ rfl hC
    refine Rl.rel_cons 10 (fun v => v = .agg #[.float .f64 bl, .int .i64 wl, .int .i64 al]) rfl rfl ?_ ?_
    · intro x v hC hR
      have h0 : x 8 = .pointer (some ⟨ge, 0, none⟩) := hR 8 (by kernel_rfl)
      have y0 := cell_of_row _ _ 0 _ _ _ (hC.heap RE.out)
      have y1 := cell_of_row _ _ 1 _ _ _ (hC.heap RE.out)
      have y2 := cell_of_row _ _ 2 _ _ _ (hC.heap RE.out)
      clear hR
      intro K hK
      simp only [putAll, Act.put, List.setIfInBounds_toArray, List.set_cons_zero, List.set_cons_succ, Nat.reduceAdd, Nat.zero_add] at hK ⊢
      simp only [h0] at hK ⊢
      go_simp
      exact hK.out _ _ rfl hC
    refine Rl.rel_cons 11 (fun v => v = .float .f64 ll) rfl rfl ?_ ?_
    · intro x v hC hR
      have h0 : x 9 = .agg #[.float .f64 bl, .int .i64 wl, .int .i64 al] := hR 9 (by kernel_rfl)
      clear hR
      intro K hK
      simp only [putAll, Act.put, List.setIfInBounds_toArray, List.set_cons_zero, List.set_cons_succ, Nat.reduceAdd, Nat.zero_add] at hK ⊢
      simp only [h0] at hK ⊢
      go_simp
      refine (LL.out _).mono ?_
      rintro e w8 ⟨rfl, kb⟩
      exact hK.out _ _ rfl (hC.call kb)
    refine Rl.rel_cons 12 (fun v => ∃ r, v = .float .f64 r ∧ IsC r (sbB lv ll)) rfl rfl ?_ ?_
    · intro x v hC hR
      have h0 : x 7 = .float .f64 lv := hR 7 (by kernel_rfl)
      have h1 : x 10 = .float .f64 ll := hR 10 (by kernel_rfl)
      obtain ⟨r, k, hr, hi⟩ := sub_o (P := Tryd.prog) v lv ll HB.out.2.2.2.2.1 HB.out.2.2.2.1
      have HI := hid hi
      clear hi
      clear hR
      intro K hK
      simp only [putAll, Act.put, List.setIfInBounds_toArray, List.set_cons_zero, List.set_cons_succ, Nat.reduceAdd, Nat.zero_add] at hK ⊢
      simp only [h0, h1] at hK ⊢
      go_simp
      exact hK.out _ _ ⟨r, rfl, HI.out⟩ (Ab.drewN hC k)
    refine Rl.rel_cons 13 (fun v => ∃ r, v = .float .f64 r ∧ r < 18446744073709551616 ∧ dvB r gap = puB gr dt ll lv gap) rfl rfl ?_ ?_
    · intro x v hC hR
      have h0 : ∃ r, x 4 = .float .f64 r ∧ IsQ r (mlB gr dt) := hR 4 (by kernel_rfl)
      have h5 : ∃ r, x 11 = .float .f64 r ∧ IsC r (sbB lv ll) := hR 11 (by kernel_rfl)
      obtain ⟨r1, e1, i1⟩ := h0
      obtain ⟨rd, e2, i2⟩ := h5
      obtain ⟨r, k, hr, hi⟩ := mul_o (P := Tryd.prog) v r1 rd i1.1 i2.1
      have HP := hid (pu_o HB.out.2.1 HB.out.1 HB.out.2.2.2.1 HB.out.2.2.2.2.1 HB.out.2.2.2.2.2 i1 i2 hi)
      have HL := hid hi.1
      clear i1 i2 hi
      clear hR
      intro K hK
      simp only [putAll, Act.put, List.setIfInBounds_toArray, List.set_cons_zero, List.set_cons_succ, Nat.reduceAdd, Nat.zero_add] at hK ⊢
      simp only [e1, e2] at hK ⊢
      go_simp
      exact hK.out _ _ ⟨r, rfl, HL.out, HP.out⟩ (Ab.drewN hC k)
    refine Rl.rel_cons 14 (fun v => v = .pointer (some ⟨ge, 6, none⟩)) rfl rfl ?_ ?_
    · intro x v hC hR
      clear hR
      intro K hK
      simp only [putAll, Act.put, List.setIfInBounds_toArray, List.set_cons_zero, List.set_cons_succ, Nat.reduceAdd, Nat.zero_add] at hK ⊢
      go_simp
      exact hK.out _ _ rfl hC
    refine Rl.rel_cons 15 (fun v => v = .float .f64 gap) rfl rfl ?_ ?_
    · intro x v hC hR
      have h0 : x 13 = .pointer (some ⟨ge, 6, none⟩) := hR 13 (by kernel_rfl)
      have y0 := cell_of_row _ _ 6 _ _ _ (hC.heap RE.out)
      clear hR
      intro K hK
      simp only [putAll, Act.put, List.setIfInBounds_toArray, List.set_cons_zero, List.set_cons_succ, Nat.reduceAdd, Nat.zero_add] at hK ⊢
      simp only [h0] at hK ⊢
      go_simp
      exact hK.out _ _ rfl hC
    refine Rl.rel_cons 16 (fun v => ∃ r, v = .float .f64 r ∧ IsC r (puB gr dt ll lv gap)) rfl rfl ?_ ?_
    · intro x v hC hR
      have h0 : ∃ r, x 12 = .float .f64 r ∧ r < 18446744073709551616 ∧ dvB r gap = puB gr dt ll lv gap := hR 12 (by kernel_rfl)
      have h5 : x 14 = .float .f64 gap := hR 14 (by kernel_rfl)
      obtain ⟨r1, e1, i1, i2⟩ := h0
      obtain ⟨r, k, hr, hi⟩ := div_any (P := Tryd.prog) v r1 gap
      rw [i2] at hi
      have HI := hid hi
      clear i1 i2 hi
      clear hR
      intro K hK
      simp only [putAll, Act.put, List.setIfInBounds_toArray, List.set_cons_zero, List.set_cons_succ, Nat.reduceAdd, Nat.zero_add] at hK ⊢
      simp only [e1, h5] at hK ⊢
      go_simp
      exact hK.out _ _ ⟨r, rfl, HI.out⟩ (Ab.drewN hC k)
    refine Rl.rel_cons 17 (fun v => ∃ r, v = .float .f64 r ∧ IsC r (puB gr dt ll lv gap)) rfl rfl ?_ ?_
    · intro x v hC hR
      have h0 : ∃ r, x 15 = .float .f64 r ∧ IsC r (puB gr dt ll lv gap) := hR 15 (by kernel_rfl)
      obtain ⟨r1, e1, i1⟩ := h0
      have HI := hid i1
      clear i1
      clear hR
      intro K hK
      simp only [putAll, Act.put, List.setIfInBounds_toArray, List.set_cons_zero, List.set_cons_succ, Nat.reduceAdd, Nat.zero_add] at hK ⊢
      simp only [e1] at hK ⊢
      go_simp
      exact hK.out _ _ ⟨r1, rfl, HI.out⟩ hC
    exact Rl.rel_nil
  · intro x z hz hR
    have h0 : ∃ r, x 16 = .float .f64 r ∧ IsC r (puB gr dt ll lv gap) := hR 16 (by decide)
    clear hR
    obtain ⟨r3, e3, i3⟩ := h0
    have y7 := cell_of_row _ _ 7 _ _ _ (Ab.heap hz RE.out)
    obtain ⟨r, k, hr, hi⟩ := sub_o (P := Tryd.prog) z vu r3 HB.out.2.2.1 i3.1
    rw [u1_o HB.out.2.2.1 i3] at hi
    have HI := hid hi
    have WZ : Hid (Ab w z) := W_W0.out.trans hz
    clear hi i3 hz
    simp only [putAll, Act.put, List.setIfInBounds_toArray, List.set_cons_zero, List.set_cons_succ, Nat.reduceAdd, Nat.zero_add]
    go_wp2
    go_ret
    exact ⟨⟨r, rfl, HI.out⟩, Ab.drewN WZ.out k⟩
set_option maxRecDepth 100000 in
set_option maxHeartbeats 8000000 in
theorem dragged_no (sd : Int) (dt gr dr : Nat) (lim : Int) (rv : Bool) (pr : Option Addr) (lr cr : Nat) (u h : Nat) (w : World) (q : fgt h 0 = false) : Calls Tryd.prog 37 #[.agg #[.int .i64 sd, .float .f64 dt, .float .f64 gr, .float .f64 dr, .int .i64 lim, .bool rv, .slice pr lr cr], .float .f64 u, .float .f64 h] w fun e w' => e = .returned (.float .f64 0) ∧ Below w.heap.size w w' := by
  have A0 : Hid (Ab w (w.alloc (.cells #[.int .i64 sd, .float .f64 dt, .float .f64 gr, .float .f64 dr, .int .i64 lim, .bool rv, .slice pr lr cr] 25))) := bl1 _ _
  go_enter Tryd.func37, Tryd.ntmps37
  go_wp2
  go_ret
  exact ⟨rfl, A0.out⟩
set_option maxRecDepth 100000 in
set_option maxHeartbeats 8000000 in
theorem dragged_yes (sd : Int) (dt gr dr : Nat) (lim : Int) (rv : Bool) (pr : Option Addr) (lr cr : Nat) (u h vu ll lv dl dv gap : Nat) (w : World) (ht : dt < 18446744073709551616) (hD : dr < 18446744073709551616) (hL : h < 18446744073709551616) (i4 : IsC u (u1B gr dt vu ll lv gap)) (hh : h = hB dl dv) (q : fgt h 0 = true) : Calls Tryd.prog 37 #[.agg #[.int .i64 sd, .float .f64 dt, .float .f64 gr, .float .f64 dr, .int .i64 lim, .bool rv, .slice pr lr cr], .float .f64 u, .float .f64 h] w fun e w' => e = .returned (.float .f64 (spB gr dt dr vu ll lv dl dv gap)) ∧ Below w.heap.size w w' := by
  have I4 := hid i4
  have AB := hid (fun v => abs_any u v i4.1)
  have HH := hid (And.intro hh q)
  have HB := hid (And.intro ht (And.intro hD hL))
  clear i4 hh ht hD hL
  obtain ⟨y, hy⟩ : ∃ y, spB gr dt dr vu ll lv dl dv gap = y := ⟨_, rfl⟩
  rw [hy]
  have HY := hid hy
  clear hy
  have W_W0 : Hid (Ab w (w.alloc (.cells #[.int .i64 sd, .float .f64 dt, .float .f64 gr, .float .f64 dr, .int .i64 lim, .bool rv, .slice pr lr cr] 25))) := bl1 _ _
  have RP : Hid ((w.alloc (.cells #[.int .i64 sd, .float .f64 dt, .float .f64 gr, .float .f64 dr, .int .i64 lim, .bool rv, .slice pr lr cr] 25)).heap[w.heap.size]? = some (.cells #[.int .i64 sd, .float .f64 dt, .float .f64 gr, .float .f64 dr, .int .i64 lim, .bool rv, .slice pr lr cr] 25)) := heap_alloc_new _ _
  go_enter Tryd.func37, Tryd.ntmps37
  go_upto_region 2 with fail
  generalize hW : World.alloc w _ = W0 at *
  obtain ⟨gp, hgp⟩ : ∃ g, w.heap.size = g := ⟨_, rfl⟩
  rw [hgp] at RP ⊢
  clear hgp hW q
  refine Rl.region_rel (fun i v => match i with
      | 0 => v = .float .f64 u
      | 1 => v = .pointer (some ⟨gp, 3, none⟩)
      | 2 => v = .float .f64 dr
      | 3 => v = .pointer (some ⟨gp, 1, none⟩)
      | 4 => v = .float .f64 dt
      | 5 => ∃ r, v = .float .f64 r ∧ IsQ r (mlB dr dt)
      | 6 => v = .float .f64 u
      | 7 => v = .float .f64 (mg u)
      | 8 => ∃ r, v = .float .f64 r ∧ r < 18446744073709551616 ∧ dvB r h = dvB (mlB (mlB dr dt) (mg (u1B gr dt vu ll lv gap))) h
      | 9 => v = .float .f64 h
      | 10 => ∃ r, v = .float .f64 r ∧ IsC r (dvB (mlB (mlB dr dt) (mg (u1B gr dt vu ll lv gap))) h)
      | 11 => ∃ r9 r8, v = .float .f64 r9 ∧ r9 < 18446744073709551616 ∧ IsC r8 (dvB (mlB (mlB dr dt) (mg (u1B gr dt vu ll lv gap))) h) ∧ (Ieee.double.add 4607182418800017408 r8 = some r9 ∨ (Ieee.double.add 4607182418800017408 r8 = none ∧ isN r9 = true))
      | 12 => ∃ r, v = .float .f64 r ∧ r < 18446744073709551616 ∧ cuB r = spB gr dt dr vu ll lv dl dv gap
      | 13 => v = .float .f64 y
      | _ => v = .float .f64 y) (fun w9 => Ab W0 w9) (by kernel_rfl) (by kernel_rfl) (by kernel_rfl) (Ab.refl W0).drew ?_ ?_
  · refine Rl.rel_cons 1 (fun v => v = .float .f64 u) rfl rfl ?_ ?_
    · intro x v hC hR
      clear hR
      intro K hK
      simp only [putAll, Act.put, List.setIfInBounds_toArray, List.set_cons_zero, List.set_cons_succ, Nat.reduceAdd, Nat.zero_add] at hK ⊢
      go_simp
      exact hK.out _ _ rfl hC
    refine Rl.rel_cons 2 (fun v => v = .pointer (some ⟨gp, 3, none⟩)) rfl rfl ?_ ?_
    · intro x v hC hR
      clear hR
      intro K hK
      simp only [putAll, Act.put, List.setIfInBounds_toArray, List.set_cons_zero, List.set_cons_succ, Nat.reduceAdd, Nat.zero_add] at hK ⊢
      go_simp
      exact hK.out _ _ rfl hC
    refine Rl.rel_cons 3 (fun v => v = .float .f64 dr) rfl rfl ?_ ?_
    · intro x v hC hR
      have h0 : x 1 = .pointer (some ⟨gp, 3, none⟩) := hR 1 (by kernel_rfl)
      have y0 := cell_of_row _ _ 3 _ _ _ (hC.heap RP.out)
      clear hR
      intro K hK
      simp only [putAll, Act.put, List.setIfInBounds_toArray, List.set_cons_zero, List.set_cons_succ, Nat.reduceAdd, Nat.zero_add] at hK ⊢
      simp only [h0] at hK ⊢
      go_simp
      exact hK.out _ _ rfl hC
    refine Rl.rel_cons 4 (fun v => v = .pointer (some ⟨gp, 1, none⟩)) rfl rfl ?_ ?_
    · intro x v hC hR
      clear hR
      intro K hK
      simp only [putAll, Act.put, List.setIfInBounds_toArray, List.set_cons_zero, List.set_cons_succ, Nat.reduceAdd, Nat.zero_add] at hK ⊢
      go_simp
      exact hK.out _ _ rfl hC
    refine Rl.rel_cons 5 (fun v => v = .float .f64 dt) rfl rfl ?_ ?_
    · intro x v hC hR
      have h0 : x 3 = .pointer (some ⟨gp, 1, none⟩) := hR 3 (by kernel_rfl)
      have y0 := cell_of_row _ _ 1 _ _ _ (hC.heap RP.out)
      clear hR
      intro K hK
      simp only [putAll, Act.put, List.setIfInBounds_toArray, List.set_cons_zero, List.set_cons_succ, Nat.reduceAdd, Nat.zero_add] at hK ⊢
      simp only [h0] at hK ⊢
      go_simp
      exact hK.out _ _ rfl hC
    refine Rl.rel_cons 6 (fun v => ∃ r, v = .float .f64 r ∧ IsQ r (mlB dr dt)) rfl rfl ?_ ?_
    · intro x v hC hR
      have h0 : x 2 = .float .f64 dr := hR 2 (by kernel_rfl)
      have h1 : x 4 = .float .f64 dt := hR 4 (by kernel_rfl)
      obtain ⟨r, k, hr, hi⟩ := mul_o (P := Tryd.prog) v dr dt HB.out.2.1 HB.out.1
      have HI := hid hi
      clear hi
      clear hR
      intro K hK
      simp only [putAll, Act.put, List.setIfInBounds_toArray, List.set_cons_zero, List.set_cons_succ, Nat.reduceAdd, Nat.zero_add] at hK ⊢
      simp only [h0, h1] at hK ⊢
      go_simp
      exact hK.out _ _ ⟨r, rfl, HI.out⟩ (Ab.drewN hC k)
    refine Rl.rel_cons 7 (fun v => v = .float .f64 u) rfl rfl ?_ ?_
    · intro x v hC hR
      clear hR
      intro K hK
      simp only [putAll, Act.put, List.setIfInBounds_toArray, List.set_cons_zero, List.set_cons_succ, Nat.reduceAdd, Nat.zero_add] at hK ⊢
      go_simp
      exact hK.out _ _ rfl hC
    refine Rl.rel_cons 8 (fun v => v = .float .f64 (mg u)) rfl rfl ?_ ?_
    · intro x v hC hR
      have h0 : x 6 = .float .f64 u := hR 6 (by kernel_rfl)
      clear hR
      intro K hK
      simp only [putAll, Act.put, List.setIfInBounds_toArray, List.set_cons_zero, List.set_cons_succ, Nat.reduceAdd, Nat.zero_add] at hK ⊢
      simp only [h0] at hK ⊢
      go_simp
      refine (AB.out _).mono ?_
      rintro e w8 ⟨rfl, hw8⟩
      have hw9 := hw8.symm
      subst hw9
      exact hK.out _ _ rfl hC
    refine Rl.rel_cons 9 (fun v => ∃ r, v = .float .f64 r ∧ r < 18446744073709551616 ∧ dvB r h = dvB (mlB (mlB dr dt) (mg (u1B gr dt vu ll lv gap))) h) rfl rfl ?_ ?_
    · intro x v hC hR
      have h0 : ∃ r, x 5 = .float .f64 r ∧ IsQ r (mlB dr dt) := hR 5 (by kernel_rfl)
      have h5 : x 7 = .float .f64 (mg u) := hR 7 (by kernel_rfl)
      obtain ⟨r1, e1, i1⟩ := h0
      obtain ⟨r, k, hr, hi⟩ := mul_o (P := Tryd.prog) v r1 (mg u) i1.1 (mg_lt64 u)
      have HP := hid (dg_o HB.out.2.1 HB.out.1 HB.out.2.2 i1 (mg_lt64 u) (mag_o I4.out) hi)
      have HL := hid hi.1
      clear i1 hi
      clear hR
      intro K hK
      simp only [putAll, Act.put, List.setIfInBounds_toArray, List.set_cons_zero, List.set_cons_succ, Nat.reduceAdd, Nat.zero_add] at hK ⊢
      simp only [e1, h5] at hK ⊢
      go_simp
      exact hK.out _ _ ⟨r, rfl, HL.out, HP.out⟩ (Ab.drewN hC k)
    refine Rl.rel_cons 10 (fun v => v = .float .f64 h) rfl rfl ?_ ?_
    · intro x v hC hR
      clear hR
      intro K hK
      simp only [putAll, Act.put, List.setIfInBounds_toArray, List.set_cons_zero, List.set_cons_succ, Nat.reduceAdd, Nat.zero_add] at hK ⊢
      go_simp
      exact hK.out _ _ rfl hC
    refine Rl.rel_cons 11 (fun v => ∃ r, v = .float .f64 r ∧ IsC r (dvB (mlB (mlB dr dt) (mg (u1B gr dt vu ll lv gap))) h)) rfl rfl ?_ ?_
    · intro x v hC hR
      have h0 : ∃ r, x 8 = .float .f64 r ∧ r < 18446744073709551616 ∧ dvB r h = dvB (mlB (mlB dr dt) (mg (u1B gr dt vu ll lv gap))) h := hR 8 (by kernel_rfl)
      have h5 : x 9 = .float .f64 h := hR 9 (by kernel_rfl)
      obtain ⟨r1, e1, i1, i2⟩ := h0
      obtain ⟨r, k, hr, hi⟩ := div_any (P := Tryd.prog) v r1 h
      rw [i2] at hi
      have HI := hid hi
      clear i1 i2 hi
      clear hR
      intro K hK
      simp only [putAll, Act.put, List.setIfInBounds_toArray, List.set_cons_zero, List.set_cons_succ, Nat.reduceAdd, Nat.zero_add] at hK ⊢
      simp only [e1, h5] at hK ⊢
      go_simp
      exact hK.out _ _ ⟨r, rfl, HI.out⟩ (Ab.drewN hC k)
    refine Rl.rel_cons 12 (fun v => ∃ r9 r8, v = .float .f64 r9 ∧ r9 < 18446744073709551616 ∧ IsC r8 (dvB (mlB (mlB dr dt) (mg (u1B gr dt vu ll lv gap))) h) ∧ (Ieee.double.add 4607182418800017408 r8 = some r9 ∨ (Ieee.double.add 4607182418800017408 r8 = none ∧ isN r9 = true))) rfl rfl ?_ ?_
    · intro x v hC hR
      have h0 : ∃ r, x 10 = .float .f64 r ∧ IsC r (dvB (mlB (mlB dr dt) (mg (u1B gr dt vu ll lv gap))) h) := hR 10 (by kernel_rfl)
      obtain ⟨r1, e1, i1⟩ := h0
      obtain ⟨r, k, hr, hi, hj⟩ := add_o (P := Tryd.prog) v 4607182418800017408 r1 (by decide) i1.1
      have HI := hid (And.intro hi.1 (And.intro i1 hj))
      clear i1 hi hj
      clear hR
      intro K hK
      simp only [putAll, Act.put, List.setIfInBounds_toArray, List.set_cons_zero, List.set_cons_succ, Nat.reduceAdd, Nat.zero_add] at hK ⊢
      simp only [e1] at hK ⊢
      go_simp
      exact hK.out _ _ ⟨r, r1, rfl, HI.out⟩ (Ab.drewN hC k)
    refine Rl.rel_cons 13 (fun v => ∃ r, v = .float .f64 r ∧ r < 18446744073709551616 ∧ cuB r = spB gr dt dr vu ll lv dl dv gap) rfl rfl ?_ ?_
    · intro x v hC hR
      have h5 : x 0 = .float .f64 u := hR 0 (by kernel_rfl)
      have h0 : ∃ r9 r8, x 11 = .float .f64 r9 ∧ r9 < 18446744073709551616 ∧ IsC r8 (dvB (mlB (mlB dr dt) (mg (u1B gr dt vu ll lv gap))) h) ∧ (Ieee.double.add 4607182418800017408 r8 = some r9 ∨ (Ieee.double.add 4607182418800017408 r8 = none ∧ isN r9 = true)) := hR 11 (by kernel_rfl)
      obtain ⟨r9, r8, e1, i9, i8, j9⟩ := h0
      obtain ⟨r, k, hr, hi⟩ := div_any (P := Tryd.prog) v u r9
      have HI := hid (And.intro hi.1 (sp_o (dl := dl) (dr := dv) I4.out HH.out.1 HH.out.2 i8 i9 j9 hi))
      clear i8 i9 j9 hi
      clear hR
      intro K hK
      simp only [putAll, Act.put, List.setIfInBounds_toArray, List.set_cons_zero, List.set_cons_succ, Nat.reduceAdd, Nat.zero_add] at hK ⊢
      simp only [h5, e1] at hK ⊢
      go_simp
      exact hK.out _ _ ⟨r, rfl, HI.out⟩ (Ab.drewN hC k)
    refine Rl.rel_cons 14 (fun v => v = .float .f64 y) rfl rfl ?_ ?_
    · intro x v hC hR
      have h0 : ∃ r, x 12 = .float .f64 r ∧ r < 18446744073709551616 ∧ cuB r = spB gr dt dr vu ll lv dl dv gap := hR 12 (by kernel_rfl)
      obtain ⟨r1, e1, i1, i2⟩ := h0
      have KP := hid (fun v9 => kept_at r1 v9 i1)
      rw [i2, HY.out] at KP
      clear i1 i2
      clear hR
      intro K hK
      simp only [putAll, Act.put, List.setIfInBounds_toArray, List.set_cons_zero, List.set_cons_succ, Nat.reduceAdd, Nat.zero_add] at hK ⊢
      simp only [e1] at hK ⊢
      go_simp
      refine (KP.out _).mono ?_
      rintro e w8 ⟨rfl, hw8⟩
      have hw9 := hw8.symm
      subst hw9
      exact hK.out _ _ rfl hC
    refine Rl.rel_cons 15 (fun v => v = .float .f64 y) rfl rfl ?_ ?_
    · intro x v hC hR
      have h0 : x 13 = .float .f64 y := hR 13 (by kernel_rfl)
      clear hR
      intro K hK
      simp only [putAll, Act.put, List.setIfInBounds_toArray, List.set_cons_zero, List.set_cons_succ, Nat.reduceAdd, Nat.zero_add] at hK ⊢
      simp only [h0] at hK ⊢
      go_simp
      exact hK.out _ _ rfl hC
    exact Rl.rel_nil
  · intro x z hz hR
    have h0 : x 14 = .float .f64 y := hR 14 (by decide)
    clear hR
    have WZ : Hid (Ab w z) := W_W0.out.trans hz
    clear hz
    simp only [putAll, Act.put, List.setIfInBounds_toArray, List.set_cons_zero, List.set_cons_succ, Nat.reduceAdd, Nat.zero_add, h0]
    go_wp2
    go_ret
    exact ⟨rfl, WZ.out⟩
end Fc
end Go.Proofs.YtpfoohpncbkkfaaDoor

namespace Go.Proofs.YtpfoohpncbkkfaaDoor
open Go.RowKit Tf Cu Go.Deep Rl
attribute [local go_sem] run_bits run_from raw_feq raw_fne raw_flt raw_fgt run_neg run_store_float
namespace Fc
set_option maxRecDepth 100000 in
set_option maxHeartbeats 8000000 in
theorem ffits_at (gb : Nat) (pb pw pt ps : Option Addr) (lb cb lw cw lt ct ls cs : Nat) (sky st : Int) (M N : Nat) (q : Bool) (w : World)
    (hq : (((lb : Int) == (M : Int)) = false ∧ q = false) ∨ (((lb : Int) == (M : Int)) = true ∧ ((lw : Int) == (M : Int)) = false ∧ q = false) ∨ (((lb : Int) == (M : Int)) = true ∧ ((lw : Int) == (M : Int)) = true ∧ ((lt : Int) == (M : Int)) = false ∧ q = false) ∨ (((lb : Int) == (M : Int)) = true ∧ ((lw : Int) == (M : Int)) = true ∧ ((lt : Int) == (M : Int)) = true ∧ ((ls : Int) == (N : Int)) = q))
    (CC : Hid (∀ v, Ab w v → Calls Tryd.prog 36 #[(.pointer (some ⟨gb, 0, none⟩))] v fun e w' => e = .returned (.int .i64 (M : Nat)) ∧ Below v.heap.size v w'))
    (CE : Hid (∀ v, Ab w v → Calls Tryd.prog 28 #[(.pointer (some ⟨gb, 0, none⟩))] v fun e w' => e = .returned (.int .i64 (N : Nat)) ∧ Below v.heap.size v w')) :
    Calls Tryd.prog 27 #[(.pointer (some ⟨gb, 0, none⟩)), .agg #[.slice pb lb cb, .slice pw lw cw, .slice pt lt ct, .slice ps ls cs, .int .i64 sky, .int .i64 st]] w fun e w' => e = .returned (.bool q) ∧ Below w.heap.size w w' := by
  have A0 : Hid (Ab w (w.alloc (.cells #[.slice pb lb cb, .slice pw lw cw, .slice pt lt ct, .slice ps ls cs, .int .i64 sky, .int .i64 st] 29))) := bl1 _ _
  have RO : Hid ((w.alloc (.cells #[.slice pb lb cb, .slice pw lw cw, .slice pt lt ct, .slice ps ls cs, .int .i64 sky, .int .i64 st] 29)).heap[w.heap.size]? = some (.cells #[.slice pb lb cb, .slice pw lw cw, .slice pt lt ct, .slice ps ls cs, .int .i64 sky, .int .i64 st] 29)) := heap_alloc_new _ _
  go_enter Tryd.func27, Tryd.ntmps27
  go_wp2_with fail
  refine (CC.out _ A0.out).mono ?_
  rintro e9 v1 ⟨rfl, b1⟩
  have A1 : Hid (Ab w v1) := A0.out.call b1
  have R1 : Hid (v1.heap[w.heap.size]? = some (.cells #[.slice pb lb cb, .slice pw lw cw, .slice pt lt ct, .slice ps ls cs, .int .i64 sky, .int .i64 st] 29)) := Ab.heap b1 RO.out
  clear b1 A0 RO
  go_upto_region 2 with fail
  obtain ⟨gs, hgs⟩ : ∃ g, w.heap.size = g := ⟨_, rfl⟩
  rw [hgs] at R1 ⊢
  clear hgs
  rcases hq with ⟨q1, rfl⟩ | ⟨q1, q2, rfl⟩ | ⟨q1, q2, q3, rfl⟩ | ⟨q1, q2, q3, q4⟩
  · obtain ⟨UU, E, hF1, hF2⟩ := cls v1
    have HU := hid hF2
    have HU1 := hid hF1
    have HX : Hid (∀ u, Ab w (E u)) := fun u => Ab.trans A1.out (hF1 u)
    have s0 : ∀ u, (E u).cell? ⟨gs, 0, none⟩ = some (.slice pb lb cb) := fun u => cell_of_row _ _ 0 _ _ _ ((hF1 u).heap R1.out)
    have s1 : ∀ u, (E u).cell? ⟨gs, 1, none⟩ = some (.slice pw lw cw) := fun u => cell_of_row _ _ 1 _ _ _ ((hF1 u).heap R1.out)
    have s2 : ∀ u, (E u).cell? ⟨gs, 2, none⟩ = some (.slice pt lt ct) := fun u => cell_of_row _ _ 2 _ _ _ ((hF1 u).heap R1.out)
    have s3 : ∀ u, (E u).cell? ⟨gs, 3, none⟩ = some (.slice ps ls cs) := fun u => cell_of_row _ _ 3 _ _ _ ((hF1 u).heap R1.out)
    have DD0 := HU.out _ (Ab.refl v1).drew
    clear hF1 hF2
    refine region_cls E (by kernel_rfl) (by kernel_rfl) DD0 ?_
    repeat (go_big_quiet_step (first
      | (with_reducible rfl)
      | (go_at_call 28; exact calls_cls HU HU1 (CE.out _ (HX.out _)))))
    refine wpQuiet_nil ?_
    intro z hwz
    obtain ⟨u0, hu⟩ := hwz
    have AZ : Hid (Ab w z) := by rw [hu]; exact HX.out u0
    clear hu u0
    clear HU HU1 HX DD0 s0 s1 s2 s3
    clear E UU
    go_wp2
    go_ret
    exact ⟨rfl, AZ.out⟩
  · obtain ⟨UU, E, hF1, hF2⟩ := cls v1
    have HU := hid hF2
    have HU1 := hid hF1
    have HX : Hid (∀ u, Ab w (E u)) := fun u => Ab.trans A1.out (hF1 u)
    have s0 : ∀ u, (E u).cell? ⟨gs, 0, none⟩ = some (.slice pb lb cb) := fun u => cell_of_row _ _ 0 _ _ _ ((hF1 u).heap R1.out)
    have s1 : ∀ u, (E u).cell? ⟨gs, 1, none⟩ = some (.slice pw lw cw) := fun u => cell_of_row _ _ 1 _ _ _ ((hF1 u).heap R1.out)
    have s2 : ∀ u, (E u).cell? ⟨gs, 2, none⟩ = some (.slice pt lt ct) := fun u => cell_of_row _ _ 2 _ _ _ ((hF1 u).heap R1.out)
    have s3 : ∀ u, (E u).cell? ⟨gs, 3, none⟩ = some (.slice ps ls cs) := fun u => cell_of_row _ _ 3 _ _ _ ((hF1 u).heap R1.out)
    have DD0 := HU.out _ (Ab.refl v1).drew
    clear hF1 hF2
    refine region_cls E (by kernel_rfl) (by kernel_rfl) DD0 ?_
    repeat (go_big_quiet_step (first
      | (with_reducible rfl)
      | (go_at_call 28; exact calls_cls HU HU1 (CE.out _ (HX.out _)))))
    refine wpQuiet_nil ?_
    intro z hwz
    obtain ⟨u0, hu⟩ := hwz
    have AZ : Hid (Ab w z) := by rw [hu]; exact HX.out u0
    clear hu u0
    clear HU HU1 HX DD0 s0 s1 s2 s3
    clear E UU
    go_wp2
    go_ret
    exact ⟨rfl, AZ.out⟩
  · obtain ⟨UU, E, hF1, hF2⟩ := cls v1
    have HU := hid hF2
    have HU1 := hid hF1
    have HX : Hid (∀ u, Ab w (E u)) := fun u => Ab.trans A1.out (hF1 u)
    have s0 : ∀ u, (E u).cell? ⟨gs, 0, none⟩ = some (.slice pb lb cb) := fun u => cell_of_row _ _ 0 _ _ _ ((hF1 u).heap R1.out)
    have s1 : ∀ u, (E u).cell? ⟨gs, 1, none⟩ = some (.slice pw lw cw) := fun u => cell_of_row _ _ 1 _ _ _ ((hF1 u).heap R1.out)
    have s2 : ∀ u, (E u).cell? ⟨gs, 2, none⟩ = some (.slice pt lt ct) := fun u => cell_of_row _ _ 2 _ _ _ ((hF1 u).heap R1.out)
    have s3 : ∀ u, (E u).cell? ⟨gs, 3, none⟩ = some (.slice ps ls cs) := fun u => cell_of_row _ _ 3 _ _ _ ((hF1 u).heap R1.out)
    have DD0 := HU.out _ (Ab.refl v1).drew
    clear hF1 hF2
    refine region_cls E (by kernel_rfl) (by kernel_rfl) DD0 ?_
    repeat (go_big_quiet_step (first
      | (with_reducible rfl)
      | (go_at_call 28; exact calls_cls HU HU1 (CE.out _ (HX.out _)))))
    refine wpQuiet_nil ?_
    intro z hwz
    obtain ⟨u0, hu⟩ := hwz
    have AZ : Hid (Ab w z) := by rw [hu]; exact HX.out u0
    clear hu u0
    clear HU HU1 HX DD0 s0 s1 s2 s3
    clear E UU
    go_wp2
    go_ret
    exact ⟨rfl, AZ.out⟩
  · obtain ⟨UU, E, hF1, hF2⟩ := cls v1
    have HU := hid hF2
    have HU1 := hid hF1
    have HX : Hid (∀ u, Ab w (E u)) := fun u => Ab.trans A1.out (hF1 u)
    have s0 : ∀ u, (E u).cell? ⟨gs, 0, none⟩ = some (.slice pb lb cb) := fun u => cell_of_row _ _ 0 _ _ _ ((hF1 u).heap R1.out)
    have s1 : ∀ u, (E u).cell? ⟨gs, 1, none⟩ = some (.slice pw lw cw) := fun u => cell_of_row _ _ 1 _ _ _ ((hF1 u).heap R1.out)
    have s2 : ∀ u, (E u).cell? ⟨gs, 2, none⟩ = some (.slice pt lt ct) := fun u => cell_of_row _ _ 2 _ _ _ ((hF1 u).heap R1.out)
    have s3 : ∀ u, (E u).cell? ⟨gs, 3, none⟩ = some (.slice ps ls cs) := fun u => cell_of_row _ _ 3 _ _ _ ((hF1 u).heap R1.out)
    have DD0 := HU.out _ (Ab.refl v1).drew
    clear hF1 hF2
    refine region_cls E (by kernel_rfl) (by kernel_rfl) DD0 ?_
    repeat (go_big_quiet_step (first
      | (with_reducible rfl)
      | (go_at_call 28; exact calls_cls HU HU1 (CE.out _ (HX.out _)))))
    refine wpQuiet_nil ?_
    intro z hwz
    obtain ⟨u0, hu⟩ := hwz
    have AZ : Hid (Ab w z) := by rw [hu]; exact HX.out u0
    clear hu u0
    clear HU HU1 HX DD0 s0 s1 s2 s3
    clear E UU
    go_wp2
    go_ret
    exact ⟨rfl, AZ.out⟩
theorem row8 {w : World} {g : Nat} {a b c d e f i j x y z p q r s k : Value} {T : TypeId} (h : w.heap[g]? = some (.cells #[a, b, c, d, e, f, i, j] T)) :
    ((((((((w.setCell ⟨g, 0, none⟩ x).setCell ⟨g, 1, none⟩ y).setCell ⟨g, 2, none⟩ z).setCell ⟨g, 3, none⟩ p).setCell ⟨g, 4, none⟩ q).setCell ⟨g, 5, none⟩ r).setCell ⟨g, 6, none⟩ s).setCell ⟨g, 7, none⟩ k).heap[g]? = some (.cells #[x, y, z, p, q, r, s, k] T) := by
  have h1 := one_set (v := x) (k := 0) h
  have h2 := one_set (v := y) (k := 1) h1
  have h3 := one_set (v := z) (k := 2) h2
  have h4 := one_set (v := p) (k := 3) h3
  have h5 := one_set (v := q) (k := 4) h4
  have h6 := one_set (v := r) (k := 5) h5
  have h7 := one_set (v := s) (k := 6) h6
  have h8 := one_set (v := k) (k := 7) h7
  simpa using h8
set_option maxRecDepth 100000 in
set_option maxHeartbeats 8000000 in
theorem cellOf_at (gb bb bo wb wo M cb cw : Nat) (pt ps : Option Addr) (lt ct ls cs : Nat) (sky st : Int) (c : Nat) (b : Nat) (wt aC : Int) (w : World) (hc : ((c : Nat) : Int) < M)
    (FB : Hid (∀ v, Ab w v → v.cell? ⟨bb, bo + c, none⟩ = some (.float .f64 b)))
    (FW : Hid (∀ v, Ab w v → v.cell? ⟨wb, wo + c, none⟩ = some (.int .i64 wt)))
    (AC : Hid (∀ v, Ab w v → Calls Tryd.prog 17 #[.pointer (some ⟨gb, 0, none⟩), .int .i64 (c : Nat)] v fun e w' => e = .returned (.int .i64 aC) ∧ Below v.heap.size v w')) :
    Calls Tryd.prog 52 #[.pointer (some ⟨gb, 0, none⟩), .agg #[.slice (some ⟨bb, bo, none⟩) M cb, .slice (some ⟨wb, wo, none⟩) M cw, .slice pt lt ct, .slice ps ls cs, .int .i64 sky, .int .i64 st], .int .i64 (c : Nat)] w fun e w' => e = .returned (.agg #[.float .f64 b, .int .i64 wt, .int .i64 aC]) ∧ Below w.heap.size w w' := by
  have W_W0 : Hid (Ab w ((w.alloc (.cells #[.slice (some ⟨bb, bo, none⟩) M cb, .slice (some ⟨wb, wo, none⟩) M cw, .slice pt lt ct, .slice ps ls cs, .int .i64 sky, .int .i64 st] 29)).alloc (.cells #[.float .f64 0, .int .i64 0, .int .i64 0] 71))) := bl2 _ _ _
  have RS : Hid (((w.alloc (.cells #[.slice (some ⟨bb, bo, none⟩) M cb, .slice (some ⟨wb, wo, none⟩) M cw, .slice pt lt ct, .slice ps ls cs, .int .i64 sky, .int .i64 st] 29)).alloc (.cells #[.float .f64 0, .int .i64 0, .int .i64 0] 71)).heap[w.heap.size]? = some (.cells #[.slice (some ⟨bb, bo, none⟩) M cb, .slice (some ⟨wb, wo, none⟩) M cw, .slice pt lt ct, .slice ps ls cs, .int .i64 sky, .int .i64 st] 29)) := heap_alloc2_old _ _ _
  have RC : Hid (((w.alloc (.cells #[.slice (some ⟨bb, bo, none⟩) M cb, .slice (some ⟨wb, wo, none⟩) M cw, .slice pt lt ct, .slice ps ls cs, .int .i64 sky, .int .i64 st] 29)).alloc (.cells #[.float .f64 0, .int .i64 0, .int .i64 0] 71)).heap[w.heap.size + 1]? = some (.cells #[.float .f64 0, .int .i64 0, .int .i64 0] 71)) := heap_alloc2_new _ _ _
  have LG : Hid (w.heap.size ≤ w.heap.size + 1) := Nat.le_succ _
  go_enter Tryd.func52, Tryd.ntmps52
  go_upto_region 1 with fail
  generalize hW : World.alloc (World.alloc w _) _ = W0 at *
  obtain ⟨gs, hgs⟩ : ∃ g, w.heap.size = g := ⟨_, rfl⟩
  obtain ⟨gc, hgc⟩ : ∃ g, w.heap.size + 1 = g := ⟨_, rfl⟩
  rw [hgc] at RC LG ⊢
  rw [hgs] at RS ⊢
  clear hgs hgc hW
  obtain ⟨UU, E, hF1, hF2⟩ := cls W0
  have HU := hid hF2
  have HU1 := hid hF1
  have HX : Hid (∀ u, Ab w (E u)) := fun u => W_W0.out.trans (hF1 u)
  have x0 : ∀ u, (E u).cell? ⟨gs, 0, none⟩ = some (.slice (some ⟨bb, bo, none⟩) M cb) := fun u => cell_of_row _ _ 0 _ _ _ ((hF1 u).heap RS.out)
  have x1 : ∀ u, (E u).cell? ⟨gs, 1, none⟩ = some (.slice (some ⟨wb, wo, none⟩) M cw) := fun u => cell_of_row _ _ 1 _ _ _ ((hF1 u).heap RS.out)
  have xb : ∀ u, (E u).cell? ⟨bb, bo + c, none⟩ = some (.float .f64 b) := fun u => FB.out _ (HX.out u)
  have xw : ∀ u, (E u).cell? ⟨wb, wo + c, none⟩ = some (.int .i64 wt) := fun u => FW.out _ (HX.out u)
  have DD0 := HU.out _ (Ab.refl W0).drew
  clear hF1 hF2
  refine region_tail 14 E (by kernel_rfl) (by kernel_rfl) (by kernel_rfl) DD0 ?_
  simp only [List.take_succ_cons, List.take_zero, List.drop_succ_cons, List.drop_zero]
  repeat (go_big_quiet_step (first
    | (with_reducible rfl)
    | (go_at_call 17; exact calls_cls HU HU1 (AC.out _ (HX.out _)))))
  refine wpQuiet_nil ?_
  intro z hwz
  obtain ⟨u0, hu⟩ := hwz
  have AZ : Hid (Ab W0 z) := by rw [hu]; exact HU1.out u0
  clear hu u0
  clear HU HU1 DD0 HX x0 x1 xb xw
  clear E UU
  have W_z : Hid (Ab w z) := W_W0.out.trans AZ.out
  have RZ := hid (Ab.heap AZ.out RC.out)
  obtain ⟨⟨o0, o1, o2⟩, o3, o4, o5⟩ := rowfacts RZ.out
  go_wp2
  refine bodyPost_ret ?_ rfl ⟨rfl, ?_⟩
  · exact results_cell_row Tryd.results52 _ _ gc _ _ (0, 0) _ rfl (row3 RZ.out) Tryd.underlying71 rfl (by kernel_rfl)
  · exact ((W_z.out.setk LG.out _).setk LG.out _).setk LG.out _
end Fc
end Go.Proofs.YtpfoohpncbkkfaaDoor
