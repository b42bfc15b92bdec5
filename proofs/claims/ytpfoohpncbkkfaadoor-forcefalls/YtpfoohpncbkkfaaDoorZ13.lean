/-
  Some of the texts of this proof, one behind the other.
-/
import Derived.Test.YtpfoohpncbkkfaaDoorZ12
namespace Go.Proofs.YtpfoohpncbkkfaaDoor
open Go.RowKit Tf Cu Go.Deep
namespace Fc
theorem puB_cl {G dt ll lr gap : Nat} (hG : G < 18446744073709551616) (ht : dt < 18446744073709551616) (h1 : ll < 18446744073709551616) (h2 : lr < 18446744073709551616) (hg : gap < 18446744073709551616) : puB (canonB G) dt ll lr gap = puB G dt ll lr gap := by
  have hd := sbB_lt h2 h1
  have hc : canonB G < 18446744073709551616 := canonB_lt hG
  unfold puB
  rw [← dvB_cl (mlB_lt (mlB_lt hc ht) hd) hg, ← dvB_cl (mlB_lt (mlB_lt hG ht) hd) hg, ← mlB_canon (mlB_lt hc ht) hd, ← mlB_canon (mlB_lt hG ht) hd, mlB_canon hG ht]
theorem drB_cl {D dt u h : Nat} (hD : D < 18446744073709551616) (ht : dt < 18446744073709551616) (hh : h < 18446744073709551616) : drB (canonB D) dt u h = drB D dt u h := by
  have hc : canonB D < 18446744073709551616 := canonB_lt hD
  have hm := mg_lt64 u
  unfold drB
  rw [← dvB_cl (mlB_lt (mlB_lt hc ht) hm) hh, ← dvB_cl (mlB_lt (mlB_lt hD ht) hm) hh, ← mlB_canon (mlB_lt hc ht) hm, ← mlB_canon (mlB_lt hD ht) hm, mlB_canon hD ht]
theorem spB_cl {G dt D u ll lr dl dr gap : Nat} (hG : G < 18446744073709551616) (ht : dt < 18446744073709551616) (hD : D < 18446744073709551616) (h1 : ll < 18446744073709551616) (h2 : lr < 18446744073709551616) (h3 : dl < 18446744073709551616) (h4 : dr < 18446744073709551616) (hg : gap < 18446744073709551616) : spB (canonB G) dt (canonB D) u ll lr dl dr gap = spB G dt D u ll lr dl dr gap := by
  unfold spB u1B
  rw [puB_cl hG ht h1 h2 hg, drB_cl hD ht (hB_lt h3 h4)]
/-- a float that is no less than nothing -/
theorem canon_nn {x c : Nat} (hx : x < 18446744073709551616) (n : isN x = false) (h0 : 0 ≤ rk x) (h1 : rk x ≤ (c : Int)) : canonB x ≤ c := by
  rcases canon_cases hx with ⟨h, _⟩ | ⟨_, e⟩ | ⟨_, k, e⟩
  · rw [h] at n; cases n
  · rw [e]; omega
  · rw [e]
    unfold rk at h0 h1
    have m : mg x = x ∨ x = mg x + 9223372036854775808 := by unfold mg; omega
    by_cases g : ng x = true
    · rw [if_pos g] at h0; omega
    · rw [if_neg g] at h1
      rcases m with m | m
      · omega
      · exfalso; apply g; unfold ng; simp; omega
theorem num_of {x y : Nat} (hx : x < 18446744073709551616) (hy : y < 18446744073709551616) (h : (flt x y || feq x y) = true) : isN x = false ∧ isN y = false ∧ rk x ≤ rk y := by
  rw [flt_rk x y hx hy, feq_rk x y hx hy] at h
  simp at h
  rcases h with ⟨⟨a, b⟩, c⟩ | ⟨⟨a, b⟩, c⟩
  · exact ⟨a, b, by omega⟩
  · exact ⟨a, b, by omega⟩
theorem num_ge {x y : Nat} (hx : x < 18446744073709551616) (hy : y < 18446744073709551616) (h : (fgt x y || feq x y) = true) : isN x = false ∧ isN y = false ∧ rk y ≤ rk x := by
  rw [fgt_rk x y hx hy, feq_rk x y hx hy] at h
  simp at h
  rcases h with ⟨⟨a, b⟩, c⟩ | ⟨⟨a, b⟩, c⟩
  · exact ⟨a, b, by omega⟩
  · exact ⟨a, b, by omega⟩
theorem num_gt {x y : Nat} (hx : x < 18446744073709551616) (hy : y < 18446744073709551616) (h : fgt x y = true) : isN x = false ∧ isN y = false ∧ rk y < rk x := by
  rw [fgt_rk x y hx hy] at h
  simp at h
  exact ⟨h.1.1, h.1.2, h.2⟩
theorem num_lt {x y : Nat} (hx : x < 18446744073709551616) (hy : y < 18446744073709551616) (h : flt x y = true) : isN x = false ∧ isN y = false ∧ rk x < rk y := by
  rw [flt_rk x y hx hy] at h
  simp at h
  exact ⟨h.1.1, h.1.2, h.2⟩
theorem rk_small {x : Nat} (h : x ≤ 4652218415073722368) : rk x = (x : Int) ∧ isN x = false ∧ x < 18446744073709551616 := by
  refine ⟨?_, ?_, by omega⟩
  · unfold rk
    have g : ng x = false := ng_of_lt (by omega)
    rw [g, mg_of_lt (by omega)]
    rfl
  · rw [isN_false]
    rw [mg_of_lt (by omega)]
    omega
theorem flt_no {x y : Nat} (hx : x < 18446744073709551616) (hy : y < 18446744073709551616) (h : rk y ≤ rk x) : flt x y = false := by
  rw [flt_rk x y hx hy]
  simp
  intro _ _
  omega
theorem fgt_no' {x y : Nat} (hx : x < 18446744073709551616) (hy : y < 18446744073709551616) (h : rk x ≤ rk y) : fgt x y = false := by
  rw [fgt_rk x y hx hy]
  simp
  intro _ _
  omega
/-- from rest, downwards, and with drag no faster -/
theorem falls_sp {G dt D ll lr dl dr gap : Nat} (hG : G < 18446744073709551616) (ht : dt < 18446744073709551616) (hD : D < 18446744073709551616)
    (g1 : (fgt G 0 || feq G 0) = true) (g2 : (flt G 4652218415073722368 || feq G 4652218415073722368) = true) (t1 : fgt dt 0 = true) (t2 : (flt dt 4652218415073722368 || feq dt 4652218415073722368) = true) (d1 : (fgt D 0 || feq D 0) = true) (d2 : (flt D 4652218415073722368 || feq D 4652218415073722368) = true)
    (hg : gap ≤ 9218868437227405312) (h1 : ll < 18446744073709551616) (h2 : lr < 18446744073709551616) (h3 : dl < 18446744073709551616) (h4 : dr < 18446744073709551616) :
    (fgt ll lr = true → flt (spB G dt 0 0 ll lr dl dr gap) 0 = false ∧ flt (spB G dt D 0 ll lr dl dr gap) 0 = false ∧ fgt (spB G dt D 0 ll lr dl dr gap) (spB G dt 0 0 ll lr dl dr gap) = false) ∧
    (flt ll lr = true → fgt (spB G dt 0 0 ll lr dl dr gap) 0 = false ∧ fgt (spB G dt D 0 ll lr dl dr gap) 0 = false ∧ flt (spB G dt D 0 ll lr dl dr gap) (spB G dt 0 0 ll lr dl dr gap) = false) := by
  have r0 : rk 0 = 0 := by decide
  have gG := num_ge hG (by decide) g1
  have gG2 := num_of hG (by decide) g2
  have gT := num_gt ht (by decide) t1
  have gT2 := num_of ht (by decide) t2
  have gD := num_ge hD (by decide) d1
  have gD2 := num_of hD (by decide) d2
  rw [rk_1024.1] at gG2 gT2 gD2
  rw [r0] at gG gT gD
  have cG : canonB G ≤ 4652218415073722368 := canon_nn hG gG.1 gG.2.2 gG2.2.2
  have cD : canonB D ≤ 4652218415073722368 := canon_nn hD gD.1 gD.2.2 gD2.2.2
  have cT : 0 < dt ∧ dt ≤ 4652218415073722368 := by
    have a := gT.2.2
    have b := gT2.2.2
    unfold rk at a b
    have m : mg dt = dt ∨ dt = mg dt + 9223372036854775808 := by unfold mg; omega
    by_cases g : ng dt = true
    · rw [if_pos g] at a; omega
    · rw [if_neg g] at a b
      rcases m with m | m
      · omega
      · exfalso; apply g; unfold ng; simp; omega
  have hgl : gap < 18446744073709551616 := by omega
  have key : ∀ {a b p q : Nat}, a < 18446744073709551616 → b < 18446744073709551616 → p < 18446744073709551616 → q < 18446744073709551616 → isN a = false → isN b = false → rk b < rk a → spB G dt D 0 a b p q gap ≤ spB G dt 0 0 a b p q gap ∧ spB G dt 0 0 a b p q gap ≤ 4652218415073722368 := fun {a b p q} ha hb hp hq na nb lt => by
    have h := spB_falls (G := canonB G) (dt := dt) (D := canonB D) (dl := p) (dr := q) cG cT.1 cT.2 cD hg ha hb na nb lt hp hq
    rw [spB_cl hG ht hD ha hb hp hq hgl] at h
    have e : spB (canonB G) dt 0 0 a b p q gap = spB G dt 0 0 a b p q gap := spB_cl (D := 0) hG ht (by decide) ha hb hp hq hgl
    rw [e] at h
    exact h
  constructor
  · intro h
    obtain ⟨n1, n2, lt⟩ := num_gt h1 h2 h
    obtain ⟨k1, k2⟩ := key h1 h2 h3 h4 n1 n2 lt
    generalize spB G dt D 0 ll lr dl dr gap = y at *
    generalize spB G dt 0 0 ll lr dl dr gap = x at *
    have rx := rk_small k2
    have ry := rk_small (x := y) (by omega)
    exact ⟨flt_no rx.2.2 (by decide) (by rw [rx.1, r0]; omega), flt_no ry.2.2 (by decide) (by rw [ry.1, r0]; omega), fgt_no' ry.2.2 rx.2.2 (by rw [rx.1, ry.1]; omega)⟩
  · intro h
    obtain ⟨n1, n2, lt⟩ := num_lt h1 h2 h
    obtain ⟨k1, k2⟩ := key h2 h1 h4 h3 n2 n1 lt
    have sw : ∀ E, spB G dt E 0 ll lr dl dr gap = cn (spB G dt E 0 lr ll dr dl gap) := fun E => by
      have m := spB_mirror (D := E) (u := 0) hG ht (by decide) h2 h1 h4 h3 hgl
      rw [← m]
      unfold spB u1B
      have e : sbB (negB 0) (puB G dt ll lr gap) = sbB 0 (puB G dt ll lr gap) := by
        rw [← sbB_canon (a := negB 0) (by decide) (puB_lt _ _ _ _ _), ← sbB_canon (a := 0) (by decide) (puB_lt G dt ll lr gap), show canonB (negB 0) = canonB 0 by decide]
      rw [e]
    rw [sw D, sw 0]
    generalize spB G dt D 0 lr ll dr dl gap = y at *
    generalize spB G dt 0 0 lr ll dr dl gap = x at *
    have rx := rk_small k2
    have ry := rk_small (x := y) (by omega)
    have cx := rk_cn rx.2.2 rx.2.1
    have cy := rk_cn ry.2.2 ry.2.1
    exact ⟨fgt_no' (cn_lt rx.2.2) (by decide) (by rw [cx.1, rx.1, r0]; omega), fgt_no' (cn_lt ry.2.2) (by decide) (by rw [cy.1, ry.1, r0]; omega), flt_no (cn_lt ry.2.2) (cn_lt rx.2.2) (by rw [cx.1, cy.1, rx.1, ry.1]; omega)⟩
end Fc
end Go.Proofs.YtpfoohpncbkkfaaDoor

namespace Go.Proofs.YtpfoohpncbkkfaaDoor
open Go.RowKit Tf Cu Go.Deep
attribute [local go_sem] run_bits run_from raw_feq raw_fne raw_flt raw_fgt run_neg run_store_float
namespace Fc
theorem gp_le {n k : Nat} (hn : 1 ≤ n ∧ n ≤ 32) (hk : k < 12 * n * n) : gpE n k ≤ 9218868437227405312 := by
  obtain ⟨t1, _, _⟩ := edT_spec hn.1 hk
  have h := (GpC_le hn (t_cell t1) (s := edT n k % 4) (by omega)).2
  unfold gpE
  omega
/-- blocks of unlike types are unlike -/
theorem plan_ne {w : World} {b gp : Nat} {t : TypeId} {c cs : Array Value} (h : w.heap[b]? = some (.cells c t)) (hp : w.heap[gp]? = some (.cells cs 25)) (ht : t ≠ 25) : b ≠ gp := by
  rintro rfl
  rw [h] at hp
  injection hp with hp
  injection hp with _ hp
  exact ht hp
theorem row_ne_plan {w : World} {b gp n : Nat} {t : TypeId} {f : Nat → Value} {cs : Array Value} (h : w.rowIs b t n f) (hp : w.heap[gp]? = some (.cells cs 25)) (ht : t ≠ 25) : b ≠ gp := by
  obtain ⟨c, h1, _⟩ := h
  exact plan_ne h1 hp ht
/-- a net behind a store into a plan -/
theorem grid_plan {n gb gp k : Nat} {v v0 v1 : Value} {cs : List Value} {w : World} (hn : 1 ≤ n) (h : GridOf n gb w) (hp : w.heap[gp]? = some (.cells (v0 :: v1 :: cs).toArray 25)) (h1 : ∀ i, v1 ≠ .int .i64 i) : GridOf n gb (w.setCell ⟨gp, k, none⟩ v) := by
  obtain ⟨mb, eb, cap, m, bb, ab, lb, pb, ⟨g1, g2, g3, g4⟩, r1, r2, r3, r4⟩ := h
  have ne : gp ≠ eb := by
    rintro rfl
    obtain ⟨t1, t2, t3⟩ := edT_spec (n := n) (k := 0) hn (Nat.mul_pos (Nat.mul_pos (by omega) hn) hn)
    have y := (g2.2 _ t1 t2).2.1
    rw [t3] at y
    have q : w.cell? ⟨gp, 0 * 4 + 1, none⟩ = some v1 := cell_of_row _ _ 1 _ _ _ hp
    rw [q] at y
    injection y with y
    exact h1 _ y
  have nb : gb ≠ gp := plan_ne g1 hp (by decide)
  have nm : mb ≠ gp := by
    rintro rfl
    obtain ⟨D, ⟨es, clock, hb, _⟩, _⟩ := g3
    rw [hb] at hp
    cases hp
  refine ⟨mb, eb, cap, m, bb, ab, lb, pb, ⟨by rw [heap_set_ne nb]; exact g1, g2.set ne, g3.block (by exact Below.heap_setCell _ _ _ _ nm), g4⟩, r1.setOther (row_ne_plan r1 hp (by decide)) _, r2.setOther (row_ne_plan r2 hp (by decide)) _, r3.setOther (row_ne_plan r3 hp (by decide)) _, r4.setOther (row_ne_plan r4 hp (by decide)) _⟩
theorem isFl_set {w : World} {b o l g k : Nat} {F : Nat → Nat} {x : Value} (h : IsFl w (some ⟨b, o, none⟩) l F) (hne : b ≠ g) : IsFl (w.setCell ⟨g, k, none⟩ x) (some ⟨b, o, none⟩) l F := fun i hi => by
  obtain ⟨h1, b', o', e, h2, h3⟩ := h i hi
  cases e
  exact ⟨h1, b, o, rfl, by simpa [World.setCell] using h2, by rw [← h3]; exact World.cell?_of_block (Below.heap_setCell _ _ _ _ hne)⟩
theorem isIn_set {w : World} {b o l g k : Nat} {F : Nat → Int} {x : Value} (h : IsIn w (some ⟨b, o, none⟩) l F) (hne : b ≠ g) : IsIn (w.setCell ⟨g, k, none⟩ x) (some ⟨b, o, none⟩) l F := fun i hi => by
  obtain ⟨h1, b', o', e, h2, h3⟩ := h i hi
  cases e
  exact ⟨h1, b, o, rfl, by simpa [World.setCell] using h2, by rw [← h3]; exact World.cell?_of_block (Below.heap_setCell _ _ _ _ hne)⟩
set_option maxRecDepth 100000 in
set_option maxHeartbeats 16000000 in
theorem falls16_short (side : Int) (n : Nat) (sd : Int) (dt gr dr : Nat) (lim : Int) (rv : Bool) (pr : Option Addr) (lr cr : Nat) (pb : Option Addr) (lb cb : Nat) (pw : Option Addr) (lw cw : Nat) (pt : Option Addr) (lt ct : Nat) (ps : Option Addr) (ls cs : Nat) (sky st : Int) (drag : Nat) (g1 g2 g3 g4 g5 g6 : Bool) (w : World) (hg : (g1 && g2 && g3 && g4 && g5 && g6) = false)
    (h0 : (fgt gr 0 || feq gr 0) = g1)    (h1 : (flt gr 4652218415073722368 || feq gr 4652218415073722368) = g2)    (h2 : fgt dt 0 = g3)    (h3 : (flt dt 4652218415073722368 || feq dt 4652218415073722368) = g4)    (h4 : (fgt drag 0 || feq drag 0) = g5)    (h5 : (flt drag 4652218415073722368 || feq drag 4652218415073722368) = g6)
    (LV : Hid (∀ v, Ab w v → Calls Tryd.prog 9 #[] v fun e w' => e = .returned (.bool true) ∧ Below v.heap.size v w'))
    (NT : Hid (∀ v, Ab w v → Calls Tryd.prog 10 #[.int .i64 side, .agg #[.slice pb lb cb, .slice pw lw cw, .slice pt lt ct, .slice ps ls cs, .int .i64 sky, .int .i64 st]] v fun e w' => Below v.heap.size v w' ∧ ((∃ gb, e = .returned (.pointer (some ⟨gb, 0, none⟩)) ∧ GridOf n gb w') ∨ e = .returned (.pointer none)))) :
    Calls Tryd.prog 7 #[.int .i64 side, .agg #[.int .i64 sd, .float .f64 dt, .float .f64 gr, .float .f64 dr, .int .i64 lim, .bool rv, .slice pr lr cr], .agg #[.slice pb lb cb, .slice pw lw cw, .slice pt lt ct, .slice ps ls cs, .int .i64 sky, .int .i64 st], .float .f64 drag] w fun x w' => x = .returned (.bool true) ∧ Below w.heap.size w w' := by
  have HG := hid hg
  clear hg
  have A0 : Hid (Ab w ((w.alloc (.cells #[.int .i64 sd, .float .f64 dt, .float .f64 gr, .float .f64 dr, .int .i64 lim, .bool rv, .slice pr lr cr] 25)).alloc (.cells #[.slice pb lb cb, .slice pw lw cw, .slice pt lt ct, .slice ps ls cs, .int .i64 sky, .int .i64 st] 29))) := bl2 _ _ _
  have P0 : Hid (((w.alloc (.cells #[.int .i64 sd, .float .f64 dt, .float .f64 gr, .float .f64 dr, .int .i64 lim, .bool rv, .slice pr lr cr] 25)).alloc (.cells #[.slice pb lb cb, .slice pw lw cw, .slice pt lt ct, .slice ps ls cs, .int .i64 sky, .int .i64 st] 29)).heap[w.heap.size]? = some (.cells #[.int .i64 sd, .float .f64 dt, .float .f64 gr, .float .f64 dr, .int .i64 lim, .bool rv, .slice pr lr cr] 25)) := heap_alloc2_old _ _ _
  have S0 : Hid (((w.alloc (.cells #[.int .i64 sd, .float .f64 dt, .float .f64 gr, .float .f64 dr, .int .i64 lim, .bool rv, .slice pr lr cr] 25)).alloc (.cells #[.slice pb lb cb, .slice pw lw cw, .slice pt lt ct, .slice ps ls cs, .int .i64 sky, .int .i64 st] 29)).heap[w.heap.size + 1]? = some (.cells #[.slice pb lb cb, .slice pw lw cw, .slice pt lt ct, .slice ps ls cs, .int .i64 sky, .int .i64 st] 29)) := heap_alloc2_new _ _ _
  go_enter Tryd.func7, Tryd.ntmps7
  go_upto_region 1 with fail
  obtain ⟨gp, hgp⟩ : ∃ g, w.heap.size = g := ⟨_, rfl⟩
  obtain ⟨gs, hgs⟩ : ∃ g, w.heap.size + 1 = g := ⟨_, rfl⟩
  generalize hW : World.alloc (World.alloc w _) _ = W at *
  rw [hgs] at S0 ⊢
  rw [hgp] at P0 ⊢
  have GPW : Hid (w.heap.size ≤ gp ∧ w.heap.size ≤ gs) := ⟨by omega, by omega⟩
  clear hgp hgs hW
  go_wp2_with fail
  refine (LV.out _ A0.out).mono ?_
  rintro e9 v1 ⟨rfl, k1⟩
  have A1 : Hid (Ab w v1) := A0.out.call k1
  have P1 := hid (Ab.heap k1 P0.out)
  have S1 := hid (Ab.heap k1 S0.out)
  clear k1 A0 P0 S0
  have c0 := cell_of_row _ _ 0 _ _ _ S1.out
  have c1 := cell_of_row _ _ 1 _ _ _ S1.out
  have c2 := cell_of_row _ _ 2 _ _ _ S1.out
  have c3 := cell_of_row _ _ 3 _ _ _ S1.out
  have c4 := cell_of_row _ _ 4 _ _ _ S1.out
  have c5 := cell_of_row _ _ 5 _ _ _ S1.out
  go_wp2_with fail
  refine (NT.out _ A1.out).mono ?_
  rintro e9 v2 ⟨k1, ⟨gb, rfl, g1⟩ | rfl⟩
  · have A2 : Hid (Ab w v2) := A1.out.call k1
    have P2 := hid (Ab.heap k1 P1.out)
    have S2 := hid (Ab.heap k1 S1.out)
    have G2 := hid g1
    clear k1 g1 A1 P1 S1 c0 c1 c2 c3 c4 c5 LV NT
    have p0 := cell_of_row _ _ 0 _ _ _ P2.out
    have p1 := cell_of_row _ _ 1 _ _ _ P2.out
    have p2 := cell_of_row _ _ 2 _ _ _ P2.out
    have p3 := cell_of_row _ _ 3 _ _ _ P2.out
    have p4 := cell_of_row _ _ 4 _ _ _ P2.out
    have p5 := cell_of_row _ _ 5 _ _ _ P2.out
    have p6 := cell_of_row _ _ 6 _ _ _ P2.out
    cases g1
    · go_wp2
      go_ret
      exact ⟨rfl, A2.out⟩
    · skip
      cases g2
      · go_wp2
        go_ret
        exact ⟨rfl, A2.out⟩
      · skip
        cases g3
        · go_wp2
          go_ret
          exact ⟨rfl, A2.out⟩
        · skip
          cases g4
          · go_wp2
            go_ret
            exact ⟨rfl, A2.out⟩
          · skip
            cases g5
            · go_wp2
              go_ret
              exact ⟨rfl, A2.out⟩
            · skip
              cases g6
              · go_wp2
                go_ret
                exact ⟨rfl, A2.out⟩
              · skip
                exact absurd HG.out (by decide)
  · have A2 : Hid (Ab w v2) := A1.out.call k1
    clear k1 A1 P1 S1 c0 c1 c2 c3 c4 c5 LV NT
    go_wp2
    go_ret
    exact ⟨rfl, A2.out⟩
set_option maxRecDepth 100000 in
set_option maxHeartbeats 32000000 in
theorem falls16_go (side : Int) (n M N : Nat) (bb bo wb wo sb so : Nat) (sd : Int) (dt gr dr : Nat) (lim : Int) (rv : Bool) (pr : Option Addr) (lr cr : Nat) (lb cb : Nat) (B : Nat → Nat) (lw cw : Nat) (Wt : Nat → Int) (pt : Option Addr) (lt ct : Nat) (ls cs : Nat) (Sp : Nat → Nat) (sky st : Int) (Tr : Nat → Int) (drag : Nat) (X Y : Nat → Nat) (L R sL sR : Nat → Nat) (ar : Nat → Int) (w : World) (hn1 : 1 ≤ n) (hN : N ≤ 65536) (hM : M ≤ 65536)
    (hls : ls = N) (hlb : lb = M) (hlw : lw = M) (hlt : lt = M)
    (h0 : (fgt gr 0 || feq gr 0) = true)    (h1 : (flt gr 4652218415073722368 || feq gr 4652218415073722368) = true)    (h2 : fgt dt 0 = true)    (h3 : (flt dt 4652218415073722368 || feq dt 4652218415073722368) = true)    (h4 : (fgt drag 0 || feq drag 0) = true)    (h5 : (flt drag 4652218415073722368 || feq drag 4652218415073722368) = true)
    (LV : Hid (∀ v, Ab w v → Calls Tryd.prog 9 #[] v fun e w' => e = .returned (.bool true) ∧ Below v.heap.size v w'))
    (NT : Hid (∀ v, Ab w v → Calls Tryd.prog 10 #[.int .i64 side, .agg #[.slice (some ⟨bb, bo, none⟩) lb cb, .slice (some ⟨wb, wo, none⟩) lw cw, .slice pt lt ct, .slice (some ⟨sb, so, none⟩) ls cs, .int .i64 sky, .int .i64 st]] v fun e w' => Below v.heap.size v w' ∧ ((∃ gb, e = .returned (.pointer (some ⟨gb, 0, none⟩)) ∧ GridOf n gb w') ∨ e = .returned (.pointer none))))
    (EG : Hid (∀ gb v, Ab w v → GridOf n gb v → ∀ k : Nat, k < N → Calls Tryd.prog 14 #[.pointer (some ⟨gb, 0, none⟩), .int .i64 (k : Nat)] v fun e w' => e = .returned (.tuple #[.agg #[.int .i64 (L k : Nat), .int .i64 (sL k : Nat), .int .i64 (R k : Nat), .int .i64 (sR k : Nat)], .bool true]) ∧ Below v.heap.size v w'))
    (GA : Hid (∀ gb v, Ab w v → GridOf n gb v → ∀ c : Nat, c < M → Calls Tryd.prog 17 #[.pointer (some ⟨gb, 0, none⟩), .int .i64 (c : Nat)] v fun e w' => e = .returned (.int .i64 (ar c)) ∧ Below v.heap.size v w'))
    (LE : Hid (∀ v, ∀ c : Nat, c < M → Calls Tryd.prog 16 #[.float .f64 (B c), .int .i64 (Wt c), .int .i64 (ar c)] v fun e w' => e = .returned (.float .f64 (lvl (B c) (Wt c) (ar c))) ∧ Below v.heap.size v w'))
    (CP : Hid (∀ v, Ab w v → Calls Tryd.prog 19 #[.agg #[.slice (some ⟨bb, bo, none⟩) lb cb, .slice (some ⟨wb, wo, none⟩) lw cw, .slice pt lt ct, .slice (some ⟨sb, so, none⟩) ls cs, .int .i64 sky, .int .i64 st]] v fun e w' => ∃ tb tw tt ts, e = .returned (.agg #[.slice (some ⟨tb, 0, none⟩) lb (lb + 9), .slice (some ⟨tw, 0, none⟩) lw (lw + 9), .slice (some ⟨tt, 0, none⟩) lt (lt + 9), .slice (some ⟨ts, 0, none⟩) ls (ls + 9), .int .i64 sky, .int .i64 st]) ∧ Below v.heap.size v w' ∧ w'.rowIs tb 22 (lb + 9) (mkF lb (fun k => .float .f64 (B k)) (.float .f64 4635118810238550016) (.float .f64 0)) ∧ w'.rowIs tw 2 (lw + 9) (mkF lw (fun k => .int .i64 (Wt k)) (.int .i64 77) (.int .i64 0)) ∧ w'.rowIs tt 2 (lt + 9) (mkF lt (fun k => .int .i64 (Tr k)) (.int .i64 77) (.int .i64 0)) ∧ w'.rowIs ts 22 (ls + 9) (mkF ls (fun k => .float .f64 (Sp k)) (.float .f64 4635118810238550016) (.float .f64 0)) ∧ (v.heap.size ≤ tb ∧ v.heap.size ≤ tw ∧ v.heap.size ≤ tt ∧ v.heap.size ≤ ts ∧ tb ≠ tw ∧ tb ≠ tt ∧ tb ≠ ts ∧ tw ≠ tt ∧ tw ≠ ts ∧ tt ≠ ts)))
    (SPU : Hid (∀ gb tb tw tt ts v, Ab w v → GridOf n gb v → IsFl v (some ⟨tb, 0, none⟩) lb B → IsIn v (some ⟨tw, 0, none⟩) lw Wt → IsFl v (some ⟨ts, 0, none⟩) ls (fun _ => 0) → ∀ k : Nat, k < N → Calls Tryd.prog 18 #[.pointer (some ⟨gb, 0, none⟩), .agg #[.int .i64 sd, .float .f64 dt, .float .f64 gr, .float .f64 0, .int .i64 lim, .bool rv, .slice pr lr cr], .agg #[.slice (some ⟨tb, 0, none⟩) lb (lb + 9), .slice (some ⟨tw, 0, none⟩) lw (lw + 9), .slice (some ⟨tt, 0, none⟩) lt (lt + 9), .slice (some ⟨ts, 0, none⟩) ls (ls + 9), .int .i64 sky, .int .i64 st], .int .i64 (k : Nat)] v fun x w' => x = .returned (.float .f64 (X k)) ∧ Below v.heap.size v w'))
    (SPV : Hid (∀ gb tb tw tt ts v, Ab w v → GridOf n gb v → IsFl v (some ⟨tb, 0, none⟩) lb B → IsIn v (some ⟨tw, 0, none⟩) lw Wt → IsFl v (some ⟨ts, 0, none⟩) ls (fun _ => 0) → ∀ k : Nat, k < N → Calls Tryd.prog 18 #[.pointer (some ⟨gb, 0, none⟩), .agg #[.int .i64 sd, .float .f64 dt, .float .f64 gr, .float .f64 drag, .int .i64 lim, .bool rv, .slice pr lr cr], .agg #[.slice (some ⟨tb, 0, none⟩) lb (lb + 9), .slice (some ⟨tw, 0, none⟩) lw (lw + 9), .slice (some ⟨tt, 0, none⟩) lt (lt + 9), .slice (some ⟨ts, 0, none⟩) ls (ls + 9), .int .i64 sky, .int .i64 st], .int .i64 (k : Nat)] v fun x w' => x = .returned (.float .f64 (Y k)) ∧ Below v.heap.size v w'))
    (IB : Hid (IsFl w (some ⟨bb, bo, none⟩) lb B)) (IW : Hid (IsIn w (some ⟨wb, wo, none⟩) lw Wt))
    (LR : Hid (∀ k, k < N → L k < M ∧ R k < M))
    (XC : Hid (∀ k, k < N → (fgt (lvl (B (L k)) (Wt (L k)) (ar (L k))) (lvl (B (R k)) (Wt (R k)) (ar (R k))) = true → flt (X k) 0 = false ∧ flt (Y k) 0 = false ∧ fgt (Y k) (X k) = false) ∧ (flt (lvl (B (L k)) (Wt (L k)) (ar (L k))) (lvl (B (R k)) (Wt (R k)) (ar (R k))) = true → fgt (X k) 0 = false ∧ fgt (Y k) 0 = false ∧ flt (Y k) (X k) = false))) :
    Calls Tryd.prog 7 #[.int .i64 side, .agg #[.int .i64 sd, .float .f64 dt, .float .f64 gr, .float .f64 dr, .int .i64 lim, .bool rv, .slice pr lr cr], .agg #[.slice (some ⟨bb, bo, none⟩) lb cb, .slice (some ⟨wb, wo, none⟩) lw cw, .slice pt lt ct, .slice (some ⟨sb, so, none⟩) ls cs, .int .i64 sky, .int .i64 st], .float .f64 drag] w fun x w' => x = .returned (.bool true) ∧ Below w.heap.size w w' := by
  subst hls hlw
  have HN := hid hn1
  clear hn1
  have EQ := hid (And.intro hlb hlt)
  have NB := hid hN
  have MB := hid hM
  clear hlb hlt hN hM
  have A0 : Hid (Ab w ((w.alloc (.cells #[.int .i64 sd, .float .f64 dt, .float .f64 gr, .float .f64 dr, .int .i64 lim, .bool rv, .slice pr lr cr] 25)).alloc (.cells #[.slice (some ⟨bb, bo, none⟩) lb cb, .slice (some ⟨wb, wo, none⟩) lw cw, .slice pt lt ct, .slice (some ⟨sb, so, none⟩) ls cs, .int .i64 sky, .int .i64 st] 29))) := bl2 _ _ _
  have P0 : Hid (((w.alloc (.cells #[.int .i64 sd, .float .f64 dt, .float .f64 gr, .float .f64 dr, .int .i64 lim, .bool rv, .slice pr lr cr] 25)).alloc (.cells #[.slice (some ⟨bb, bo, none⟩) lb cb, .slice (some ⟨wb, wo, none⟩) lw cw, .slice pt lt ct, .slice (some ⟨sb, so, none⟩) ls cs, .int .i64 sky, .int .i64 st] 29)).heap[w.heap.size]? = some (.cells #[.int .i64 sd, .float .f64 dt, .float .f64 gr, .float .f64 dr, .int .i64 lim, .bool rv, .slice pr lr cr] 25)) := heap_alloc2_old _ _ _
  have S0 : Hid (((w.alloc (.cells #[.int .i64 sd, .float .f64 dt, .float .f64 gr, .float .f64 dr, .int .i64 lim, .bool rv, .slice pr lr cr] 25)).alloc (.cells #[.slice (some ⟨bb, bo, none⟩) lb cb, .slice (some ⟨wb, wo, none⟩) lw cw, .slice pt lt ct, .slice (some ⟨sb, so, none⟩) ls cs, .int .i64 sky, .int .i64 st] 29)).heap[w.heap.size + 1]? = some (.cells #[.slice (some ⟨bb, bo, none⟩) lb cb, .slice (some ⟨wb, wo, none⟩) lw cw, .slice pt lt ct, .slice (some ⟨sb, so, none⟩) ls cs, .int .i64 sky, .int .i64 st] 29)) := heap_alloc2_new _ _ _
  go_enter Tryd.func7, Tryd.ntmps7
  go_upto_region 1 with fail
  obtain ⟨gp, hgp⟩ : ∃ g, w.heap.size = g := ⟨_, rfl⟩
  obtain ⟨gs, hgs⟩ : ∃ g, w.heap.size + 1 = g := ⟨_, rfl⟩
  generalize hW : World.alloc (World.alloc w _) _ = W at *
  rw [hgs] at S0 ⊢
  rw [hgp] at P0 ⊢
  have GPW : Hid (w.heap.size ≤ gp ∧ w.heap.size ≤ gs) := ⟨by omega, by omega⟩
  clear hgp hgs hW
  go_wp2_with fail
  refine (LV.out _ A0.out).mono ?_
  rintro e9 v1 ⟨rfl, k1⟩
  have A1 : Hid (Ab w v1) := A0.out.call k1
  have P1 := hid (Ab.heap k1 P0.out)
  have S1 := hid (Ab.heap k1 S0.out)
  clear k1 A0 P0 S0
  have c0 := cell_of_row _ _ 0 _ _ _ S1.out
  have c1 := cell_of_row _ _ 1 _ _ _ S1.out
  have c2 := cell_of_row _ _ 2 _ _ _ S1.out
  have c3 := cell_of_row _ _ 3 _ _ _ S1.out
  have c4 := cell_of_row _ _ 4 _ _ _ S1.out
  have c5 := cell_of_row _ _ 5 _ _ _ S1.out
  go_wp2_with fail
  refine (NT.out _ A1.out).mono ?_
  rintro e9 v2 ⟨k1, ⟨gb, rfl, g1⟩ | rfl⟩
  · have A2 : Hid (Ab w v2) := A1.out.call k1
    have P2 := hid (Ab.heap k1 P1.out)
    have S2 := hid (Ab.heap k1 S1.out)
    have G2 := hid g1
    clear k1 g1 A1 P1 S1 c0 c1 c2 c3 c4 c5 LV NT
    have p0 := cell_of_row _ _ 0 _ _ _ P2.out
    have p1 := cell_of_row _ _ 1 _ _ _ P2.out
    have p2 := cell_of_row _ _ 2 _ _ _ P2.out
    have p3 := cell_of_row _ _ 3 _ _ _ P2.out
    have p4 := cell_of_row _ _ 4 _ _ _ P2.out
    have p5 := cell_of_row _ _ 5 _ _ _ P2.out
    have p6 := cell_of_row _ _ 6 _ _ _ P2.out
    have c0 := cell_of_row _ _ 0 _ _ _ S2.out
    have c1 := cell_of_row _ _ 1 _ _ _ S2.out
    have c2 := cell_of_row _ _ 2 _ _ _ S2.out
    have c3 := cell_of_row _ _ 3 _ _ _ S2.out
    have c4 := cell_of_row _ _ 4 _ _ _ S2.out
    have c5 := cell_of_row _ _ 5 _ _ _ S2.out
    go_wp2_with fail
    refine (CP.out _ A2.out).mono ?_
    rintro e9 v6 ⟨tb, tw, tt, ts, rfl, k6, r1, r2, r3, r4, nb⟩
    clear CP c0 c1 c2 c3 c4 c5 p0 p1 p2 p3 p4 p5 p6 h0 h1 h2 h3 h4 h5
    go_upto_region 7 with fail
    have hge6 : tb < v6.heap.size ∧ tw < v6.heap.size ∧ tt < v6.heap.size ∧ ts < v6.heap.size := ⟨r1.lt, r2.lt, r3.lt, r4.lt⟩
    obtain ⟨gt, hgt⟩ : ∃ g, v6.heap.size = g := ⟨_, rfl⟩
    rw [EQ.out.1] at r1
    rw [EQ.out.2] at r3
    have X0 : Hid (CpX v2 gt tb tw tt ts lw ls #[.slice (some ⟨tb, 0, none⟩) lb (lb + 9), .slice (some ⟨tw, 0, none⟩) lw (lw + 9), .slice (some ⟨tt, 0, none⟩) lt (lt + 9), .slice (some ⟨ts, 0, none⟩) ls (ls + 9), .int .i64 sky, .int .i64 st] 29 (.float .f64 4635118810238550016) (.int .i64 77) (.float .f64 0) (.int .i64 0) (fun k => .float .f64 (B k)) (fun k => .int .i64 (Wt k)) (fun k => .int .i64 (Tr k)) (fun k => .float .f64 (Sp k)) (v6.alloc (.cells #[.slice (some ⟨tb, 0, none⟩) lb (lb + 9), .slice (some ⟨tw, 0, none⟩) lw (lw + 9), .slice (some ⟨tt, 0, none⟩) lt (lt + 9), .slice (some ⟨ts, 0, none⟩) ls (ls + 9), .int .i64 sky, .int .i64 st] 29))) := ⟨Ab.trans k6 (bl1 _ _), by rw [← hgt]; exact heap_alloc_new _ _, r1.alloc _, r2.alloc _, r3.alloc _, r4.alloc _⟩
    have UN : Hid (Unl v2 gt tb tw tt ts) := by
      obtain ⟨n1, n2, n3, n4, n5, n6, n7, n8, n9, n10⟩ := nb
      exact ⟨⟨n1, n2, n3, n4⟩, ⟨by omega, by omega, by omega, by omega⟩, n5, n6, n7, n8, n9, n10⟩
    clear r1 r2 r3 r4 nb k6 hge6
    generalize v6.alloc (.cells #[.slice (some ⟨tb, 0, none⟩) lb (lb + 9), .slice (some ⟨tw, 0, none⟩) lw (lw + 9), .slice (some ⟨tt, 0, none⟩) lt (lt + 9), .slice (some ⟨ts, 0, none⟩) ls (ls + 9), .int .i64 sky, .int .i64 st] 29) = a0 at *
    rw [hgt]
    clear hgt
    have c3 := cell_of_row _ _ 3 _ _ _ X0.out.2.1
    go_wp2
    clear c3
    go_loopw [11] (fun iv wr => ∃ j : Nat, j ≤ ls ∧ iv = .int .i64 (j : Nat) ∧ CpX v2 gt tb tw tt ts lw ls #[.slice (some ⟨tb, 0, none⟩) lb (lb + 9), .slice (some ⟨tw, 0, none⟩) lw (lw + 9), .slice (some ⟨tt, 0, none⟩) lt (lt + 9), .slice (some ⟨ts, 0, none⟩) ls (ls + 9), .int .i64 sky, .int .i64 st] 29 (.float .f64 4635118810238550016) (.int .i64 77) (.float .f64 0) (.int .i64 0) (fun k => .float .f64 (B k)) (fun k => .int .i64 (Wt k)) (fun k => .int .i64 (Tr k)) (fun k => .float .f64 (if k < j then 0 else Sp k)) wr) (fun iv _ => ls - (intOf iv).toNat)
    case atStart => exact ⟨0, by omega, rfl, X0.out.congr (fun _ _ => rfl) (fun _ _ => rfl) (fun _ _ => rfl) (fun _ _ => by simp)⟩
    case round =>
      obtain ⟨j, hj, rfl, x1⟩ := hrel
      have XR := hid x1
      clear x1 X0
      have c3 := cell_of_row _ _ 3 _ _ _ XR.out.2.1
      by_cases hjn : j < ls
      · have HJ := hid hjn
        have jI : (j : Int) < ls := by omega
        have jB : (j : Int) ≤ 65536 := by have := NB.out; omega
        have f0 := XR.out.2.2.2.2.2.cell (i := j) (by omega)
        have z0 := XR.out.2.2.2.2.2.frozen j
        clear hjn hj
        go_wp2
        refine ⟨⟨j + 1, by have := HJ.out; omega, by simp, (XR.out.setS UN.out j (.float .f64 0) HJ.out).congr (fun _ _ => rfl) (fun _ _ => rfl) (fun _ _ => rfl) (fun i _ => ?_)⟩, by have := HJ.out; simp [intOf]; omega⟩
        by_cases e : i = j
        · subst e; simp
        · have e3 : (i < j + 1) ↔ i < j := by omega
          simp [e, e3]
      · have hjl : ls = j := by omega
        subst hjl
        have WR : Hid (Ab w wr) := A2.out.trans XR.out.1
        have SR := hid (Ab.heap XR.out.1 S2.out)
        have PR := hid (Ab.heap XR.out.1 P2.out)
        have TR := hid XR.out.2.1
        have GR := hid (G2.out.to XR.out.1)
        have TB : Hid (IsFl wr (some ⟨tb, 0, none⟩) lb B) := by
          have h := XR.out.2.2.1
          show IsFl _ _ _ _
          rw [EQ.out.1]
          exact mk_fl h (fun c hc => (IB.out.at0 (by rw [EQ.out.1]; exact hc)).1)
        have TW : Hid (IsIn wr (some ⟨tw, 0, none⟩) lw Wt) := mk_in XR.out.2.2.2.1 (fun c hc => (IW.out c hc).1)
        have TS : Hid (IsFl wr (some ⟨ts, 0, none⟩) ls (fun _ => 0)) := mk_fl (XR.out.congr (fun _ _ => rfl) (fun _ _ => rfl) (fun _ _ => rfl) (gs := fun _ => .float .f64 0) (fun k hk => by simp [hk])).2.2.2.2.2 (fun _ _ => by decide)
        have TL : Hid ((tb < wr.heap.size ∧ tw < wr.heap.size ∧ ts < wr.heap.size) ∧ (tb ≠ gp ∧ tw ≠ gp ∧ ts ≠ gp) ∧ gs ≠ gp ∧ gt ≠ gp) := ⟨⟨XR.out.2.2.1.lt, XR.out.2.2.2.1.lt, XR.out.2.2.2.2.2.lt⟩, ⟨row_ne_plan XR.out.2.2.1 PR.out (by decide), row_ne_plan XR.out.2.2.2.1 PR.out (by decide), row_ne_plan XR.out.2.2.2.2.2 PR.out (by decide)⟩, plan_ne SR.out PR.out (by decide), plan_ne TR.out PR.out (by decide)⟩
        clear XR A2 S2 P2 G2
        have p0 := cell_of_row _ _ 0 _ _ _ PR.out
        have p1 := cell_of_row _ _ 1 _ _ _ PR.out
        have p2 := cell_of_row _ _ 2 _ _ _ PR.out
        have p3 := cell_of_row _ _ 3 _ _ _ PR.out
        have p4 := cell_of_row _ _ 4 _ _ _ PR.out
        have p5 := cell_of_row _ _ 5 _ _ _ PR.out
        have p6 := cell_of_row _ _ 6 _ _ _ PR.out
        go_upto_region 12 with fail
        obtain ⟨gq, hgq⟩ : ∃ g, wr.heap.size = g := ⟨_, rfl⟩
        have gpl : gp < wr.heap.size := lt_of_block PR.out
        have gsl : gs < wr.heap.size := lt_of_block SR.out
        have gtl : gt < wr.heap.size := lt_of_block TR.out
        have A3 : Hid (Ab wr (wr.alloc (.cells #[.int .i64 sd, .float .f64 dt, .float .f64 gr, .float .f64 dr, .int .i64 lim, .bool rv, .slice pr lr cr] 25))) := bl1 _ _
        have Q3 : Hid ((wr.alloc (.cells #[.int .i64 sd, .float .f64 dt, .float .f64 gr, .float .f64 dr, .int .i64 lim, .bool rv, .slice pr lr cr] 25)).heap[gq]? = some (.cells #[.int .i64 sd, .float .f64 dt, .float .f64 gr, .float .f64 dr, .int .i64 lim, .bool rv, .slice pr lr cr] 25)) := by rw [← hgq]; exact heap_alloc_new _ _
        have NQ : Hid (gp ≠ gq ∧ gs ≠ gq ∧ gt ≠ gq ∧ (tb ≠ gq ∧ tw ≠ gq ∧ ts ≠ gq) ∧ w.heap.size ≤ gq) := by
          have h := TL.out.1
          have h2 := Below.size WR.out
          exact ⟨by omega, by omega, by omega, ⟨by omega, by omega, by omega⟩, by omega⟩
        have P3 := hid (Ab.heap A3.out PR.out)
        have S3 := hid (Ab.heap A3.out SR.out)
        have T3 := hid (Ab.heap A3.out TR.out)
        have W3 : Hid (Ab w (wr.alloc (.cells #[.int .i64 sd, .float .f64 dt, .float .f64 gr, .float .f64 dr, .int .i64 lim, .bool rv, .slice pr lr cr] 25))) := WR.out.trans A3.out
        have G3 := hid (GR.out.to A3.out)
        have TB3 := hid (TB.out.below A3.out)
        have TW3 := hid (TW.out.below A3.out)
        have TS3 := hid (TS.out.below A3.out)
        generalize wr.alloc (.cells #[.int .i64 sd, .float .f64 dt, .float .f64 gr, .float .f64 dr, .int .i64 lim, .bool rv, .slice pr lr cr] 25) = a1 at *
        rw [hgq]
        clear hgq gpl gsl gtl A3 PR SR TR WR GR TB TW TS p0 p1 p2 p3 p4 p5 p6 c3
        have f0 := cell_of_row _ _ 3 _ _ _ P3.out
        have z0 := free_row P3.out 3
        go_upto_region 13 with fail
        clear f0 z0
        have P4 : Hid ((a1.setCell ⟨gp, 3, none⟩ (.float .f64 0)).heap[gp]? = some (.cells #[.int .i64 sd, .float .f64 dt, .float .f64 gr, .float .f64 0, .int .i64 lim, .bool rv, .slice pr lr cr] 25)) := one_set P3.out
        have Q4 : Hid ((a1.setCell ⟨gp, 3, none⟩ (.float .f64 0)).heap[gq]? = some (.cells #[.int .i64 sd, .float .f64 dt, .float .f64 gr, .float .f64 dr, .int .i64 lim, .bool rv, .slice pr lr cr] 25)) := by show _ = _; rw [heap_set_ne (Ne.symm NQ.out.1)]; exact Q3.out
        have S4 : Hid ((a1.setCell ⟨gp, 3, none⟩ (.float .f64 0)).heap[gs]? = some (.cells #[.slice (some ⟨bb, bo, none⟩) lb cb, .slice (some ⟨wb, wo, none⟩) lw cw, .slice pt lt ct, .slice (some ⟨sb, so, none⟩) ls cs, .int .i64 sky, .int .i64 st] 29)) := by show _ = _; rw [heap_set_ne TL.out.2.2.1]; exact S3.out
        have T4 : Hid ((a1.setCell ⟨gp, 3, none⟩ (.float .f64 0)).heap[gt]? = some (.cells #[.slice (some ⟨tb, 0, none⟩) lb (lb + 9), .slice (some ⟨tw, 0, none⟩) lw (lw + 9), .slice (some ⟨tt, 0, none⟩) lt (lt + 9), .slice (some ⟨ts, 0, none⟩) ls (ls + 9), .int .i64 sky, .int .i64 st] 29)) := by show _ = _; rw [heap_set_ne TL.out.2.2.2]; exact T3.out
        have W4 : Hid (Ab w (a1.setCell ⟨gp, 3, none⟩ (.float .f64 0))) := Ab.setk W3.out GPW.out.1 _
        have G4 := hid (grid_plan (k := 3) (v := .float .f64 0) HN.out G3.out P3.out (by simp))
        have TB4 := hid (isFl_set (k := 3) (x := .float .f64 0) TB3.out TL.out.2.1.1)
        have TW4 := hid (isIn_set (k := 3) (x := .float .f64 0) TW3.out TL.out.2.1.2.1)
        have TS4 := hid (isFl_set (k := 3) (x := .float .f64 0) TS3.out TL.out.2.1.2.2)
        clear P3 Q3 S3 T3 W3 G3 TB3 TW3 TS3
        generalize World.setCell a1 _ _ = a2 at *
        have f0 := cell_of_row _ _ 3 _ _ _ Q4.out
        have z0 := free_row Q4.out 3
        go_upto_region 14 with fail
        clear f0 z0
        have P5 : Hid ((a2.setCell ⟨gq, 3, none⟩ (.float .f64 drag)).heap[gp]? = some (.cells #[.int .i64 sd, .float .f64 dt, .float .f64 gr, .float .f64 0, .int .i64 lim, .bool rv, .slice pr lr cr] 25)) := by show _ = _; rw [heap_set_ne NQ.out.1]; exact P4.out
        have Q5 : Hid ((a2.setCell ⟨gq, 3, none⟩ (.float .f64 drag)).heap[gq]? = some (.cells #[.int .i64 sd, .float .f64 dt, .float .f64 gr, .float .f64 drag, .int .i64 lim, .bool rv, .slice pr lr cr] 25)) := one_set Q4.out
        have S5 : Hid ((a2.setCell ⟨gq, 3, none⟩ (.float .f64 drag)).heap[gs]? = some (.cells #[.slice (some ⟨bb, bo, none⟩) lb cb, .slice (some ⟨wb, wo, none⟩) lw cw, .slice pt lt ct, .slice (some ⟨sb, so, none⟩) ls cs, .int .i64 sky, .int .i64 st] 29)) := by show _ = _; rw [heap_set_ne NQ.out.2.1]; exact S4.out
        have T5 : Hid ((a2.setCell ⟨gq, 3, none⟩ (.float .f64 drag)).heap[gt]? = some (.cells #[.slice (some ⟨tb, 0, none⟩) lb (lb + 9), .slice (some ⟨tw, 0, none⟩) lw (lw + 9), .slice (some ⟨tt, 0, none⟩) lt (lt + 9), .slice (some ⟨ts, 0, none⟩) ls (ls + 9), .int .i64 sky, .int .i64 st] 29)) := by show _ = _; rw [heap_set_ne NQ.out.2.2.1]; exact T4.out
        have W5 : Hid (Ab w (a2.setCell ⟨gq, 3, none⟩ (.float .f64 drag))) := Ab.setk W4.out NQ.out.2.2.2.2 _
        have G5 := hid (grid_plan (k := 3) (v := .float .f64 drag) HN.out G4.out Q4.out (by simp))
        have TB5 := hid (isFl_set (k := 3) (x := .float .f64 drag) TB4.out NQ.out.2.2.2.1.1)
        have TW5 := hid (isIn_set (k := 3) (x := .float .f64 drag) TW4.out NQ.out.2.2.2.1.2.1)
        have TS5 := hid (isFl_set (k := 3) (x := .float .f64 drag) TS4.out NQ.out.2.2.2.1.2.2)
        clear P4 Q4 S4 T4 W4 G4 TB4 TW4 TS4 TL NQ GPW
        generalize World.setCell a2 _ _ = a3 at *
        go_wp2
        go_loopw [13] (fun iv wr => ∃ k : Nat, k ≤ ls ∧ iv = .int .i64 (k : Nat) ∧ Ab a3 wr) (fun iv _ => ls - (intOf iv).toNat)
        case atStart => exact ⟨0, by omega, rfl, Ab.refl _⟩
        case round =>
          obtain ⟨k, hk, rfl, x1⟩ := hrel
          have AR := hid x1
          clear x1
          have AW : Hid (Ab w wr) := W5.out.trans AR.out
          have GR := hid (G5.out.to AR.out)
          have SR := hid (Ab.heap AR.out S5.out)
          have TR := hid (Ab.heap AR.out T5.out)
          have c3 := cell_of_row _ _ 3 _ _ _ TR.out
          by_cases hkn : k < ls
          · have HK := hid hkn
            have kI : (k : Int) < ls := by omega
            have kB : (k : Int) ≤ 65536 := by have := NB.out; omega
            obtain ⟨l1, l2⟩ := LR.out k hkn
            have HX := hid (XC.out k hkn)
            have CE : Hid (∀ v, Ab wr v → Calls Tryd.prog 14 #[.pointer (some ⟨gb, 0, none⟩), .int .i64 (k : Nat)] v fun e w' => e = .returned (.tuple #[.agg #[.int .i64 (L k : Nat), .int .i64 (sL k : Nat), .int .i64 (R k : Nat), .int .i64 (sR k : Nat)], .bool true]) ∧ Below v.heap.size v w') := fun v hv => EG.out gb v (AW.out.trans hv) (GR.out.to hv) k hkn
            have AR_lc : Hid (∀ v, Ab wr v → Calls Tryd.prog 17 #[.pointer (some ⟨gb, 0, none⟩), .int .i64 (L k : Nat)] v fun e w' => e = .returned (.int .i64 (ar (L k))) ∧ Below v.heap.size v w') := fun v hv => GA.out gb v (AW.out.trans hv) (GR.out.to hv) _ l1
            have AR_rc : Hid (∀ v, Ab wr v → Calls Tryd.prog 17 #[.pointer (some ⟨gb, 0, none⟩), .int .i64 (R k : Nat)] v fun e w' => e = .returned (.int .i64 (ar (R k))) ∧ Below v.heap.size v w') := fun v hv => GA.out gb v (AW.out.trans hv) (GR.out.to hv) _ l2
            have LE_lc : Hid (∀ v, Calls Tryd.prog 16 #[.float .f64 (B (L k)), .int .i64 (Wt (L k)), .int .i64 (ar (L k))] v fun e w' => e = .returned (.float .f64 (lvl (B (L k)) (Wt (L k)) (ar (L k)))) ∧ Below v.heap.size v w') := fun v => LE.out v _ l1
            have LE_rc : Hid (∀ v, Calls Tryd.prog 16 #[.float .f64 (B (R k)), .int .i64 (Wt (R k)), .int .i64 (ar (R k))] v fun e w' => e = .returned (.float .f64 (lvl (B (R k)) (Wt (R k)) (ar (R k)))) ∧ Below v.heap.size v w') := fun v => LE.out v _ l2
            have lB1 : L k < lb := by rw [EQ.out.1]; exact l1
            have rB1 : R k < lb := by rw [EQ.out.1]; exact l2
            have CB_lc : Hid (∀ v, Ab wr v → v.cell? ⟨bb, bo + L k, none⟩ = some (.float .f64 (B (L k)))) := fun v hv => (((IB.out.below (AW.out.trans hv)).at0 lB1).2.2)
            have CB_rc : Hid (∀ v, Ab wr v → v.cell? ⟨bb, bo + R k, none⟩ = some (.float .f64 (B (R k)))) := fun v hv => (((IB.out.below (AW.out.trans hv)).at0 rB1).2.2)
            have CW_lc : Hid (∀ v, Ab wr v → v.cell? ⟨wb, wo + L k, none⟩ = some (.int .i64 (Wt (L k)))) := fun v hv => (((IW.out.below (AW.out.trans hv)).at0 l1).2.2)
            have CW_rc : Hid (∀ v, Ab wr v → v.cell? ⟨wb, wo + R k, none⟩ = some (.int .i64 (Wt (R k)))) := fun v hv => (((IW.out.below (AW.out.trans hv)).at0 l2).2.2)
            have CSU : Hid (∀ v, Ab wr v → Calls Tryd.prog 18 #[.pointer (some ⟨gb, 0, none⟩), .agg #[.int .i64 sd, .float .f64 dt, .float .f64 gr, .float .f64 0, .int .i64 lim, .bool rv, .slice pr lr cr], .agg #[.slice (some ⟨tb, 0, none⟩) lb (lb + 9), .slice (some ⟨tw, 0, none⟩) lw (lw + 9), .slice (some ⟨tt, 0, none⟩) lt (lt + 9), .slice (some ⟨ts, 0, none⟩) ls (ls + 9), .int .i64 sky, .int .i64 st], .int .i64 (k : Nat)] v fun e w' => e = .returned (.float .f64 (X k)) ∧ Below v.heap.size v w') := fun v hv => SPU.out gb tb tw tt ts v (AW.out.trans hv) (GR.out.to hv) (TB5.out.below (AR.out.trans hv)) (TW5.out.below (AR.out.trans hv)) (TS5.out.below (AR.out.trans hv)) k hkn
            have CSV : Hid (∀ v, Ab wr v → Calls Tryd.prog 18 #[.pointer (some ⟨gb, 0, none⟩), .agg #[.int .i64 sd, .float .f64 dt, .float .f64 gr, .float .f64 drag, .int .i64 lim, .bool rv, .slice pr lr cr], .agg #[.slice (some ⟨tb, 0, none⟩) lb (lb + 9), .slice (some ⟨tw, 0, none⟩) lw (lw + 9), .slice (some ⟨tt, 0, none⟩) lt (lt + 9), .slice (some ⟨ts, 0, none⟩) ls (ls + 9), .int .i64 sky, .int .i64 st], .int .i64 (k : Nat)] v fun e w' => e = .returned (.float .f64 (Y k)) ∧ Below v.heap.size v w') := fun v hv => SPV.out gb tb tw tt ts v (AW.out.trans hv) (GR.out.to hv) (TB5.out.below (AR.out.trans hv)) (TW5.out.below (AR.out.trans hv)) (TS5.out.below (AR.out.trans hv)) k hkn
            generalize lvl (B (L k)) (Wt (L k)) (ar (L k)) = va at *
            generalize lvl (B (R k)) (Wt (R k)) (ar (R k)) = vb at *
            generalize ar (L k) = al at *
            generalize ar (R k) = ar' at *
            generalize B (L k) = blc at *
            generalize B (R k) = brc at *
            generalize Wt (L k) = wlc at *
            generalize Wt (R k) = wrc at *
            generalize L k = lc at *
            generalize R k = rc at *
            generalize sL k = sl at *
            generalize sR k = sr at *
            generalize X k = xu at *
            generalize Y k = xv at *
            have lI : (lc : Int) < lw := by omega
            have rI : (rc : Int) < lw := by omega
            have lB : (lc : Int) < lb := by omega
            have rB : (rc : Int) < lb := by omega
            clear hkn hk l1 l2 lB1 rB1
            go_wp2_with fail
            refine (CE.out _ (Ab.refl _)).mono ?_
            rintro e9 v6 ⟨rfl, k6⟩
            have A6 : Hid (Ab wr v6) := k6
            clear k6 CE c3
            have S6 := hid (Ab.heap A6.out SR.out)
            go_upto_region 20 with fail
            obtain ⟨ge, hge⟩ : ∃ g, v6.heap.size = g := ⟨_, rfl⟩
            have E_v7 := hid (heap_alloc_new v6 (.cells #[.int .i64 (lc : Nat), .int .i64 (sl : Nat), .int .i64 (rc : Nat), .int .i64 (sr : Nat)] 39))
            have A_v7 : Hid (Ab wr (v6.alloc (.cells #[.int .i64 (lc : Nat), .int .i64 (sl : Nat), .int .i64 (rc : Nat), .int .i64 (sr : Nat)] 39))) := A6.out.trans (bl1 _ _)
            have S_v7 : Hid ((v6.alloc (.cells #[.int .i64 (lc : Nat), .int .i64 (sl : Nat), .int .i64 (rc : Nat), .int .i64 (sr : Nat)] 39)).heap[gs]? = _) := Ab.heap (bl1 _ _) S6.out
            generalize hV : v6.alloc (.cells #[.int .i64 (lc : Nat), .int .i64 (sl : Nat), .int .i64 (rc : Nat), .int .i64 (sr : Nat)] 39) = v7 at *
            rw [hge] at E_v7 ⊢
            clear hV hge S6 A6
            obtain ⟨UU, E, hF1, hF2⟩ := cls v7
            have HU := hid hF2
            have HU1 := hid hF1
            have s0 : ∀ u, (E u).cell? ⟨gs, 0, none⟩ = some (.slice (some ⟨bb, bo, none⟩) lb cb) := fun u => cell_of_row _ _ 0 _ _ _ ((hF1 u).heap S_v7.out)
            have s1 : ∀ u, (E u).cell? ⟨gs, 1, none⟩ = some (.slice (some ⟨wb, wo, none⟩) lw cw) := fun u => cell_of_row _ _ 1 _ _ _ ((hF1 u).heap S_v7.out)
            have s2 : ∀ u, (E u).cell? ⟨ge, 0, none⟩ = some (.int .i64 (lc : Nat)) := fun u => cell_of_row _ _ 0 _ _ _ ((hF1 u).heap E_v7.out)
            have s3 : ∀ u, (E u).cell? ⟨bb, bo + lc, none⟩ = some (.float .f64 (blc)) := fun u => CB_lc.out _ (A_v7.out.trans (hF1 u))
            have s4 : ∀ u, (E u).cell? ⟨wb, wo + lc, none⟩ = some (.int .i64 (wlc)) := fun u => CW_lc.out _ (A_v7.out.trans (hF1 u))
            have HX : Hid (∀ u, Ab wr (E u)) := fun u => A_v7.out.trans (hF1 u)
            have DD0 := HU.out _ (Ab.refl v7).drew
            clear hF1 hF2
            refine region_cls E (by kernel_rfl) (by kernel_rfl) DD0 ?_
            repeat (go_big_quiet_step (first
              | (with_reducible rfl)
              | (go_at_call 17; exact calls_cls HU HU1 (AR_lc.out _ (HX.out _)))
              | (go_at_call 16; exact calls_cls HU HU1 (LE_lc.out _))))
            refine wpQuiet_nil ?_
            intro z_v7 hwz
            obtain ⟨u0, hu⟩ := hwz
            have AZ : Hid (Ab v7 z_v7) := by rw [hu]; exact HU1.out u0
            clear hu u0
            clear HU HU1 HX DD0 s0 s1 s2 s3 s4
            clear E UU
            have A_z_v7 : Hid (Ab wr z_v7) := A_v7.out.trans AZ.out
            have S_z_v7 := hid (Ab.heap AZ.out S_v7.out)
            have E_z_v7 := hid (Ab.heap AZ.out E_v7.out)
            clear AZ A_v7 S_v7 E_v7
            go_wp2_with fail
            obtain ⟨UU, E, hF1, hF2⟩ := cls z_v7
            have HU := hid hF2
            have HU1 := hid hF1
            have s0 : ∀ u, (E u).cell? ⟨gs, 0, none⟩ = some (.slice (some ⟨bb, bo, none⟩) lb cb) := fun u => cell_of_row _ _ 0 _ _ _ ((hF1 u).heap S_z_v7.out)
            have s1 : ∀ u, (E u).cell? ⟨gs, 1, none⟩ = some (.slice (some ⟨wb, wo, none⟩) lw cw) := fun u => cell_of_row _ _ 1 _ _ _ ((hF1 u).heap S_z_v7.out)
            have s2 : ∀ u, (E u).cell? ⟨ge, 2, none⟩ = some (.int .i64 (rc : Nat)) := fun u => cell_of_row _ _ 2 _ _ _ ((hF1 u).heap E_z_v7.out)
            have s3 : ∀ u, (E u).cell? ⟨bb, bo + rc, none⟩ = some (.float .f64 (brc)) := fun u => CB_rc.out _ (A_z_v7.out.trans (hF1 u))
            have s4 : ∀ u, (E u).cell? ⟨wb, wo + rc, none⟩ = some (.int .i64 (wrc)) := fun u => CW_rc.out _ (A_z_v7.out.trans (hF1 u))
            have HX : Hid (∀ u, Ab wr (E u)) := fun u => A_z_v7.out.trans (hF1 u)
            have DD0 := HU.out _ (Ab.refl z_v7).drew
            clear hF1 hF2
            refine region_cls E (by kernel_rfl) (by kernel_rfl) DD0 ?_
            repeat (go_big_quiet_step (first
              | (with_reducible rfl)
              | (go_at_call 17; exact calls_cls HU HU1 (AR_rc.out _ (HX.out _)))
              | (go_at_call 16; exact calls_cls HU HU1 (LE_rc.out _))))
            refine wpQuiet_nil ?_
            intro z_z_v7 hwz
            obtain ⟨u0, hu⟩ := hwz
            have AZ : Hid (Ab z_v7 z_z_v7) := by rw [hu]; exact HU1.out u0
            clear hu u0
            clear HU HU1 HX DD0 s0 s1 s2 s3 s4
            clear E UU
            have A_z_z_v7 : Hid (Ab wr z_z_v7) := A_z_v7.out.trans AZ.out
            have S_z_z_v7 := hid (Ab.heap AZ.out S_z_v7.out)
            have E_z_z_v7 := hid (Ab.heap AZ.out E_z_v7.out)
            clear AZ A_z_v7 S_z_v7 E_z_v7
            clear LE_lc LE_rc AR_lc AR_rc CB_lc CB_rc CW_lc CW_rc E_z_z_v7 S_z_z_v7
            have T8 := hid (Ab.heap A_z_z_v7.out TR.out)
            have P8 := hid (Ab.heap (AR.out.trans A_z_z_v7.out) P5.out)
            have p0 := cell_of_row _ _ 0 _ _ _ P8.out
            have p1 := cell_of_row _ _ 1 _ _ _ P8.out
            have p2 := cell_of_row _ _ 2 _ _ _ P8.out
            have p3 := cell_of_row _ _ 3 _ _ _ P8.out
            have p4 := cell_of_row _ _ 4 _ _ _ P8.out
            have p5 := cell_of_row _ _ 5 _ _ _ P8.out
            have p6 := cell_of_row _ _ 6 _ _ _ P8.out
            have c0 := cell_of_row _ _ 0 _ _ _ T8.out
            have c1 := cell_of_row _ _ 1 _ _ _ T8.out
            have c2 := cell_of_row _ _ 2 _ _ _ T8.out
            have c3 := cell_of_row _ _ 3 _ _ _ T8.out
            have c4 := cell_of_row _ _ 4 _ _ _ T8.out
            have c5 := cell_of_row _ _ 5 _ _ _ T8.out
            go_wp2_with fail
            refine (CSU.out _ A_z_z_v7.out).mono ?_
            rintro e9 v9 ⟨rfl, k9⟩
            have A9 : Hid (Ab wr v9) := A_z_z_v7.out.call k9
            clear k9 p0 p1 p2 p3 p4 p5 p6 c0 c1 c2 c3 c4 c5 T8 P8 A_z_z_v7
            have T8 := hid (Ab.heap A9.out TR.out)
            have P8 := hid (Ab.heap (AR.out.trans A9.out) Q5.out)
            have p0 := cell_of_row _ _ 0 _ _ _ P8.out
            have p1 := cell_of_row _ _ 1 _ _ _ P8.out
            have p2 := cell_of_row _ _ 2 _ _ _ P8.out
            have p3 := cell_of_row _ _ 3 _ _ _ P8.out
            have p4 := cell_of_row _ _ 4 _ _ _ P8.out
            have p5 := cell_of_row _ _ 5 _ _ _ P8.out
            have p6 := cell_of_row _ _ 6 _ _ _ P8.out
            have c0 := cell_of_row _ _ 0 _ _ _ T8.out
            have c1 := cell_of_row _ _ 1 _ _ _ T8.out
            have c2 := cell_of_row _ _ 2 _ _ _ T8.out
            have c3 := cell_of_row _ _ 3 _ _ _ T8.out
            have c4 := cell_of_row _ _ 4 _ _ _ T8.out
            have c5 := cell_of_row _ _ 5 _ _ _ T8.out
            go_wp2_with fail
            refine (CSV.out _ A9.out).mono ?_
            rintro e9 v10 ⟨rfl, k9⟩
            have A10 : Hid (Ab wr v10) := A9.out.call k9
            clear k9 p0 p1 p2 p3 p4 p5 p6 c0 c1 c2 c3 c4 c5 T8 P8 A9
            obtain ⟨q1, hq1⟩ : ∃ b, fgt va vb = b := ⟨_, rfl⟩
            obtain ⟨q2, hq2⟩ : ∃ b, flt va vb = b := ⟨_, rfl⟩
            cases q1
            · cases q2
              · go_wp2
                exact ⟨⟨k + 1, by have := HK.out; omega, by simp, AR.out.trans A10.out⟩, by have := HK.out; simp [intOf]; omega⟩
              · obtain ⟨y1, y2, y3⟩ := HX.out.2 hq2
                go_wp2
                exact ⟨⟨k + 1, by have := HK.out; omega, by simp, AR.out.trans A10.out⟩, by have := HK.out; simp [intOf]; omega⟩
            · obtain ⟨x1, x2, x3⟩ := HX.out.1 hq1
              cases q2
              · go_wp2
                exact ⟨⟨k + 1, by have := HK.out; omega, by simp, AR.out.trans A10.out⟩, by have := HK.out; simp [intOf]; omega⟩
              · obtain ⟨y1, y2, y3⟩ := HX.out.2 hq2
                go_wp2
                exact ⟨⟨k + 1, by have := HK.out; omega, by simp, AR.out.trans A10.out⟩, by have := HK.out; simp [intOf]; omega⟩
          · have hkl : ls = k := by omega
            subst hkl
            go_wp2
            go_ret
            exact ⟨rfl, AW.out⟩
  · have A2 : Hid (Ab w v2) := A1.out.call k1
    clear k1 A1 P1 S1 c0 c1 c2 c3 c4 c5 LV NT
    go_wp2
    go_ret
    exact ⟨rfl, A2.out⟩
set_option maxRecDepth 100000 in
set_option maxHeartbeats 8000000 in
theorem falls16_nil (side : Int) (sd : Int) (dt gr dr : Nat) (lim : Int) (rv : Bool) (pr : Option Addr) (lr cr : Nat) (pb : Option Addr) (lb cb : Nat) (pw : Option Addr) (lw cw : Nat) (pt : Option Addr) (lt ct : Nat) (ps : Option Addr) (ls cs : Nat) (sky st : Int) (drag : Nat) (w : World)
    (LV : Hid (∀ v, Ab w v → Calls Tryd.prog 9 #[] v fun e w' => e = .returned (.bool true) ∧ Below v.heap.size v w'))
    (NT : Hid (∀ v, Ab w v → Calls Tryd.prog 10 #[.int .i64 side, .agg #[.slice pb lb cb, .slice pw lw cw, .slice pt lt ct, .slice ps ls cs, .int .i64 sky, .int .i64 st]] v fun e w' => e = .returned (.pointer none) ∧ Below v.heap.size v w')) :
    Calls Tryd.prog 7 #[.int .i64 side, .agg #[.int .i64 sd, .float .f64 dt, .float .f64 gr, .float .f64 dr, .int .i64 lim, .bool rv, .slice pr lr cr], .agg #[.slice pb lb cb, .slice pw lw cw, .slice pt lt ct, .slice ps ls cs, .int .i64 sky, .int .i64 st], .float .f64 drag] w fun e w' => e = .returned (.bool true) ∧ Below w.heap.size w w' := by
  have A0 : Hid (Ab w ((w.alloc (.cells #[.int .i64 sd, .float .f64 dt, .float .f64 gr, .float .f64 dr, .int .i64 lim, .bool rv, .slice pr lr cr] 25)).alloc (.cells #[.slice pb lb cb, .slice pw lw cw, .slice pt lt ct, .slice ps ls cs, .int .i64 sky, .int .i64 st] 29))) := bl2 _ _ _
  have S0 : Hid (((w.alloc (.cells #[.int .i64 sd, .float .f64 dt, .float .f64 gr, .float .f64 dr, .int .i64 lim, .bool rv, .slice pr lr cr] 25)).alloc (.cells #[.slice pb lb cb, .slice pw lw cw, .slice pt lt ct, .slice ps ls cs, .int .i64 sky, .int .i64 st] 29)).heap[w.heap.size + 1]? = some (.cells #[.slice pb lb cb, .slice pw lw cw, .slice pt lt ct, .slice ps ls cs, .int .i64 sky, .int .i64 st] 29)) := heap_alloc2_new _ _ _
  go_enter Tryd.func7, Tryd.ntmps7
  go_upto_region 1 with fail
  obtain ⟨gs, hgs⟩ : ∃ g, w.heap.size + 1 = g := ⟨_, rfl⟩
  generalize hW : World.alloc (World.alloc w _) _ = W at *
  rw [hgs] at S0 ⊢
  clear hgs hW
  go_wp2_with fail
  refine (LV.out _ A0.out).mono ?_
  rintro e9 v1 ⟨rfl, k1⟩
  have A1 : Hid (Ab w v1) := A0.out.call k1
  have S1 := hid (Ab.heap k1 S0.out)
  clear k1 A0 S0
  have c0 := cell_of_row _ _ 0 _ _ _ S1.out
  have c1 := cell_of_row _ _ 1 _ _ _ S1.out
  have c2 := cell_of_row _ _ 2 _ _ _ S1.out
  have c3 := cell_of_row _ _ 3 _ _ _ S1.out
  have c4 := cell_of_row _ _ 4 _ _ _ S1.out
  have c5 := cell_of_row _ _ 5 _ _ _ S1.out
  go_wp2_with fail
  refine (NT.out _ A1.out).mono ?_
  rintro e9 v2 ⟨rfl, k1⟩
  have A2 : Hid (Ab w v2) := A1.out.call k1
  clear k1 A1 S1 c0 c1 c2 c3 c4 c5 LV NT
  go_wp2
  go_ret
  exact ⟨rfl, A2.out⟩
/-- WATER IS DRAWN DOWNWARDS -/
theorem falls16_at (OC : OpenC) (SC : SpeedsC) (VC : SpeedC) (side : Int) (sd : Int) (dt gr dr : Nat) (lim : Int) (rv : Bool) (pr : Option Addr) (lr cr : Nat) (pb : Option Addr) (lb cb : Nat) (B : Nat → Nat) (pw : Option Addr) (lw cw : Nat) (Wt : Nat → Int) (pt : Option Addr) (lt ct : Nat) (ps : Option Addr) (ls cs : Nat) (Sp : Nat → Nat) (sky st : Int) (Tr : Nat → Int) (drag : Nat) (w : World) (hF : Fr w) (IB : IsFl w pb lb B) (IW : IsIn w pw lw Wt) (IS : IsFl w ps ls Sp) (hp : dt < 18446744073709551616 ∧ gr < 18446744073709551616 ∧ dr < 18446744073709551616) (IT : IsIn w pt lt Tr) (hd : drag < 18446744073709551616) :
    Calls Tryd.prog 7 #[.int .i64 side, .agg #[.int .i64 sd, .float .f64 dt, .float .f64 gr, .float .f64 dr, .int .i64 lim, .bool rv, .slice pr lr cr], .agg #[.slice pb lb cb, .slice pw lw cw, .slice pt lt ct, .slice ps ls cs, .int .i64 sky, .int .i64 st], .float .f64 drag] w fun x w' => x = .returned (.bool true) ∧ Below w.heap.size w w' := by
  by_cases h : ∃ n : Nat, side = (n : Int) ∧ (1 ≤ n ∧ n ≤ 32) ∧ fit4 n lb lw lt ls
  · obtain ⟨n, rfl, hn, hf⟩ := h
    obtain ⟨m1, m2, m3, m4⟩ := n6_16 hn
    have hf2 := hf
    obtain ⟨f1, f2, f3, f4⟩ := hf2
    cases hg : ((fgt gr 0 || feq gr 0) && (flt gr 4652218415073722368 || feq gr 4652218415073722368) && fgt dt 0 && (flt dt 4652218415073722368 || feq dt 4652218415073722368) && (fgt drag 0 || feq drag 0) && (flt drag 4652218415073722368 || feq drag 4652218415073722368)) with
    | false => exact falls16_short (n : Int) n sd dt gr dr lim rv pr lr cr pb lb cb pw lw cw pt lt ct ps ls cs sky st drag _ _ _ _ _ _ w hg rfl rfl rfl rfl rfl rfl (fun v hv => lives16_at OC SC v (hF.to hv)) (fun v hv => (net16_yes n pb pw pt ps lb cb lw cw lt ct ls cs sky st v (hF.to hv) hn hf).mono fun _ _ h => ⟨h.1, .inl h.2⟩)
    | true =>
      simp only [Bool.and_eq_true] at hg
      obtain ⟨⟨⟨⟨⟨q1, q2⟩, q3⟩, q4⟩, q5⟩, q6⟩ := hg
      obtain ⟨bb, bo, rfl⟩ := IB.some0 (by omega)
      obtain ⟨wb, wo, rfl⟩ := IW.some0 (by omega)
      obtain ⟨sb, so, rfl⟩ := IS.some0 (by omega)
      refine falls16_go (n : Int) n (6 * n * n) (12 * n * n) bb bo wb wo sb so sd dt gr dr lim rv pr lr cr lb cb B lw cw Wt pt lt ct ls cs Sp sky st Tr drag (spE n gr dt 0 B Wt (fun _ => 0)) (spE n gr dt drag B Wt (fun _ => 0)) (eL n) (eR n) (fun k => edT n k % 4) (fun k => mt n (edT n k) % 4) (arC n) w hn.1 m2 m1 f4 f1 f2 f3 q1 q2 q3 q4 q5 q6
        (fun v hv => lives16_at OC SC v (hF.to hv)) (fun v hv => (net16_yes n _ _ pt _ lb cb lw cw lt ct ls cs sky st v (hF.to hv) hn hf).mono fun _ _ h => ⟨h.1, .inl h.2⟩)
        (fun gb v _ g k hk => edge16 hn hk g) (fun gb v _ g c hc => gArea_ok hn hc g) (fun v c hc => ?_) (fun v hv => copied16_at _ _ pt _ lb cb lw cw lt ct ls cs B Wt Tr Sp sky st v (IB.below hv) (IW.below hv) (IT.below hv) (IS.below hv) (by omega))
        (fun gb tb tw tt ts v hv g i1 i2 i3 k hk => (VC n gb sd dt gr 0 lim rv pr lr cr _ lb (lb + 9) B _ lw (lw + 9) Wt (some ⟨tt, 0, none⟩) lt (lt + 9) _ ls (ls + 9) (fun _ => 0) sky st (k : Int) v hn g i1 i2 i3 ⟨hp.1, hp.2.1, by decide⟩ (by omega)).1 ⟨hf, inR_true hk⟩)
        (fun gb tb tw tt ts v hv g i1 i2 i3 k hk => (VC n gb sd dt gr drag lim rv pr lr cr _ lb (lb + 9) B _ lw (lw + 9) Wt (some ⟨tt, 0, none⟩) lt (lt + 9) _ ls (ls + 9) (fun _ => 0) sky st (k : Int) v hn g i1 i2 i3 ⟨hp.1, hp.2.1, hd⟩ (by omega)).1 ⟨hf, inR_true hk⟩)
        IB IW (fun k hk => ⟨(ends16 hn.1 hk).1, (ends16 hn.1 hk).2.1⟩) (fun k hk => ?_)
      · exact (level_at (B c) (Wt c) (arC n c) v (IB.at0 (by rw [f1]; exact hc)).1 (IW.at0 (by rw [f2]; exact hc)).1 (arC_in n c).2).mono fun _ _ h => ⟨h.1, by obtain ⟨_, q, rfl⟩ := h; exact Ab.drewN (Ab.refl _) q⟩
      · obtain ⟨c1, c2, c3⟩ := ends16 hn.1 hk
        have hB : ∀ c, c < 6 * n * n → B c < 18446744073709551616 := fun c hc => (IB.at0 (by rw [f1]; exact hc)).1
        have hW : ∀ c, c < 6 * n * n → Wt c ≤ 9223372036854775807 := fun c hc => (IW.at0 (by rw [f2]; exact hc)).1
        have F := falls_sp (ll := lvC n B Wt (eL n k)) (lr := lvC n B Wt (eR n k)) (dl := dpC n Wt (eL n k)) (dr := dpC n Wt (eR n k)) (gap := gpE n k) hp.2.1 hp.1 hd q1 q2 q3 q4 q5 q6 (gp_le hn hk) (lvl_lt (hB _ c1) (hW _ c1) (arC_in n _).2) (lvl_lt (hB _ c2) (hW _ c2) (arC_in n _).2) (dpB_lt16 (hW _ c1) (arC_in n _).2) (dpB_lt16 (hW _ c2) (arC_in n _).2)
        have z : flt 0 0 = false ∧ fgt 0 0 = false := by decide
        unfold spE
        by_cases o : opE n B Wt k = true
        · rw [if_pos o, if_pos o]; exact F
        · rw [if_neg o, if_neg o]
          exact ⟨fun _ => ⟨z.1, z.1, z.2⟩, fun _ => ⟨z.2, z.2, z.1⟩⟩
  · exact falls16_nil side sd dt gr dr lim rv pr lr cr pb lb cb pw lw cw pt lt ct ps ls cs sky st drag w (fun v hv => lives16_at OC SC v (hF.to hv)) (fun v hv => net16_nil side pb pw pt ps lb cb lw cw lt ct ls cs sky st v (hF.to hv) h)
end Fc
end Go.Proofs.YtpfoohpncbkkfaaDoor
