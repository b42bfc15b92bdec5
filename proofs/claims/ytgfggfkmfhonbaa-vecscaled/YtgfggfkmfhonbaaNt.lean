/-
  The statement on vectors doubled: the walk.
-/
import Derived.Test.YtgfggfkmfhonbaaNs
import Derived.Test.YtgfggfkmfhonbaaNg
namespace Go.Proofs.Ytgfggfkmfhonbaa
open Go.RowKit Tf
attribute [local go_sem] run_bits run_from raw_feq raw_fne raw_flt raw_fgt run_neg run_store_float
theorem run_two {P : Program} {x : Nat} (hx : x < 18446744073709551616) (h : Md x) : ∀ (w : World) (t : TypeId), (binOp .mul t (.float .f64 4611686018427387904) (.float .f64 x)).run P w = .ok (.float .f64 (db x)) w := by
  intro w t
  have e := mul_d 4611686018427387904 x (by decide) hx (by decide) h.fin
  have k := mlB_some e
  rw [two_db hx h] at k
  rw [← k] at e
  exact run_float_arith w .mul t .f64 _ x _ e
theorem in1_zero {x : Nat} (hx : x < 18446744073709551616) (h : feq x 0 = true) : In1 x := by
  rw [feq_rk x 0 hx (by decide)] at h
  simp at h
  have h2 := h.2
  rw [show rk 0 = 0 by decide] at h2
  left
  unfold rk at h2
  cases k : ng x
  · rw [k] at h2; simpa using h2
  · rw [k] at h2; simp at h2; omega
theorem in1_of {x : Nat} (hx : x < 18446744073709551616) (h1 : feq x x = true) (h2 : fgt x 6103021453049119613 = false) (h3 : flt x 15326393489903895421 = false) (h4 : fgt x 12334232581352326448 = false ∨ flt x 3110860544497550640 = false) : In1 x := by
  rw [feq_rk x x hx hx] at h1
  have hN : isN x = false := by
    cases k : isN x
    · rfl
    · rw [k] at h1; simp at h1
  rw [fgt_rk x _ hx (by decide), hN, show isN 6103021453049119613 = false by decide, show rk 6103021453049119613 = 6103021453049119613 by decide] at h2
  rw [flt_rk x _ hx (by decide), hN, show isN 15326393489903895421 = false by decide, show rk 15326393489903895421 = -6103021453049119613 by decide] at h3
  rw [fgt_rk x _ hx (by decide), hN, show isN 12334232581352326448 = false by decide, show rk 12334232581352326448 = -3110860544497550640 by decide, flt_rk x _ hx (by decide), hN, show isN 3110860544497550640 = false by decide, show rk 3110860544497550640 = 3110860544497550640 by decide] at h4
  simp at h2 h3 h4
  right
  unfold rk at h2 h3 h4
  cases k : ng x
  · rw [k] at h2 h3 h4; simp at h2 h3 h4; omega
  · rw [k] at h2 h3 h4; simp at h2 h3 h4; omega
/-- the six numbers -/
def six6 (x y z u v t : Nat) (j : Nat) : Nat := if j = 0 then x else if j = 1 then y else if j = 2 then z else if j = 3 then u else if j = 4 then v else t
set_option maxHeartbeats 16000000 in
set_option maxRecDepth 100000 in
theorem vecScaled_walk (x y z u v t : Nat) (w : World) (hx : x < 18446744073709551616) (hy : y < 18446744073709551616) (hz : z < 18446744073709551616) (hu : u < 18446744073709551616) (hv : v < 18446744073709551616) (ht : t < 18446744073709551616) :
    Calls Try.prog 3 #[.agg #[.float .f64 x, .float .f64 y, .float .f64 z], .agg #[.float .f64 u, .float .f64 v, .float .f64 t]] w fun e w' => e = .returned (.bool true) ∧ Below w.heap.size w w' := by
  have LV := hid (fun w => lives7_at w)
  have MI := hid (fun x y z u v t w (hx : Hid (x < 18446744073709551616)) (hy : Hid (y < 18446744073709551616)) (hz : Hid (z < 18446744073709551616)) (hu : Hid (u < 18446744073709551616)) (hv : Hid (v < 18446744073709551616)) (ht : Hid (t < 18446744073709551616)) => minus_at x y z u v t w hx hy hz hu hv ht)
  have CR := hid (fun x y z u v t w (hx : Hid (x < 18446744073709551616)) (hy : Hid (y < 18446744073709551616)) (hz : Hid (z < 18446744073709551616)) (hu : Hid (u < 18446744073709551616)) (hv : Hid (v < 18446744073709551616)) (ht : Hid (t < 18446744073709551616)) => cross_at x y z u v t w hx hy hz hu hv ht)
  have LN := hid (fun x y z w (hx : Hid (x < 18446744073709551616)) (hy : Hid (y < 18446744073709551616)) (hz : Hid (z < 18446744073709551616)) => length_at x y z w hx hy hz)
  have UN := hid (fun x y z w (hx : Hid (x < 18446744073709551616)) (hy : Hid (y < 18446744073709551616)) (hz : Hid (z < 18446744073709551616)) => unit_at x y z w hx hy hz)
  have AT := hid (fun x y z w => at_at x y z w)
  have CN := hid (fun x w (hx : Hid (x < 18446744073709551616)) => canon_b x w hx)
  have SA := hid (fun a b w (h : a = b) => same_of a b w h)
  have AL := hid (fun x y z p q r w (h : x = p ∧ y = q ∧ z = r) => alike_of x y z p q r w h)
  have Hx := hid hx
  have Hy := hid hy
  have Hz := hid hz
  have Hu := hid hu
  have Hv := hid hv
  have Ht := hid ht
  have A0 := hid (bl2 w (.cells #[.float .f64 x, .float .f64 y, .float .f64 z] 24) (.cells #[.float .f64 u, .float .f64 v, .float .f64 t] 24))
  have R0 := hid (And.intro (heap_alloc2_old w (.cells #[.float .f64 x, .float .f64 y, .float .f64 z] 24) (.cells #[.float .f64 u, .float .f64 v, .float .f64 t] 24)) (heap_alloc2_new w (.cells #[.float .f64 x, .float .f64 y, .float .f64 z] 24) (.cells #[.float .f64 u, .float .f64 v, .float .f64 t] 24)))
  clear hx hy hz hu hv ht
  go_enter Try.func3, Try.ntmps3
  go_wp2_with fail
  refine (LV.out _).mono ?_
  rintro e v1 ⟨rfl, b1⟩
  have AW1 : Hid (Ab w v1) := Ab.call A0.out b1
  have RA1 := hid (Ab.heap b1 R0.out.1)
  have RB1 := hid (Ab.heap b1 R0.out.2)
  clear b1 A0 R0
  obtain ⟨-, xA0, xA1, xA2⟩ := rowfacts RA1.out
  obtain ⟨-, xB0, xB1, xB2⟩ := rowfacts RB1.out
  go_wp2
  generalize hV : World.alloc v1 _ = v2
  obtain ⟨gs, hgs⟩ : ∃ g, v1.heap.size = g := ⟨_, rfl⟩
  have rs : v2.heap[gs]? = some (.cells #[.float .f64 x, .float .f64 y, .float .f64 z, .float .f64 u, .float .f64 v, .float .f64 t] 22) := by rw [← hV, ← hgs]; exact heap_alloc_new _ _
  have bn : Below v1.heap.size v1 v2 := by rw [← hV]; exact bl1 _ _
  rw [hgs]
  clear hV hgs
  clear xA0 xA1 xA2 xB0 xB1 xB2
  have AW2 : Hid (Ab w v2) := AW1.out.call bn
  have RA2 := hid (Ab.heap bn RA1.out)
  have RB2 := hid (Ab.heap bn RB1.out)
  clear bn AW1 RA1 RB1
  have cs : Hid (∀ j, j < 6 → v2.cell? ⟨gs, j, none⟩ = some (.float .f64 (six6 x y z u v t j)) ∧ six6 x y z u v t j < 18446744073709551616) := by
    intro j hj
    have h := cell_of_row _ _ j _ _ _ rs
    rcases (show j = 0 ∨ j = 1 ∨ j = 2 ∨ j = 3 ∨ j = 4 ∨ j = 5 by omega) with rfl | rfl | rfl | rfl | rfl | rfl
    · exact ⟨h, Hx.out⟩
    · exact ⟨h, Hy.out⟩
    · exact ⟨h, Hz.out⟩
    · exact ⟨h, Hu.out⟩
    · exact ⟨h, Hv.out⟩
    · exact ⟨h, Ht.out⟩
  clear rs
  go_loopw [27] (fun iv wr => ∃ i : Nat, i ≤ 6 ∧ iv = .int .i64 (i : Nat) ∧ wr = v2 ∧ Hid (∀ j, j < i → In1 (six6 x y z u v t j))) (fun iv _ => 6 - (intOf iv).toNat)
  case atStart => exact ⟨0, by omega, rfl, rfl, fun j hj => by omega⟩
  case round =>
    obtain ⟨i, hi, rfl, rfl, hall⟩ := hrel
    by_cases hil : i < 6
    · obtain ⟨cx, hlt⟩ := cs.out i hil
      have hi' : (i : Int) < 6 := by omega
      obtain ⟨q, hq⟩ : ∃ q, six6 x y z u v t i = q := ⟨_, rfl⟩
      rw [hq] at cx hlt
      have HQ := hid hq
      have HI := hid hil
      have HL := hid hlt
      have NX : Hid (In1 q → ∀ j, j < i + 1 → In1 (six6 x y z u v t j)) := by
        intro hin j hj
        by_cases c : j = i
        · rw [c, HQ.out]; exact hin
        · exact hall.out j (by omega)
      clear hq hil hlt hi
      obtain ⟨p0, hp0⟩ : ∃ p, feq q 0 = p := ⟨_, rfl⟩
      obtain ⟨p1, hp1⟩ : ∃ p, feq q q = p := ⟨_, rfl⟩
      obtain ⟨p2, hp2⟩ : ∃ p, fgt q 6103021453049119613 = p := ⟨_, rfl⟩
      obtain ⟨p3, hp3⟩ : ∃ p, flt q 15326393489903895421 = p := ⟨_, rfl⟩
      obtain ⟨p4, hp4⟩ : ∃ p, fgt q 12334232581352326448 = p := ⟨_, rfl⟩
      obtain ⟨p5, hp5⟩ : ∃ p, flt q 3110860544497550640 = p := ⟨_, rfl⟩
      cases p0 with
      | true =>
        have IN := hid (NX.out (in1_zero HL.out hp0))
        clear NX HQ
        go_wp2
        have h6 := HI.out
        have h7 := IN.out
        go_roundw
        case rel => exact ⟨i + 1, by omega, by simp, by trivial, h7⟩
        case measure => simp [intOf]; omega
      | false =>
        cases p1 with
        | false =>
          clear NX HQ
          go_wp2
          go_ret
          exact ⟨rfl, AW2.out⟩
        | true =>
          cases p2 with
          | true =>
            clear NX HQ
            go_wp2
            go_ret
            exact ⟨rfl, AW2.out⟩
          | false =>
            cases p3 with
            | true =>
              clear NX HQ
              go_wp2
              go_ret
              exact ⟨rfl, AW2.out⟩
            | false =>
              cases p4 with
              | false =>
                have IN := hid (NX.out (in1_of HL.out hp1 hp2 hp3 (.inl hp4)))
                clear NX HQ
                go_wp2
                have h6 := HI.out
                have h7 := IN.out
                go_roundw
                case rel => exact ⟨i + 1, by omega, by simp, by trivial, h7⟩
                case measure => simp [intOf]; omega
              | true =>
                cases p5 with
                | true =>
                  clear NX HQ
                  go_wp2
                  go_ret
                  exact ⟨rfl, AW2.out⟩
                | false =>
                  have IN := hid (NX.out (in1_of HL.out hp1 hp2 hp3 (.inr hp5)))
                  clear NX HQ
                  go_wp2
                  have h6 := HI.out
                  have h7 := IN.out
                  go_roundw
                  case rel => exact ⟨i + 1, by omega, by simp, by trivial, h7⟩
                  case measure => simp [intOf]; omega
    · obtain rfl : i = 6 := by omega
      have Ix : In1 x := hall.out 0 (by omega)
      have Iy : In1 y := hall.out 1 (by omega)
      have Iz : In1 z := hall.out 2 (by omega)
      have Iu : In1 u := hall.out 3 (by omega)
      have Iv : In1 v := hall.out 4 (by omega)
      have It : In1 t := hall.out 5 (by omega)
      clear hall hil hi cs
      have kkx := run_two (P := Try.prog) Hx.out Ix.md
      have kky := run_two (P := Try.prog) Hy.out Iy.md
      have kkz := run_two (P := Try.prog) Hz.out Iz.md
      have kku := run_two (P := Try.prog) Hu.out Iu.md
      have kkv := run_two (P := Try.prog) Hv.out Iv.md
      have kkt := run_two (P := Try.prog) Ht.out It.md
      have Hdx : Hid (db x < 18446744073709551616) := db_lt Ix.md.w Hx.out
      have Hdy : Hid (db y < 18446744073709551616) := db_lt Iy.md.w Hy.out
      have Hdz : Hid (db z < 18446744073709551616) := db_lt Iz.md.w Hz.out
      have Hdu : Hid (db u < 18446744073709551616) := db_lt Iu.md.w Hu.out
      have Hdv : Hid (db v < 18446744073709551616) := db_lt Iv.md.w Hv.out
      have Hdt : Hid (db t < 18446744073709551616) := db_lt It.md.w Ht.out
      have S0 := sbB_db Hx.out Hu.out Ix.hi Iu.hi (by omega) (by omega)
      have Hm0 : Hid ((sbB x u) < 18446744073709551616) := sbB_lt Hx.out Hu.out
      have km0 := run_two (P := Try.prog) Hm0.out S0.2
      have Hn0 : Hid (db (sbB x u) < 18446744073709551616) := db_lt S0.2.w Hm0.out
      have F0 : sbB (db x) (db u) = canonB (db (sbB x u)) := S0.1.trans (can_db (canon_sbB Hx.out Hu.out) S0.2).symm
      have S1 := sbB_db Hy.out Hv.out Iy.hi Iv.hi (by omega) (by omega)
      have Hm1 : Hid ((sbB y v) < 18446744073709551616) := sbB_lt Hy.out Hv.out
      have km1 := run_two (P := Try.prog) Hm1.out S1.2
      have Hn1 : Hid (db (sbB y v) < 18446744073709551616) := db_lt S1.2.w Hm1.out
      have F1 : sbB (db y) (db v) = canonB (db (sbB y v)) := S1.1.trans (can_db (canon_sbB Hy.out Hv.out) S1.2).symm
      have S2 := sbB_db Hz.out Ht.out Iz.hi It.hi (by omega) (by omega)
      have Hm2 : Hid ((sbB z t) < 18446744073709551616) := sbB_lt Hz.out Ht.out
      have km2 := run_two (P := Try.prog) Hm2.out S2.2
      have Hn2 : Hid (db (sbB z t) < 18446744073709551616) := db_lt S2.2.w Hm2.out
      have F2 : sbB (db z) (db t) = canonB (db (sbB z t)) := S2.1.trans (can_db (canon_sbB Hz.out Ht.out) S2.2).symm
      have E1 : Hid (sbB (db x) (db u) = canonB (db (sbB x u)) ∧ sbB (db y) (db v) = canonB (db (sbB y v)) ∧ sbB (db z) (db t) = canonB (db (sbB z t))) := ⟨F0, F1, F2⟩
      obtain ⟨l1, l2⟩ := In1.ln Hx.out Hy.out Hz.out Ix Iy Iz
      have E2 : Hid (lnB (db x) (db y) (db z) = db (lnB x y z)) := l1
      have hL : (lnB x y z) < 18446744073709551616 := rtB_lt _
      have hLn : ng (lnB x y z) = false := rtB_ng _
      have kl := run_two (P := Try.prog) hL l2
      have E3 : Hid (unB (lnB (db x) (db y) (db z)) (db x) = unB (lnB x y z) x ∧ unB (lnB (db x) (db y) (db z)) (db y) = unB (lnB x y z) y ∧ unB (lnB (db x) (db y) (db z)) (db z) = unB (lnB x y z) z) := by
        rw [l1]
        exact ⟨un_db Hx.out hL hLn Ix.md l2, un_db Hy.out hL hLn Iy.md l2, un_db Hz.out hL hLn Iz.md l2⟩
      have P0 := mlB_db Hy.out Ht.out Iy.md It.md (Iy.far It)
      have Q0 := mlB_db Hz.out Hv.out Iz.md Iv.md (Iz.far Iv)
      have T0 := sbB_db (mlB_lt Hy.out Ht.out) (mlB_lt Hz.out Hv.out) (In1.prod Hy.out Ht.out Iy It) (In1.prod Hz.out Hv.out Iz Iv) (by omega) (by omega)
      have Hc0 : Hid ((sbB (mlB y t) (mlB z v)) < 18446744073709551616) := sbB_lt (mlB_lt Hy.out Ht.out) (mlB_lt Hz.out Hv.out)
      have kc0 := run_two (P := Try.prog) Hc0.out T0.2
      have P1 := mlB_db Hz.out Hu.out Iz.md Iu.md (Iz.far Iu)
      have Q1 := mlB_db Hx.out Ht.out Ix.md It.md (Ix.far It)
      have T1 := sbB_db (mlB_lt Hz.out Hu.out) (mlB_lt Hx.out Ht.out) (In1.prod Hz.out Hu.out Iz Iu) (In1.prod Hx.out Ht.out Ix It) (by omega) (by omega)
      have Hc1 : Hid ((sbB (mlB z u) (mlB x t)) < 18446744073709551616) := sbB_lt (mlB_lt Hz.out Hu.out) (mlB_lt Hx.out Ht.out)
      have kc1 := run_two (P := Try.prog) Hc1.out T1.2
      have P2 := mlB_db Hx.out Hv.out Ix.md Iv.md (Ix.far Iv)
      have Q2 := mlB_db Hy.out Hu.out Iy.md Iu.md (Iy.far Iu)
      have T2 := sbB_db (mlB_lt Hx.out Hv.out) (mlB_lt Hy.out Hu.out) (In1.prod Hx.out Hv.out Ix Iv) (In1.prod Hy.out Hu.out Iy Iu) (by omega) (by omega)
      have Hc2 : Hid ((sbB (mlB x v) (mlB y u)) < 18446744073709551616) := sbB_lt (mlB_lt Hx.out Hv.out) (mlB_lt Hy.out Hu.out)
      have kc2 := run_two (P := Try.prog) Hc2.out T2.2
      have E4 : Hid (sbB (mlB (db y) t) (mlB (db z) v) = db (sbB (mlB y t) (mlB z v)) ∧ sbB (mlB (db z) u) (mlB (db x) t) = db (sbB (mlB z u) (mlB x t)) ∧ sbB (mlB (db x) v) (mlB (db y) u) = db (sbB (mlB x v) (mlB y u))) := ⟨by rw [P0, Q0]; exact T0.1, by rw [P1, Q1]; exact T1.1, by rw [P2, Q2]; exact T2.1⟩
      clear S0 S1 S2 F0 F1 F2 l1 l2 hL hLn P0 P1 P2 Q0 Q1 Q2 T0 T1 T2 Ix Iy Iz Iu Iv It
      obtain ⟨-, xA0, xA1, xA2⟩ := rowfacts RA2.out
      go_wp2_with fail
      refine Calls.mono (AT.out _ _ _ _) ?_
      rintro e v3 ⟨rfl, b3⟩
      clear xA0 xA1 xA2
      have AW3 : Hid (Ab w v3) := AW2.out.call b3
      have RA3 := hid (Ab.heap b3 RA2.out)
      have RB3 := hid (Ab.heap b3 RB2.out)
      clear b3 AW2 RA2 RB2
      go_upto_region 10 with fail
      generalize hV : World.alloc v3 _ = v4
      obtain ⟨gc, hgn⟩ : ∃ g, v3.heap.size = g := ⟨_, rfl⟩
      have Rn : Hid (v4.heap[gc]? = some (.cells #[.float .f64 (db x), .float .f64 (db y), .float .f64 (db z)] 24)) := by rw [← hV, ← hgn]; exact heap_alloc_new _ _
      have bn : Below v3.heap.size v3 v4 := by rw [← hV]; exact bl1 _ _
      rw [hgn]
      clear hV hgn
      have AW4 : Hid (Ab w v4) := AW3.out.call bn
      have RA4 := hid (Ab.heap bn RA3.out)
      have RB4 := hid (Ab.heap bn RB3.out)
      clear bn AW3 RA3 RB3
      have RC4 := Rn
      clear Rn
      obtain ⟨-, xB0, xB1, xB2⟩ := rowfacts RB4.out
      go_wp2_with fail
      refine Calls.mono (AT.out _ _ _ _) ?_
      rintro e v5 ⟨rfl, b5⟩
      clear xB0 xB1 xB2
      have AW5 : Hid (Ab w v5) := AW4.out.call b5
      have RA5 := hid (Ab.heap b5 RA4.out)
      have RB5 := hid (Ab.heap b5 RB4.out)
      have RC5 := hid (Ab.heap b5 RC4.out)
      clear b5 AW4 RA4 RB4 RC4
      go_upto_region 11 with fail
      generalize hV : World.alloc v5 _ = v6
      obtain ⟨gd, hgn⟩ : ∃ g, v5.heap.size = g := ⟨_, rfl⟩
      have Rn : Hid (v6.heap[gd]? = some (.cells #[.float .f64 (db u), .float .f64 (db v), .float .f64 (db t)] 24)) := by rw [← hV, ← hgn]; exact heap_alloc_new _ _
      have bn : Below v5.heap.size v5 v6 := by rw [← hV]; exact bl1 _ _
      rw [hgn]
      clear hV hgn
      have AW6 : Hid (Ab w v6) := AW5.out.call bn
      have RA6 := hid (Ab.heap bn RA5.out)
      have RB6 := hid (Ab.heap bn RB5.out)
      have RC6 := hid (Ab.heap bn RC5.out)
      clear bn AW5 RA5 RB5 RC5
      have RD6 := Rn
      clear Rn
      obtain ⟨-, xA0, xA1, xA2⟩ := rowfacts RA6.out
      obtain ⟨-, xB0, xB1, xB2⟩ := rowfacts RB6.out
      go_wp2_with fail
      refine Calls.mono (MI.out _ _ _ _ _ _ _ (by assumption) (by assumption) (by assumption) (by assumption) (by assumption) (by assumption)) ?_
      rintro e v7 ⟨rfl, b7⟩
      clear xA0 xA1 xA2 xB0 xB1 xB2
      have AW7 : Hid (Ab w v7) := AW6.out.call b7
      have RA7 := hid (Ab.heap b7 RA6.out)
      have RB7 := hid (Ab.heap b7 RB6.out)
      have RC7 := hid (Ab.heap b7 RC6.out)
      have RD7 := hid (Ab.heap b7 RD6.out)
      clear b7 AW6 RA6 RB6 RC6 RD6
      go_upto_region 12 with fail
      generalize hV : World.alloc v7 _ = v8
      obtain ⟨gm, hgn⟩ : ∃ g, v7.heap.size = g := ⟨_, rfl⟩
      have Rn : Hid (v8.heap[gm]? = some (.cells #[.float .f64 (sbB x u), .float .f64 (sbB y v), .float .f64 (sbB z t)] 24)) := by rw [← hV, ← hgn]; exact heap_alloc_new _ _
      have bn : Below v7.heap.size v7 v8 := by rw [← hV]; exact bl1 _ _
      rw [hgn]
      clear hV hgn
      have AW8 : Hid (Ab w v8) := AW7.out.call bn
      have RA8 := hid (Ab.heap bn RA7.out)
      have RB8 := hid (Ab.heap bn RB7.out)
      have RC8 := hid (Ab.heap bn RC7.out)
      have RD8 := hid (Ab.heap bn RD7.out)
      clear bn AW7 RA7 RB7 RC7 RD7
      have RM8 := Rn
      clear Rn
      obtain ⟨U, F, hF1, hF2⟩ := cls v8
      have HF := hid hF2
      have HF1 := hid hF1
      have xC0 : ∀ vv, (F vv).cell? ⟨gc, 0, none⟩ = some (.float .f64 (db x)) := fun vv => cell_of_row _ _ 0 _ _ _ ((hF1 vv).heap RC8.out)
      have xC1 : ∀ vv, (F vv).cell? ⟨gc, 1, none⟩ = some (.float .f64 (db y)) := fun vv => cell_of_row _ _ 1 _ _ _ ((hF1 vv).heap RC8.out)
      have xC2 : ∀ vv, (F vv).cell? ⟨gc, 2, none⟩ = some (.float .f64 (db z)) := fun vv => cell_of_row _ _ 2 _ _ _ ((hF1 vv).heap RC8.out)
      have xD0 : ∀ vv, (F vv).cell? ⟨gd, 0, none⟩ = some (.float .f64 (db u)) := fun vv => cell_of_row _ _ 0 _ _ _ ((hF1 vv).heap RD8.out)
      have xD1 : ∀ vv, (F vv).cell? ⟨gd, 1, none⟩ = some (.float .f64 (db v)) := fun vv => cell_of_row _ _ 1 _ _ _ ((hF1 vv).heap RD8.out)
      have xD2 : ∀ vv, (F vv).cell? ⟨gd, 2, none⟩ = some (.float .f64 (db t)) := fun vv => cell_of_row _ _ 2 _ _ _ ((hF1 vv).heap RD8.out)
      have xM0 : ∀ vv, (F vv).cell? ⟨gm, 0, none⟩ = some (.float .f64 (sbB x u)) := fun vv => cell_of_row _ _ 0 _ _ _ ((hF1 vv).heap RM8.out)
      have xM1 : ∀ vv, (F vv).cell? ⟨gm, 1, none⟩ = some (.float .f64 (sbB y v)) := fun vv => cell_of_row _ _ 1 _ _ _ ((hF1 vv).heap RM8.out)
      have xM2 : ∀ vv, (F vv).cell? ⟨gm, 2, none⟩ = some (.float .f64 (sbB z t)) := fun vv => cell_of_row _ _ 2 _ _ _ ((hF1 vv).heap RM8.out)
      have D := HF.out _ (Ab.refl v8).drew
      clear hF1 hF2
      refine region_cls F (by kernel_rfl) (by kernel_rfl) D ?_
      repeat (go_big_quiet_step (first
        | (with_reducible rfl)
        | (go_at_call 10; exact calls_cls HF HF1 (MI.out _ _ _ _ _ _ _ (by assumption) (by assumption) (by assumption) (by assumption) (by assumption) (by assumption)))
        | (go_at_call 12; exact calls_cls HF HF1 (CN.out _ _ (by assumption)))
        | (go_at_call 9; exact calls_cls HF HF1 (AT.out _ _ _ _))
        | (go_at_call 11; exact calls_cls HF HF1 (AL.out _ _ _ _ _ _ _ (by first | (with_reducible exact E1.out))))))
      refine wpQuiet_nil ?_
      intro wz hwz
      obtain ⟨vv, hv⟩ := hwz
      have bz : Below v8.heap.size v8 wz := by rw [hv]; exact HF1.out vv
      clear hv vv
      clear HF HF1 D xC0 xC1 xC2 xD0 xD1 xD2 xM0 xM1 xM2
      clear F U
      obtain ⟨v9, rfl⟩ : ∃ x, x = wz := ⟨_, rfl⟩
      have AW9 : Hid (Ab w v9) := AW8.out.call bz
      have RA9 := hid (Ab.heap bz RA8.out)
      have RB9 := hid (Ab.heap bz RB8.out)
      have RC9 := hid (Ab.heap bz RC8.out)
      have RD9 := hid (Ab.heap bz RD8.out)
      have RM9 := hid (Ab.heap bz RM8.out)
      clear bz AW8 RA8 RB8 RC8 RD8 RM8
      obtain ⟨-, xA0, xA1, xA2⟩ := rowfacts RA9.out
      obtain ⟨-, xB0, xB1, xB2⟩ := rowfacts RB9.out
      go_wp2_with fail
      refine Calls.mono (CR.out _ _ _ _ _ _ _ (by assumption) (by assumption) (by assumption) (by assumption) (by assumption) (by assumption)) ?_
      rintro e v10 ⟨rfl, b10⟩
      clear xA0 xA1 xA2 xB0 xB1 xB2
      have AW10 : Hid (Ab w v10) := AW9.out.call b10
      have RA10 := hid (Ab.heap b10 RA9.out)
      have RB10 := hid (Ab.heap b10 RB9.out)
      have RC10 := hid (Ab.heap b10 RC9.out)
      have RD10 := hid (Ab.heap b10 RD9.out)
      have RM10 := hid (Ab.heap b10 RM9.out)
      clear b10 AW9 RA9 RB9 RC9 RD9 RM9
      go_upto_region 15 with fail
      generalize hV : World.alloc v10 _ = v11
      obtain ⟨gx, hgn⟩ : ∃ g, v10.heap.size = g := ⟨_, rfl⟩
      have Rn : Hid (v11.heap[gx]? = some (.cells #[.float .f64 (sbB (mlB y t) (mlB z v)), .float .f64 (sbB (mlB z u) (mlB x t)), .float .f64 (sbB (mlB x v) (mlB y u))] 24)) := by rw [← hV, ← hgn]; exact heap_alloc_new _ _
      have bn : Below v10.heap.size v10 v11 := by rw [← hV]; exact bl1 _ _
      rw [hgn]
      clear hV hgn
      have AW11 : Hid (Ab w v11) := AW10.out.call bn
      have RA11 := hid (Ab.heap bn RA10.out)
      have RB11 := hid (Ab.heap bn RB10.out)
      have RC11 := hid (Ab.heap bn RC10.out)
      have RD11 := hid (Ab.heap bn RD10.out)
      have RM11 := hid (Ab.heap bn RM10.out)
      clear bn AW10 RA10 RB10 RC10 RD10 RM10
      have RX11 := Rn
      clear Rn
      obtain ⟨U, F, hF1, hF2⟩ := cls v11
      have HF := hid hF2
      have HF1 := hid hF1
      have xA0 : ∀ vv, (F vv).cell? ⟨w.heap.size, 0, none⟩ = some (.float .f64 x) := fun vv => cell_of_row _ _ 0 _ _ _ ((hF1 vv).heap RA11.out)
      have xA1 : ∀ vv, (F vv).cell? ⟨w.heap.size, 1, none⟩ = some (.float .f64 y) := fun vv => cell_of_row _ _ 1 _ _ _ ((hF1 vv).heap RA11.out)
      have xA2 : ∀ vv, (F vv).cell? ⟨w.heap.size, 2, none⟩ = some (.float .f64 z) := fun vv => cell_of_row _ _ 2 _ _ _ ((hF1 vv).heap RA11.out)
      have xB0 : ∀ vv, (F vv).cell? ⟨w.heap.size + 1, 0, none⟩ = some (.float .f64 u) := fun vv => cell_of_row _ _ 0 _ _ _ ((hF1 vv).heap RB11.out)
      have xB1 : ∀ vv, (F vv).cell? ⟨w.heap.size + 1, 1, none⟩ = some (.float .f64 v) := fun vv => cell_of_row _ _ 1 _ _ _ ((hF1 vv).heap RB11.out)
      have xB2 : ∀ vv, (F vv).cell? ⟨w.heap.size + 1, 2, none⟩ = some (.float .f64 t) := fun vv => cell_of_row _ _ 2 _ _ _ ((hF1 vv).heap RB11.out)
      have xC0 : ∀ vv, (F vv).cell? ⟨gc, 0, none⟩ = some (.float .f64 (db x)) := fun vv => cell_of_row _ _ 0 _ _ _ ((hF1 vv).heap RC11.out)
      have xC1 : ∀ vv, (F vv).cell? ⟨gc, 1, none⟩ = some (.float .f64 (db y)) := fun vv => cell_of_row _ _ 1 _ _ _ ((hF1 vv).heap RC11.out)
      have xC2 : ∀ vv, (F vv).cell? ⟨gc, 2, none⟩ = some (.float .f64 (db z)) := fun vv => cell_of_row _ _ 2 _ _ _ ((hF1 vv).heap RC11.out)
      have xX0 : ∀ vv, (F vv).cell? ⟨gx, 0, none⟩ = some (.float .f64 (sbB (mlB y t) (mlB z v))) := fun vv => cell_of_row _ _ 0 _ _ _ ((hF1 vv).heap RX11.out)
      have xX1 : ∀ vv, (F vv).cell? ⟨gx, 1, none⟩ = some (.float .f64 (sbB (mlB z u) (mlB x t))) := fun vv => cell_of_row _ _ 1 _ _ _ ((hF1 vv).heap RX11.out)
      have xX2 : ∀ vv, (F vv).cell? ⟨gx, 2, none⟩ = some (.float .f64 (sbB (mlB x v) (mlB y u))) := fun vv => cell_of_row _ _ 2 _ _ _ ((hF1 vv).heap RX11.out)
      have D := HF.out _ (Ab.refl v11).drew
      clear hF1 hF2
      refine region_cls F (by kernel_rfl) (by kernel_rfl) D ?_
      repeat (go_big_quiet_step (first
        | (with_reducible rfl)
        | (go_at_call 15; exact calls_cls HF HF1 (LN.out _ _ _ _ (by assumption) (by assumption) (by assumption)))
        | (go_at_call 16; exact calls_cls HF HF1 (UN.out _ _ _ _ (by assumption) (by assumption) (by assumption)))
        | (go_at_call 13; exact calls_cls HF HF1 (CR.out _ _ _ _ _ _ _ (by assumption) (by assumption) (by assumption) (by assumption) (by assumption) (by assumption)))
        | (go_at_call 9; exact calls_cls HF HF1 (AT.out _ _ _ _))
        | (go_at_call 11; exact calls_cls HF HF1 (AL.out _ _ _ _ _ _ _ (by first | (with_reducible exact E3.out) | (with_reducible exact E4.out))))
        | (go_at_call 14; exact calls_cls HF HF1 (SA.out _ _ _ (by first | (with_reducible exact E2.out))))))
      refine wpQuiet_nil ?_
      intro wz hwz
      obtain ⟨vv, hv⟩ := hwz
      have bz : Below v11.heap.size v11 wz := by rw [hv]; exact HF1.out vv
      clear hv vv
      clear HF HF1 D xA0 xA1 xA2 xB0 xB1 xB2 xC0 xC1 xC2 xX0 xX1 xX2
      clear F U
      obtain ⟨v12, rfl⟩ : ∃ x, x = wz := ⟨_, rfl⟩
      have AW12 : Hid (Ab w v12) := AW11.out.call bz
      have RA12 := hid (Ab.heap bz RA11.out)
      have RB12 := hid (Ab.heap bz RB11.out)
      have RC12 := hid (Ab.heap bz RC11.out)
      have RD12 := hid (Ab.heap bz RD11.out)
      have RM12 := hid (Ab.heap bz RM11.out)
      have RX12 := hid (Ab.heap bz RX11.out)
      clear bz AW11 RA11 RB11 RC11 RD11 RM11 RX11
      go_wp2
      go_ret
      exact ⟨rfl, AW12.out⟩
end Go.Proofs.Ytgfggfkmfhonbaa
