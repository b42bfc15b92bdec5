/-
  Some of the texts of this proof, one behind the other.
-/
import Derived.Deep.QuietTactic
import Derived.Test.YtkckcohemalhiaaGreatDoorRa08
namespace Go.Proofs.YtkckcohemalhiaaGreatDoor
open Go.RowKit Tf Cu Go.Deep
attribute [local go_sem] run_bits run_from raw_feq raw_fne raw_flt raw_fgt run_neg run_store_float
namespace Rv
set_option maxRecDepth 100000 in
set_option maxHeartbeats 16000000 in
theorem less19_at (a b : Nat) (w : World) (ha : a < 18446744073709551616) (hb : b < 18446744073709551616) :
    Calls Tryz.prog 15 #[.float .f64 a, .float .f64 b] w fun e w' => e = .returned (.bool (decide (kb a < kb b))) ∧ Below w.heap.size w w' := by
  obtain ⟨x, hx⟩ : ∃ x, canonB a = x := ⟨_, rfl⟩
  obtain ⟨y, hy⟩ : ∃ x, canonB b = x := ⟨_, rfl⟩
  have C1 := hid (canon_at a x w ha hx)
  have C2 := hid (canon_at b y w hb hy)
  have lx : x < 18446744073709551616 := by rw [← hx]; exact canon_lt ha
  have ly : y < 18446744073709551616 := by rw [← hy]; exact canon_lt hb
  obtain ⟨o, ho⟩ : ∃ o, orderB x y = o := ⟨_, rfl⟩
  have O := hid (ord_at x y o w lx ly ho)
  have E : Hid (decide (o < 0) = decide (kb a < kb b)) := by
    show _ = _
    have h := orderB_lt x y
    rw [ho] at h
    unfold kb
    rw [hx, hy]
    exact decide_eq_decide.2 h
  clear ho hx hy ha hb lx ly
  go_enter Tryz.func15, Tryz.ntmps15
  go_wp2_with fail
  refine C1.out.mono ?_
  rintro e9 v9 ⟨rfl, hv9⟩
  have hv8 := hv9.symm
  subst hv8
  go_wp2_with fail
  refine C2.out.mono ?_
  rintro e9 v9 ⟨rfl, hv9⟩
  have hv8 := hv9.symm
  subst hv8
  go_wp2_with fail
  refine O.out.mono ?_
  rintro e9 v9 ⟨rfl, hv9⟩
  have hv8 := hv9.symm
  subst hv8
  go_wp2
  go_ret
  exact ⟨by rw [← E.out]; rfl, Below.refl _ _⟩
set_option maxRecDepth 100000 in
set_option maxHeartbeats 4000000 in
theorem numbers19_at (pa pb : Option Addr) (len ca cb : Nat) (xs : Nat → Int) (w : World) (hl : len ≤ 281474976710656) (hA : Sh.IsI w pa len xs) (hB : Sh.IsI w pb len xs) :
    Calls Tryz.prog 23 #[.slice pa len ca, .slice pb len cb] w fun e w' => e = .returned (.bool true) ∧ Below w.heap.size w w' := by
  have HA := hid hA
  have HB := hid hB
  have HL := hid hl
  clear hA hB hl
  go_enter Tryz.func23, Tryz.ntmps23
  go_wp2
  go_loopw [5] (fun iv wr => ∃ c : Nat, c ≤ len ∧ iv = .int .i64 (c : Nat) ∧ Ab w wr) (fun iv _ => len - (intOf iv).toNat)
  case atStart => exact ⟨0, by omega, rfl, Ab.refl w⟩
  case round =>
    obtain ⟨c, hc, rfl, ar⟩ := hrel
    have AR := hid ar
    clear ar
    by_cases h : c < len
    · have HC := hid h
      obtain ⟨x, hx⟩ : ∃ x, xs c = x := ⟨_, rfl⟩
      obtain ⟨-, b1, o1, e1, l1, c1⟩ := HA.out c h
      obtain ⟨-, b2, o2, e2, l2, c2⟩ := HB.out c h
      rw [hx] at c1 c2
      have C1 := hid c1
      have C2 := hid c2
      have L1 := hid l1
      have L2 := hid l2
      have hcI : (c : Int) < len := by omega
      have hcB : (c : Int) ≤ 281474976710656 := by have := HL.out; omega
      clear c1 c2 l1 l2 hx h
      subst e1 e2
      go_upto_region 6 with fail
      obtain ⟨UU, E, hF1, hF2⟩ := cls wr
      have HU := hid hF2
      have HU1 := hid hF1
      have x1 : ∀ u, (E u).cell? ⟨b1, o1 + c, none⟩ = some (.int .i64 x) := fun u => (Below.cell (AR.out.trans (hF1 u)) L1.out).trans C1.out
      have x2 : ∀ u, (E u).cell? ⟨b2, o2 + c, none⟩ = some (.int .i64 x) := fun u => (Below.cell (AR.out.trans (hF1 u)) L2.out).trans C2.out
      have DD0 := HU.out _ (Ab.refl wr).drew
      clear hF1 hF2
      refine region_cls E (by kernel_rfl) (by kernel_rfl) DD0 ?_
      repeat (go_big_quiet_step (with_reducible rfl))
      refine wpQuiet_nil ?_
      intro z hwz
      obtain ⟨u0, hu⟩ := hwz
      have AZ : Hid (Ab w z) := by rw [hu]; exact AR.out.trans (HU1.out u0)
      clear hu u0
      clear HU HU1 DD0 x1 x2
      clear E UU
      go_wp2
      go_roundw
      case rel => exact ⟨c + 1, by have := HC.out; omega, by simp, AZ.out⟩
      case measure => simp [intOf]; have := HC.out; omega
    · have e : len = c := by omega
      subst e
      go_wp2
      go_ret
      exact ⟨rfl, AR.out⟩
theorem OwnN.in {B : Nat} {v : Value} {l : List Nat} {w : World} (h : OwnN B v l w) (hl : ∀ x ∈ l, x ≤ 9223372036854775807) : ∃ a0 cap, v = .slice a0 l.length cap ∧ Sh.IsI w a0 l.length (fun j => ((l.getD j 0 : Nat) : Int)) := by
  rcases h.2 with ⟨rfl, h0⟩ | ⟨g, cap, cur, rfl, hb, hg, h1, h2, h3, h4⟩
  · exact ⟨none, 0, by rw [h0], fun k hk => by omega⟩
  · refine ⟨some ⟨g, 0, none⟩, cap, rfl, fun k hk => ?_⟩
    have hx : l.getD k 0 = l[k] := by simp [List.getD, hk]
    have := hl _ (List.getElem_mem hk)
    refine ⟨by dsimp only; rw [hx]; omega, g, 0, rfl, lt_of_block hg, ?_⟩
    have e := h.cells (g := g) rfl k (.int .i64 ((l.getD k 0 : Nat) : Int)) (by simp [hk])
    rw [Sh.add_off] at e
    exact e
theorem own_ord {B : Nat} {v : Value} {K : Nat → Nat} {n : Nat} {w : World} (h : OwnN B v (ordL K n) w) (hn : n ≤ 9223372036854775807) : ∃ a0 cap, v = .slice a0 n cap ∧ Sh.IsI w a0 n (fun j => (((ordL K n).getD j 0 : Nat) : Int)) := by
  obtain ⟨a0, cap, e, i⟩ := h.in (fun x hx => by have := ordL_mem.1 hx; omega)
  rw [ordL_len] at e i
  exact ⟨a0, cap, e, i⟩
end Rv
end Go.Proofs.YtkckcohemalhiaaGreatDoor

namespace Go.Proofs.YtkckcohemalhiaaGreatDoor
open Go.RowKit Tf Cu Go.Deep
attribute [local go_sem] run_bits run_from raw_feq raw_fne raw_flt raw_fgt run_neg run_store_float
namespace Rv
theorem infoB : (Tryz.prog.info? 4).map (fun i => (i.zero, i.size, i.bytes)) = some (some (.bool false), 1, 1) := by kernel_rfl
theorem ord_fresh {l : List Nat} (h : l.Nodup) {i : Nat} (hi : i < l.length) : ¬ l[i] ∈ l.take i := fun m => by
  obtain ⟨j, hj, e⟩ := List.getElem_of_mem m
  rw [List.getElem_take] at e
  have hj2 : j < i := by
    rw [List.length_take] at hj
    omega
  exact List.pairwise_iff_getElem.1 h j i (by omega) hi hj2 e
theorem ord_take {l : List Nat} {i c : Nat} (hi : i < l.length) (hc : l[i] = c) : l.take (i + 1) = l.take i ++ [c] := by
  rw [← hc, List.take_succ_eq_append_getElem hi]
theorem ord_next {K : Nat → Nat} {l : List Nat} (h : l.Pairwise (bf K)) {i p c : Nat} (hi : i + 1 < l.length) (hp : l[i] = p) (hc : l[i + 1] = c) : bf K p c := by
  rw [← hp, ← hc]
  exact List.pairwise_iff_getElem.1 h i (i + 1) (by omega) hi (by omega)
set_option maxRecDepth 100000 in
set_option maxHeartbeats 16000000 in
theorem order_long (pb : Option Addr) (lb cb : Nat) (w : World) (hl : 65536 < lb)
    (LV : Hid (∀ v, Ab w v → Calls Tryz.prog 8 #[] v fun e w' => e = .returned (.bool true) ∧ Below v.heap.size v w')) :
    Calls Tryz.prog 5 #[.slice pb lb cb] w fun e w' => e = .returned (.bool true) ∧ Below w.heap.size w w' := by
  have lI : decide ((65536 : Int) < (lb : Int)) = true := decide_eq_true (by omega)
  go_enter Tryz.func5, Tryz.ntmps5
  go_wp2_with fail
  refine (LV.out _ (Ab.refl w)).mono ?_
  rintro e9 v1 ⟨rfl, b1⟩
  have A1 : Hid (Ab w v1) := b1
  clear b1
  go_wp2
  go_ret
  exact ⟨rfl, A1.out⟩
set_option maxRecDepth 100000 in
set_option maxHeartbeats 16000000 in
theorem order_go (pb : Option Addr) (lb cb : Nat) (B : Nat → Nat) (w : World) (hl : lb ≤ 65536) (IB : Hid (IsFl w pb lb B))
    (LV : Hid (∀ v, Ab w v → Calls Tryz.prog 8 #[] v fun e w' => e = .returned (.bool true) ∧ Below v.heap.size v w'))
    (OC : Hid (∀ v, Ab w v → Calls Tryz.prog 16 #[.slice pb lb cb] v fun e w' => ∃ a0 cap, e = .returned (.slice a0 lb cap) ∧ Below v.heap.size v w' ∧ Sh.IsI w' a0 lb (fun j => (((ordL (kB B) lb).getD j 0 : Nat) : Int)))) :
    Calls Tryz.prog 5 #[.slice pb lb cb] w fun e w' => e = .returned (.bool true) ∧ Below w.heap.size w w' := by
  have lI : decide ((65536 : Int) < (lb : Int)) = false := decide_eq_false (by omega)
  have nn : ((lb : Int) != (lb : Int)) = false := by simp
  have HL := hid hl
  clear hl
  go_enter Tryz.func5, Tryz.ntmps5
  go_wp2_with fail
  refine (LV.out _ (Ab.refl w)).mono ?_
  rintro e9 v1 ⟨rfl, b1⟩
  have A1 : Hid (Ab w v1) := b1
  clear b1
  go_wp2_with fail
  refine (OC.out _ A1.out).mono ?_
  rintro e9 v2 ⟨pl, cl, rfl, b2, i2⟩
  have A2 : Hid (Ab w v2) := A1.out.trans b2
  have I2 := hid i2
  clear b2 i2 OC LV
  have MK := run_make_row' (P := Tryz.prog) 44 4 (.bool false) 1 Tryz.underlying44 infoB rfl .i64 .i64 lb (by have := HL.out; omega) (by have := HL.out; omega) v2
  obtain ⟨ob, hob⟩ : ∃ b, v2.heap.size = b := ⟨_, rfl⟩
  have RW : Hid ((v2.alloc (.cells (madeCells #[.bool false] lb) 4)).rowIs ob 4 lb (fun _ => .bool false)) := by rw [← hob]; exact World.rowIs_made _ _ _ _
  have A3 : Hid (Ab v2 (v2.alloc (.cells (madeCells #[.bool false] lb) 4))) := bl1 _ _
  have HO : Hid (v2.heap.size ≤ ob) := Nat.le_of_eq hob
  generalize v2.alloc (.cells (madeCells #[.bool false] lb) 4) = wm at *
  go_wp2
  clear MK hob
  go_loopw [5] (fun iv wr => ∃ i : Nat, i ≤ lb ∧ iv = .int .i64 (i : Nat) ∧ Ab v2 wr ∧ wr.rowIs ob 4 lb (fun j => .bool (decide (j ∈ (ordL (kB B) lb).take i)))) (fun iv _ => lb - (intOf iv).toNat)
  case atStart => exact ⟨0, by omega, rfl, A3.out, RW.out.congr (fun i _ => by simp)⟩
  case round =>
    obtain ⟨i, hi, rfl, ar, r1⟩ := hrel
    have AR := hid ar
    have RR := hid r1
    clear ar r1 A3 RW
    by_cases hin : i < lb
    · have HI := hid hin
      have hiI : (i : Int) < lb := by omega
      have hiB : (i : Int) ≤ 65536 := by have := HL.out; omega
      obtain ⟨a0, q0, rfl⟩ := I2.out.some0 (show 0 < lb by omega)
      obtain ⟨b0, o0, rfl⟩ := IB.out.some0 (show 0 < lb by omega)
      have li : i < (ordL (kB B) lb).length := by rw [ordL_len]; exact hin
      obtain ⟨c, hc⟩ : ∃ c, (ordL (kB B) lb).getD i 0 = c := ⟨_, rfl⟩
      have hc2 : (ordL (kB B) lb)[i] = c := by rw [← hc]; simp [List.getD, li]
      have cl : c < lb := by rw [← hc2]; exact ordL_mem.1 (List.getElem_mem _)
      have cc : wr.cell? ⟨a0, q0 + i, none⟩ = some (.int .i64 (c : Nat)) := by
        have h := ((I2.out.below AR.out).at0 hin).2.2
        rw [hc] at h
        exact h
      have nin : ¬ c ∈ (ordL (kB B) lb).take i := by
        rw [← hc2]
        exact ord_fresh (ordL_nodup _ _) li
      have zc := RR.out.cell cl
      rw [decide_eq_false nin] at zc
      have zf := RR.out.frozen c
      have cI : (c : Int) < lb := by omega
      have cI0 : ¬ (c : Int) < 0 := by omega
      have cB : (c : Int) ≤ 65536 := by have := HL.out; omega
      have cN : ¬ lb ≤ c := by omega
      have dn1 : decide ((c : Int) < 0) = false := decide_eq_false (by omega)
      have dn2 : decide ((lb : Int) ≤ (c : Int)) = false := decide_eq_false (by omega)
      have CL := hid cl
      have CE := hid hc2
      have NX : Hid ((wr.setCell ⟨ob, c, none⟩ (.bool true)).rowIs ob 4 lb (fun j => .bool (decide (j ∈ (ordL (kB B) lb).take (i + 1))))) := (RR.out.set c _).congr (fun j _ => by
        have e := ord_take li (c := c) hc2
        rw [e]
        by_cases q : j = c
        · simp [q]
        · simp [q])
      clear nin hc cl
      by_cases i0 : i = 0
      · have di : ((i : Int) == 0) = true := by simp; omega
        clear i0 hin hi
        go_wp2
        exact ⟨⟨i + 1, by have := HI.out; omega, by simp, AR.out.set HO.out _, NX.out⟩, by have := HI.out; simp [intOf]; omega⟩
      · have di : ((i : Int) == 0) = false := by simp; omega
        obtain ⟨k, rfl⟩ : ∃ k, i = k + 1 := ⟨i - 1, by omega⟩
        have lk : k < (ordL (kB B) lb).length := by omega
        obtain ⟨p, hp⟩ : ∃ c, (ordL (kB B) lb).getD k 0 = c := ⟨_, rfl⟩
        have hp2 : (ordL (kB B) lb)[k] = p := by rw [← hp]; simp [List.getD, lk]
        have pl : p < lb := by rw [← hp2]; exact ordL_mem.1 (List.getElem_mem _)
        have AR3 : Hid (Ab v2 (wr.setCell ⟨ob, c, none⟩ (.bool true))) := AR.out.set HO.out _
        have pc : (wr.setCell ⟨ob, c, none⟩ (.bool true)).cell? ⟨a0, q0 + k, none⟩ = some (.int .i64 (p : Nat)) := by
          have h := ((I2.out.below AR3.out).at0 (k := k) (by omega)).2.2
          rw [hp] at h
          exact h
        have bfp := ord_next (ordL_ord (kB B) lb).1 (i := k) (by omega) hp2 hc2
        obtain ⟨xp, hxp⟩ : ∃ x, B p = x := ⟨_, rfl⟩
        obtain ⟨xc, hxc⟩ : ∃ x, B c = x := ⟨_, rfl⟩
        have BC : Hid (∀ v, Ab v2 v → v.cell? ⟨b0, o0 + p, none⟩ = some (.float .f64 xp) ∧ v.cell? ⟨b0, o0 + c, none⟩ = some (.float .f64 xc)) := fun v a => by
          have h1 := ((IB.out.below (A2.out.trans a)).at0 pl).2.2
          have h2 := ((IB.out.below (A2.out.trans a)).at0 CL.out).2.2
          rw [hxp] at h1
          rw [hxc] at h2
          exact ⟨h1, h2⟩
        have wp : xp < 18446744073709551616 := by rw [← hxp]; exact (IB.out p pl).1
        have wc : xc < 18446744073709551616 := by rw [← hxc]; exact (IB.out c CL.out).1
        have L1 := hid (fun v => less19_at xp xc v wp wc)
        have L2 := hid (fun v => less19_at xc xp v wc wp)
        have bb : kb xc < kb xp ∨ (kb xp = kb xc ∧ p < c) := by
          rw [← hxp, ← hxc]
          exact bfp
        have pI : (p : Int) < lb := by omega
        have pB : (p : Int) ≤ 65536 := by have := HL.out; omega
        have kL : (k : Int) < lb := by omega
        have e1 : decide (kb xp < kb xc) = false := decide_eq_false (by omega)
        rw [e1] at L1
        have s1 : (((k : Int) + 1) == 0) = false := by simp; omega
        have s2 : (k : Int) + 1 < lb := by omega
        have s3 : (k : Int) ≤ 65536 := by omega
        clear hp hp2 hxp hxc wp wc bfp e1 i0 hin hi lk hc2 li di hiI hiB CE
        rcases bb with q | ⟨q, q2⟩
        · have e2 : decide (kb xc < kb xp) = true := decide_eq_true q
          rw [e2] at L2
          clear e2 q
          go_upto_region 18 with fail
          generalize hS : World.setCell wr _ _ = ws at *
          clear hS
          go_upto_region 18 with fail
          obtain ⟨UU, E, hF1, hF2⟩ := cls ws
          have HU := hid hF2
          have HU1 := hid hF1
          have e1 : ∀ u, (E u).cell? ⟨b0, o0 + p, none⟩ = some (.float .f64 xp) := fun u => (BC.out _ (AR3.out.trans (hF1 u))).1
          have e2 : ∀ u, (E u).cell? ⟨b0, o0 + c, none⟩ = some (.float .f64 xc) := fun u => (BC.out _ (AR3.out.trans (hF1 u))).2
          have DD0 := HU.out _ (Ab.refl ws).drew
          clear hF1 hF2
          refine region_cls E (by kernel_rfl) (by kernel_rfl) DD0 ?_
          repeat (go_big_quiet_step (first | (go_at_call_of 15 (#[Value.float .f64 xp, Value.float .f64 xc]); exact calls_cls HU HU1 (L1.out _)) | (go_at_call_of 15 (#[Value.float .f64 xc, Value.float .f64 xp]); exact calls_cls HU HU1 (L2.out _)) | (with_reducible rfl)))
          refine wpQuiet_nil ?_
          intro v6 hwz
          obtain ⟨u0, hu⟩ := hwz
          have A6 : Hid (Ab ws v6) := by rw [hu]; exact HU1.out u0
          clear hu u0
          clear HU HU1 DD0 e1 e2
          clear E UU
          go_wp2
          exact ⟨⟨k + 1 + 1, by have := HI.out; omega, by simp, AR3.out.trans A6.out, Sh.row_ab NX.out A6.out⟩, by have := HI.out; simp [intOf]; omega⟩
        · have e2 : decide (kb xc < kb xp) = false := decide_eq_false (by omega)
          rw [e2] at L2
          have q3 : ¬ c < p := by omega
          have q4 : decide ((c : Int) < (p : Int)) = false := decide_eq_false (by omega)
          clear e2 q
          go_upto_region 18 with fail
          generalize hS : World.setCell wr _ _ = ws at *
          clear hS
          go_upto_region 18 with fail
          obtain ⟨UU, E, hF1, hF2⟩ := cls ws
          have HU := hid hF2
          have HU1 := hid hF1
          have e1 : ∀ u, (E u).cell? ⟨b0, o0 + p, none⟩ = some (.float .f64 xp) := fun u => (BC.out _ (AR3.out.trans (hF1 u))).1
          have e2 : ∀ u, (E u).cell? ⟨b0, o0 + c, none⟩ = some (.float .f64 xc) := fun u => (BC.out _ (AR3.out.trans (hF1 u))).2
          have DD0 := HU.out _ (Ab.refl ws).drew
          clear hF1 hF2
          refine region_cls E (by kernel_rfl) (by kernel_rfl) DD0 ?_
          repeat (go_big_quiet_step (first | (go_at_call_of 15 (#[Value.float .f64 xp, Value.float .f64 xc]); exact calls_cls HU HU1 (L1.out _)) | (go_at_call_of 15 (#[Value.float .f64 xc, Value.float .f64 xp]); exact calls_cls HU HU1 (L2.out _)) | (with_reducible rfl)))
          refine wpQuiet_nil ?_
          intro v6 hwz
          obtain ⟨u0, hu⟩ := hwz
          have A6 : Hid (Ab ws v6) := by rw [hu]; exact HU1.out u0
          clear hu u0
          clear HU HU1 DD0 e1 e2
          clear E UU
          go_wp2
          exact ⟨⟨k + 1 + 1, by have := HI.out; omega, by simp, AR3.out.trans A6.out, Sh.row_ab NX.out A6.out⟩, by have := HI.out; simp [intOf]; omega⟩
    · have e6 : lb = i := by omega
      subst e6
      go_wp2
      go_ret
      exact ⟨rfl, A2.out.trans AR.out⟩
theorem order_at (LV : ∀ w : World, Fr w → Calls Tryz.prog 8 #[] w fun e w' => e = .returned (.bool true) ∧ Below w.heap.size w w') (OC : OrderC) {pb : Option Addr} {lb cb : Nat} {B : Nat → Nat} (w : World) (hF : Fr w) (ib : IsFl w pb lb B) :
    Calls Tryz.prog 5 #[.slice pb lb cb] w fun e w' => e = .returned (.bool true) ∧ Below w.heap.size w w' := by
  have LV2 : Hid (∀ v, Ab w v → Calls Tryz.prog 8 #[] v fun e w' => e = .returned (.bool true) ∧ Below v.heap.size v w') := fun v a => LV v (hF.to a)
  by_cases l : 65536 < lb
  · exact order_long pb lb cb w l LV2
  · refine order_go pb lb cb B w (by omega) ib LV2 (fun v a => (OC pb lb cb B v (by omega) (ib.below a)).mono ?_)
    rintro e w' ⟨v', rfl, b, o⟩
    obtain ⟨a0, cap, rfl, i⟩ := own_ord o (by omega)
    exact ⟨a0, cap, rfl, b, i⟩
end Rv
end Go.Proofs.YtkckcohemalhiaaGreatDoor

namespace Go.Proofs.YtkckcohemalhiaaGreatDoor
open Go.RowKit Tf Cu Go.Deep
attribute [local go_sem] run_bits run_from raw_feq raw_fne raw_flt raw_fgt run_neg run_store_float
namespace Rv
/-- beds, waters and tracers of the test of life -/
def lvB (i : Nat) : Nat := if i = 0 then 4617315517961601024 else if i = 1 then 4616189618054758400 else if i = 2 then 4613937818241073152 else if i = 3 then 4611686018427387904 else if i = 4 then 4607182418800017408 else 0
def lvW (i : Nat) : Int := if i = 0 then 100 else 0
def lvT (i : Nat) : Int := if i = 0 then 10 else 0
def lvO (i : Nat) : Nat := if i = 0 then 4607182418800017408 else if i = 1 then 4613937818241073152 else if i = 2 then 4611686018427387904 else 4613937818241073152
theorem lv_fw : ∀ j : Nat, j < 6 → fw (5 - (j : Int)) = lvB j := by decide +kernel
theorem lvB_in (i : Nat) : lvB i < 18446744073709551616 := by
  unfold lvB
  repeat (first | split | omega)
theorem lv_ord : ordL (kB lvB) 6 = [0, 1, 2, 3, 4, 5] := by
  refine (ord_one ⟨?_, ?_⟩).symm
  · show List.Pairwise (fun a b => kB lvB b < kB lvB a ∨ (kB lvB a = kB lvB b ∧ a < b)) [0, 1, 2, 3, 4, 5]
    decide +kernel
  · exact List.Perm.refl _
theorem lv_ord2 : ordL (kB lvO) 4 = [1, 3, 2, 0] := by
  refine (ord_one ⟨?_, ?_⟩).symm
  · show List.Pairwise (fun a b => kB lvO b < kB lvO a ∨ (kB lvO a = kB lvO b ∧ a < b)) [1, 3, 2, 0]
    decide +kernel
  · decide
theorem lv_d0 : dnR 1 lvB 0 = 5 := by decide +kernel
theorem lv_d5 : dnR 1 lvB 5 = -1 := by decide +kernel
theorem lv_run : (runR 1 lvB lvW lvT).1 0 = 75 ∧ (runR 1 lvB lvW lvT).1 5 = 25 ∧ (runR 1 lvB lvW lvT).2 0 = 8 ∧ (runR 1 lvB lvW lvT).2 5 = 2 := by
  unfold runR
  rw [show 6 * 1 * 1 = 6 from rfl, lv_ord]
  decide +kernel
theorem lv_good : good19 1 6 6 6 12 lvW lvT := by
  refine ⟨⟨rfl, rfl, rfl, rfl⟩, ⟨fun c _ => ?_, by decide⟩, ⟨fun c _ => ?_, by decide⟩⟩
  · unfold lvW; split <;> omega
  · unfold lvT; split <;> omega
theorem row_ne {w : World} {a b m n : Nat} {s t : TypeId} {f g : Nat → Value} (h1 : w.rowIs a s m f) (h2 : w.rowIs b t n g) (hst : s ≠ t) : a ≠ b := fun e => by
  subst e
  obtain ⟨c, k1, -⟩ := h1
  obtain ⟨d, k2, -⟩ := h2
  rw [k1] at k2
  injection k2 with k3
  injection k3 with _ k4
  exact hst k4
theorem four_in19 (v : World) : Sh.IsI (v.alloc (.cells #[.int .i64 1, .int .i64 3, .int .i64 2, .int .i64 0] 3)) (some ⟨v.heap.size, 0, none⟩) 4 (fun j => ((([1, 3, 2, 0] : List Nat).getD j 0 : Nat) : Int)) := by
  have h := heap_alloc_new v (.cells #[.int .i64 1, .int .i64 3, .int .i64 2, .int .i64 0] 3)
  intro k hk
  match k, hk with
  | 0, _ => exact ⟨by decide, _, 0, rfl, lt_of_block h, cell_of_row _ _ 0 _ _ _ h⟩
  | 1, _ => exact ⟨by decide, _, 0, rfl, lt_of_block h, cell_of_row _ _ 1 _ _ _ h⟩
  | 2, _ => exact ⟨by decide, _, 0, rfl, lt_of_block h, cell_of_row _ _ 2 _ _ _ h⟩
  | 3, _ => exact ⟨by decide, _, 0, rfl, lt_of_block h, cell_of_row _ _ 3 _ _ _ h⟩
theorem four_fl19 (v : World) : IsFl (v.alloc (.cells #[.float .f64 4607182418800017408, .float .f64 4613937818241073152, .float .f64 4611686018427387904, .float .f64 4613937818241073152] 40)) (some ⟨v.heap.size, 0, none⟩) 4 lvO := by
  have h := heap_alloc_new v (.cells #[.float .f64 4607182418800017408, .float .f64 4613937818241073152, .float .f64 4611686018427387904, .float .f64 4613937818241073152] 40)
  intro k hk
  match k, hk with
  | 0, _ => exact ⟨by decide, _, 0, rfl, lt_of_block h, cell_of_row _ _ 0 _ _ _ h⟩
  | 1, _ => exact ⟨by decide, _, 0, rfl, lt_of_block h, cell_of_row _ _ 1 _ _ _ h⟩
  | 2, _ => exact ⟨by decide, _, 0, rfl, lt_of_block h, cell_of_row _ _ 2 _ _ _ h⟩
  | 3, _ => exact ⟨by decide, _, 0, rfl, lt_of_block h, cell_of_row _ _ 3 _ _ _ h⟩
theorem own_w19 {B n : Nat} {v : Value} {f : Nat → Int} {w : World} (h : Sh.Own B v ((List.range n).map f) w) (hf : ∀ c, c < n → Sh.W64 (f c)) : ∃ a0 cap, v = .slice a0 n cap ∧ Sh.IsI w a0 n f := by
  obtain ⟨a0, cap, e, i⟩ := Sh.Own.in h (fun x hx => by
    obtain ⟨j, hj, rfl⟩ := List.mem_map.1 hx
    exact hf j (List.mem_range.1 hj))
  rw [List.length_map, List.length_range] at e i
  exact ⟨a0, cap, e, i.congr (fun k hk => by simp [List.getD, hk])⟩
set_option maxRecDepth 100000 in
set_option maxHeartbeats 16000000 in
theorem lives19_at (DC : DownC) (OC : OrderC) (RC : RunC) (w : World) (hF : Fr w) : Calls Tryz.prog 8 #[] w fun e w' => e = .returned (.bool true) ∧ Below w.heap.size w w' := by
  have NW := hid (new_at 1 w (by omega) hF)
  have HD := hid DC
  have HO := hid OC
  have HR := hid RC
  clear hF DC OC RC
  go_enter Tryz.func8, Tryz.ntmps8
  go_wp2_with fail
  refine NW.out.mono ?_
  rintro e v1 ⟨gb, rfl, a1, -, g1⟩
  have AW1 : Hid (Ab w v1) := a1
  have G1 : Hid (GridOf 1 gb v1) := g1
  clear a1 g1 NW
  have LK := hid (lake19_at v1 G1.out)
  go_wp2_with fail
  refine LK.out.mono ?_
  rintro e v2 ⟨b1, b2, b3, b4, rfl, k2, r1, r2, r3, r4, nb⟩
  have AV : Hid (Ab v1 (v2.alloc (.cells #[.slice (some ⟨b1, 0, none⟩) 6 6, .slice (some ⟨b2, 0, none⟩) 6 6, .slice (some ⟨b3, 0, none⟩) 6 6, .slice (some ⟨b4, 0, none⟩) 12 12, .int .i64 0, .int .i64 0] 25))) := Ab.alloc (show Ab v1 v2 from k2) _
  have SR : Hid ((v2.alloc (.cells #[.slice (some ⟨b1, 0, none⟩) 6 6, .slice (some ⟨b2, 0, none⟩) 6 6, .slice (some ⟨b3, 0, none⟩) 6 6, .slice (some ⟨b4, 0, none⟩) 12 12, .int .i64 0, .int .i64 0] 25)).heap[v2.heap.size]? = some (.cells #[.slice (some ⟨b1, 0, none⟩) 6 6, .slice (some ⟨b2, 0, none⟩) 6 6, .slice (some ⟨b3, 0, none⟩) 6 6, .slice (some ⟨b4, 0, none⟩) 12 12, .int .i64 0, .int .i64 0] 25)) := heap_alloc_new _ _
  have R1 := hid (r1.alloc (.cells #[.slice (some ⟨b1, 0, none⟩) 6 6, .slice (some ⟨b2, 0, none⟩) 6 6, .slice (some ⟨b3, 0, none⟩) 6 6, .slice (some ⟨b4, 0, none⟩) 12 12, .int .i64 0, .int .i64 0] 25))
  have R2 := hid (r2.alloc (.cells #[.slice (some ⟨b1, 0, none⟩) 6 6, .slice (some ⟨b2, 0, none⟩) 6 6, .slice (some ⟨b3, 0, none⟩) 6 6, .slice (some ⟨b4, 0, none⟩) 12 12, .int .i64 0, .int .i64 0] 25))
  have R3 := hid (r3.alloc (.cells #[.slice (some ⟨b1, 0, none⟩) 6 6, .slice (some ⟨b2, 0, none⟩) 6 6, .slice (some ⟨b3, 0, none⟩) 6 6, .slice (some ⟨b4, 0, none⟩) 12 12, .int .i64 0, .int .i64 0] 25))
  have R4 := hid (r4.alloc (.cells #[.slice (some ⟨b1, 0, none⟩) 6 6, .slice (some ⟨b2, 0, none⟩) 6 6, .slice (some ⟨b3, 0, none⟩) 6 6, .slice (some ⟨b4, 0, none⟩) 12 12, .int .i64 0, .int .i64 0] 25))
  have NB : Hid (((v1.heap.size ≤ b1 ∧ v1.heap.size ≤ b2 ∧ v1.heap.size ≤ b3 ∧ v1.heap.size ≤ b4) ∧ b1 ≠ b2 ∧ b1 ≠ b4 ∧ b2 ≠ b4 ∧ b3 ≠ b4 ∧ b3 ≠ b2) ∧ v2.heap.size ≠ b1 ∧ v2.heap.size ≠ b2 ∧ v2.heap.size ≠ b3 ∧ b1 ≠ b3) := ⟨nb, by have := r1.lt; omega, by have := r2.lt; omega, by have := r3.lt; omega, row_ne r1 r3 (by decide)⟩
  clear k2 r1 r2 r3 r4 nb LK
  go_upto_region 5 with fail
  obtain ⟨gs, hgs⟩ : ∃ x, v2.heap.size = x := ⟨_, rfl⟩
  generalize hV : v2.alloc (.cells #[.slice (some ⟨b1, 0, none⟩) 6 6, .slice (some ⟨b2, 0, none⟩) 6 6, .slice (some ⟨b3, 0, none⟩) 6 6, .slice (some ⟨b4, 0, none⟩) 12 12, .int .i64 0, .int .i64 0] 25) = V at *
  rw [hgs] at SR NB
  rw [hgs]
  clear hV hgs
  have c0 := cell_of_row _ _ 0 _ _ _ SR.out
  go_wp2
  clear c0
  go_loopw [4] (fun iv wr => ∃ c : Nat, c ≤ 6 ∧ iv = .int .i64 (c : Nat) ∧ Ab v1 wr ∧ wr.heap[gs]? = some (.cells #[.slice (some ⟨b1, 0, none⟩) 6 6, .slice (some ⟨b2, 0, none⟩) 6 6, .slice (some ⟨b3, 0, none⟩) 6 6, .slice (some ⟨b4, 0, none⟩) 12 12, .int .i64 0, .int .i64 0] 25) ∧ wr.rowIs b1 40 6 (fun j => .float .f64 (if j < c then lvB j else 0)) ∧ wr.rowIs b2 2 6 (fun j => .int .i64 (if j < c then 0 else lkW j)) ∧ wr.rowIs b3 2 6 (fun _ => .int .i64 0) ∧ wr.rowIs b4 40 12 (fun _ => .float .f64 0)) (fun iv _ => 6 - (intOf iv).toNat)
  case atStart => exact ⟨0, by omega, rfl, AV.out, SR.out, R1.out.congr (fun i _ => by simp), R2.out.congr (fun i _ => by simp), R3.out, R4.out⟩
  case round =>
    obtain ⟨c, hc, rfl, ar, s0, s1, s2, s3, s4⟩ := hrel
    have AR := hid ar
    have S0 := hid s0
    have S1 := hid s1
    have S2 := hid s2
    have S3 := hid s3
    have S4 := hid s4
    clear ar s0 s1 s2 s3 s4 AV SR R1 R2 R3 R4
    by_cases hcn : c < 6
    · have HC := hid hcn
      have hcI : (c : Int) < 6 := by omega
      have c0 := cell_of_row _ _ 0 _ _ _ S0.out
      have z1 := S1.out.cell hcn
      have z2 := S1.out.frozen c
      obtain ⟨y1, hy1⟩ : ∃ y, Value.float .f64 (if c < c then lvB c else 0) = y := ⟨_, rfl⟩
      rw [hy1] at z1
      obtain ⟨x, hx⟩ : ∃ x, lvB c = x := ⟨_, rfl⟩
      have CV := fun (w : World) => run_convert_int_float (P := Tryz.prog) w 3 40 .i64 .f64 (5 - (c : Int)) (by kernel_rfl) (by kernel_rfl)
      have ef : floatOfInt .f64 (5 - (c : Int)) = x := by
        rw [← hx, ← lv_fw c hcn]
        exact ofInt_d _
      rw [ef] at CV
      have N1 : Hid (wr.setCell ⟨b1, c, none⟩ (.float .f64 x) |>.rowIs b2 2 6 (fun j => .int .i64 (if j < c then 0 else lkW j))) := S2.out.setOther (a := ⟨b1, c, none⟩) (Ne.symm NB.out.1.2.1) _
      have u1 := N1.out.cell hcn
      have u2 := N1.out.frozen c
      obtain ⟨y2, hy2⟩ : ∃ y, Value.int .i64 (if c < c then 0 else lkW c) = y := ⟨_, rfl⟩
      rw [hy2] at u1
      have N0 : Hid ((wr.setCell ⟨b1, c, none⟩ (.float .f64 x)).heap[gs]? = some (.cells #[.slice (some ⟨b1, 0, none⟩) 6 6, .slice (some ⟨b2, 0, none⟩) 6 6, .slice (some ⟨b3, 0, none⟩) 6 6, .slice (some ⟨b4, 0, none⟩) 12 12, .int .i64 0, .int .i64 0] 25)) := (Below.heap_setCell _ _ _ _ NB.out.2.1).trans S0.out
      have c1 := cell_of_row _ _ 1 _ _ _ N0.out
      have XE := hid hx
      clear hy1 hy2 hx ef hcn hc
      go_wp2
      refine ⟨⟨c + 1, by have := HC.out; omega, by simp, (AR.out.set NB.out.1.1.1 _).set NB.out.1.1.2.1 _, (Below.heap_setCell _ _ _ _ NB.out.2.2.1).trans N0.out, ((S1.out.set c _).setOther NB.out.1.2.1 _).congr (fun i _ => ?_), (N1.out.set c _).congr (fun i _ => ?_), (S3.out.setOther (a := ⟨b1, c, none⟩) (Ne.symm NB.out.2.2.2.2) _).setOther NB.out.1.2.2.2.2.2 _, (S4.out.setOther (a := ⟨b1, c, none⟩) (Ne.symm NB.out.1.2.2.1) _).setOther (Ne.symm NB.out.1.2.2.2.1) _⟩, by have := HC.out; simp [intOf]; omega⟩
      · by_cases e : i = c
        · subst e; simp [XE.out]
        · have q : (i < c + 1) ↔ i < c := by omega
          simp [e, q]
      · by_cases e : i = c
        · subst e; simp
        · have q : (i < c + 1) ↔ i < c := by omega
          simp [e, q]
    · obtain rfl : c = 6 := by omega
      have c1 := cell_of_row _ _ 1 _ _ _ S0.out
      have z1 := S2.out.cell (show 0 < 6 by omega)
      have z2 := S2.out.frozen 0
      obtain ⟨y1, hy1⟩ : ∃ y, Value.int .i64 (if 0 < 6 then 0 else lkW 0) = y := ⟨_, rfl⟩
      rw [hy1] at z1
      have M0 : Hid ((wr.setCell ⟨b2, 0, none⟩ (.int .i64 100)).heap[gs]? = some (.cells #[.slice (some ⟨b1, 0, none⟩) 6 6, .slice (some ⟨b2, 0, none⟩) 6 6, .slice (some ⟨b3, 0, none⟩) 6 6, .slice (some ⟨b4, 0, none⟩) 12 12, .int .i64 0, .int .i64 0] 25)) := (Below.heap_setCell _ _ _ _ NB.out.2.2.1).trans S0.out
      have M3 : Hid ((wr.setCell ⟨b2, 0, none⟩ (.int .i64 100)).rowIs b3 2 6 (fun _ => .int .i64 0)) := S3.out.setOther (a := ⟨b2, 0, none⟩) NB.out.1.2.2.2.2.2 _
      have c2 := cell_of_row _ _ 2 _ _ _ M0.out
      have u1 := M3.out.cell (show 0 < 6 by omega)
      have u2 := M3.out.frozen 0
      have T0 : Hid (((wr.setCell ⟨b2, 0, none⟩ (.int .i64 100)).setCell ⟨b3, 0, none⟩ (.int .i64 10)).heap[gs]? = some (.cells #[.slice (some ⟨b1, 0, none⟩) 6 6, .slice (some ⟨b2, 0, none⟩) 6 6, .slice (some ⟨b3, 0, none⟩) 6 6, .slice (some ⟨b4, 0, none⟩) 12 12, .int .i64 0, .int .i64 0] 25)) := (Below.heap_setCell _ _ _ _ NB.out.2.2.2.1).trans M0.out
      have T1 : Hid (((wr.setCell ⟨b2, 0, none⟩ (.int .i64 100)).setCell ⟨b3, 0, none⟩ (.int .i64 10)).rowIs b1 40 6 (fun j => .float .f64 (lvB j))) := ((S1.out.setOther (a := ⟨b2, 0, none⟩) NB.out.1.2.1 _).setOther NB.out.2.2.2.2 _).congr (fun i hi => by simp [hi])
      have T2 : Hid (((wr.setCell ⟨b2, 0, none⟩ (.int .i64 100)).setCell ⟨b3, 0, none⟩ (.int .i64 10)).rowIs b2 2 6 (fun j => .int .i64 (lvW j))) := ((S2.out.set 0 _).setOther (Ne.symm NB.out.1.2.2.2.2.2) _).congr (fun i hi => by unfold lvW; by_cases e : i = 0 <;> simp [e, hi])
      have T3 : Hid (((wr.setCell ⟨b2, 0, none⟩ (.int .i64 100)).setCell ⟨b3, 0, none⟩ (.int .i64 10)).rowIs b3 2 6 (fun j => .int .i64 (lvT j))) := (M3.out.set 0 _).congr (fun i hi => by unfold lvT; by_cases e : i = 0 <;> simp [e])
      have T4 : Hid (((wr.setCell ⟨b2, 0, none⟩ (.int .i64 100)).setCell ⟨b3, 0, none⟩ (.int .i64 10)).rowIs b4 40 12 (fun _ => .float .f64 0)) := (S4.out.setOther (a := ⟨b2, 0, none⟩) (Ne.symm NB.out.1.2.2.2.1) _).setOther (Ne.symm NB.out.1.2.2.2.2.1) _
      have AT : Hid (Ab v1 ((wr.setCell ⟨b2, 0, none⟩ (.int .i64 100)).setCell ⟨b3, 0, none⟩ (.int .i64 10))) := (AR.out.set NB.out.1.1.2.1 _).set NB.out.1.1.2.2.1 _
      clear hy1
      go_upto_region 14 with fail
      generalize hS : World.setCell (World.setCell wr _ _) _ _ = X at *
      clear hS c1 z1 z2 M0 M3 c2 u1 u2 S0 S1 S2 S3 S4 AR
      have x0 := cell_of_row _ _ 0 _ _ _ T0.out
      have x1 := cell_of_row _ _ 1 _ _ _ T0.out
      have x2 := cell_of_row _ _ 2 _ _ _ T0.out
      have x3 := cell_of_row _ _ 3 _ _ _ T0.out
      have x4 := cell_of_row _ _ 4 _ _ _ T0.out
      have x5 := cell_of_row _ _ 5 _ _ _ T0.out
      have IB := hid (show IsFl X (some ⟨b1, 0, none⟩) 6 lvB from fun k hk => ⟨lvB_in k, b1, 0, rfl, T1.out.lt, by rw [Nat.zero_add]; exact T1.out.cell hk⟩)
      have IW := hid (Sh.row_in T2.out (fun i hi => by unfold lvW; split <;> omega))
      have IT := hid (Sh.row_in T3.out (fun i hi => by unfold lvT; split <;> omega))
      have IS := hid (show IsFl X (some ⟨b4, 0, none⟩) 12 (fun _ => 0) from fun k hk => ⟨by show (0 : Nat) < _; decide, b4, 0, rfl, T4.out.lt, by rw [Nat.zero_add]; exact T4.out.cell hk⟩)
      have CR := hid ((HR.out 1 gb (some ⟨b1, 0, none⟩) 6 6 lvB (some ⟨b2, 0, none⟩) 6 6 lvW (some ⟨b3, 0, none⟩) 6 6 lvT (some ⟨b4, 0, none⟩) 12 12 (fun _ => 0) 0 0 X (by omega) (G1.out.to AT.out) IB.out IW.out IT.out IS.out).1 lv_good)
      go_wp2_with fail
      refine CR.out.mono ?_
      rintro e9 Y ⟨va, vb, rfl, by1, oa, ob, -⟩
      have kk := (runR_ok (B := lvB) (Nat.le_refl 1) lv_good).1
      obtain ⟨pa, ca, rfl, ia⟩ := own_w19 oa (fun c hc => by have := kk.1.b hc; unfold Sh.W64; omega)
      obtain ⟨pb, cb, rfl, ib⟩ := own_w19 ob (fun c hc => by have := kk.2.b hc; unfold Sh.W64; omega)
      obtain ⟨qa, ra, rfl⟩ := ia.some0 (by omega)
      obtain ⟨qb, rb, rfl⟩ := ib.some0 (by omega)
      have d1 := (ia.at0 (k := 0) (by omega)).2.2
      have d2 := (ia.at0 (k := 5) (by omega)).2.2
      have d3 := (ib.at0 (k := 0) (by omega)).2.2
      have d4 := (ib.at0 (k := 5) (by omega)).2.2
      rw [lv_run.1] at d1
      rw [lv_run.2.1] at d2
      rw [lv_run.2.2.1] at d3
      rw [lv_run.2.2.2] at d4
      rw [Nat.add_zero] at d1 d3
      have AY : Hid (Ab X Y) := by1
      have Y0 := hid (Ab.heap AY.out T0.out)
      have y0 := cell_of_row _ _ 0 _ _ _ Y0.out
      clear oa ob kk ia ib by1 CR x0 x1 x2 x3 x4 x5
      have D0 := hid (HD.out 1 gb (some ⟨b1, 0, none⟩) 6 6 lvB 0 Y (by omega) (G1.out.to (AT.out.trans AY.out)) (IB.out.below AY.out) (by unfold Sh.W64; omega))
      rw [show (if (6 : Nat) = 6 * 1 * 1 ∧ (0 : Int) ≤ 0 ∧ (0 : Int) < ((6 * 1 * 1 : Nat) : Int) then dnR 1 lvB (0 : Int).toNat else -1) = 5 from (if_pos (by decide)).trans lv_d0] at D0
      go_wp2_with fail
      refine D0.out.mono ?_
      rintro e9 Z ⟨rfl, b5⟩
      have AZ : Hid (Ab X Z) := AY.out.trans b5
      have Z0 := hid (Ab.heap AZ.out T0.out)
      clear b5 D0 d1 d2 d3 d4 y0
      have y0 := cell_of_row _ _ 0 _ _ _ Z0.out
      have D5 := hid (HD.out 1 gb (some ⟨b1, 0, none⟩) 6 6 lvB 5 Z (by omega) (G1.out.to (AT.out.trans AZ.out)) (IB.out.below AZ.out) (by unfold Sh.W64; omega))
      rw [show (if (6 : Nat) = 6 * 1 * 1 ∧ (0 : Int) ≤ 5 ∧ (5 : Int) < ((6 * 1 * 1 : Nat) : Int) then dnR 1 lvB (5 : Int).toNat else -1) = -1 from (if_pos (by decide)).trans lv_d5] at D5
      go_wp2_with fail
      refine D5.out.mono ?_
      rintro e9 Q ⟨rfl, b6⟩
      have AQ : Hid (Ab X Q) := AZ.out.trans b6
      clear b6 D5 y0
      have O4 := hid (HO.out (some ⟨Q.heap.size, 0, none⟩) 4 4 lvO (Q.alloc (.cells #[.float .f64 4607182418800017408, .float .f64 4613937818241073152, .float .f64 4611686018427387904, .float .f64 4613937818241073152] 40)) (by omega) (four_fl19 Q))
      rw [lv_ord2] at O4
      have AO : Hid (Ab X (Q.alloc (.cells #[.float .f64 4607182418800017408, .float .f64 4613937818241073152, .float .f64 4611686018427387904, .float .f64 4613937818241073152] 40))) := AQ.out.alloc _
      go_wp2_with fail
      refine O4.out.mono ?_
      rintro e9 P ⟨vo, rfl, b7, o7⟩
      obtain ⟨po, co, rfl, io⟩ := OwnN.in o7 (fun x hx => by simp at hx; omega)
      have AP : Hid (Ab X P) := AO.out.trans b7
      have HIO := hid io
      clear b7 o7 io O4
      have NU := hid (numbers19_at po (some ⟨P.heap.size, 0, none⟩) 4 co 4 _ (P.alloc (.cells #[.int .i64 1, .int .i64 3, .int .i64 2, .int .i64 0] 3)) (by omega) (HIO.out.below (bl1 _ _)) (four_in19 P))
      have AN : Hid (Ab X (P.alloc (.cells #[.int .i64 1, .int .i64 3, .int .i64 2, .int .i64 0] 3))) := AP.out.alloc _
      go_wp2_with fail
      refine NU.out.mono ?_
      rintro e9 U ⟨rfl, b8⟩
      have AU : Hid (Ab w U) := AW1.out.trans (AT.out.trans (AN.out.trans b8))
      clear b8
      go_wp2
      go_ret
      exact ⟨rfl, AU.out⟩
end Rv
end Go.Proofs.YtkckcohemalhiaaGreatDoor
