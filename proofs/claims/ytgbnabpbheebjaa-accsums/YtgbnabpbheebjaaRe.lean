/-
  The reference: the limbs carried on: a walk over the program.
-/
import Derived.Test.YtgbnabpbheebjaaRd
import Derived.Deep.MidRow
namespace Go.Proofs.Ytgbnabpbheebjaa
open Go.RowKit Tf
attribute [local go_sem] run_bits run_from raw_feq raw_fne raw_flt raw_fgt run_neg

def encL (f : Nat → Int) : Array Value := Array.ofFn (n := 136) fun k => .int .i64 (f k.val)
theorem encL_size (f : Nat → Int) : (encL f).size = 136 := by simp [encL]
theorem encL_get (f : Nat → Int) (k : Nat) : (encL f)[k]? = if k < 136 then some (.int .i64 (f k)) else none := by
  by_cases h : k < 136
  · simp [encL, h]
  · simp [encL, h]
theorem encL_one (f : Nat → Int) : (encL f).all (·.oneCell') = true := by
  rw [Array.all_eq_true]; intro j hj; simp [encL]; rfl
theorem encL_congr (f g : Nat → Int) (h : ∀ j, j < 136 → f j = g j) : encL f = encL g := by
  apply Array.ext_getElem?
  intro k
  rw [encL_get, encL_get]
  by_cases c : k < 136
  · rw [if_pos c, if_pos c, h k c]
  · rw [if_neg c, if_neg c]
theorem encL_set (f : Nat → Int) (k : Nat) (v : Int) (hk : k < 136) : (encL f).setIfInBounds k (.int .i64 v) = encL (upd f k v) := by
  apply Array.ext_getElem?
  intro i
  rw [Array.getElem?_setIfInBounds, encL_get, encL_get, encL_size]
  by_cases c : k = i
  · subst c
    rw [if_pos rfl, if_pos hk, if_pos hk]; simp [upd]
  · rw [if_neg c]
    have : upd f k v i = f i := by unfold upd; rw [if_neg (fun e => c e.symm)]
    rw [this]
theorem lim_cell (g j : Nat) (f : Nat → Int) (T : TypeId) (w : World) (h : w.heap[g]? = some (.cells (encL f) T)) (hj : j < 136) : w.cell? ⟨g, j, none⟩ = some (.int .i64 (f j)) := by
  rw [cell_of_row _ _ _ _ _ _ h, encL_get, if_pos hj]
theorem lim_set (g j : Nat) (f : Nat → Int) (T : TypeId) (v : Int) (w : World) (h : w.heap[g]? = some (.cells (encL f) T)) (hj : j < 136) : (w.setCell ⟨g, j, none⟩ (.int .i64 v)).heap[g]? = some (.cells (encL (upd f j v)) T) := by
  rw [heap_setCell_same _ _ _ _ _ _ h, encL_set _ _ _ hj]
def ZL : Array Value := Array.replicate 136 (.int .i64 0)
theorem ZL_size : ZL.size = 136 := by simp [ZL]
theorem info_limbs : (Try.prog.info? 57).map (fun i => (i.zero, i.size)) = some (some (.agg (Array.replicate 136 (.int .i64 0))), 136) := by kernel_rfl
theorem zero_limbs (w : World) : (zeroValue 57).run Try.prog w = .ok (.agg ZL) w := (zero_of_info info_limbs).1 w
theorem size_limbs : (Try.prog.info? 57).map (·.size) = some 136 := (zero_of_info info_limbs).2
theorem IsR.range {g : Nat} {f : Nat → Int} {c : Int} {p q r o : Bool} {w : World} (h : IsR g f c p q r o w) : w.rangeAt g 0 (encL f).toList := by
  intro j v hv
  have hj : (encL f)[j]? = some v := by simpa using hv
  rw [encL_get] at hj
  by_cases c : j < 136
  · rw [if_pos c] at hj
    rw [Nat.zero_add, h.limb j c]; exact hj
  · rw [if_neg c] at hj; cases hj
theorem cr_bound2 (f : Nat → Int) (B : Int) (h : Lim f B) (hB : 0 ≤ B) (i : Nat) : -B - 1 ≤ cr f i ∧ cr f i ≤ B := by
  induction i with
  | zero => rw [cr_zero]; omega
  | succ i ih =>
    rw [← cr_succ]
    have := h i
    generalize cr f i = c at *
    generalize f i = x at *
    omega
theorem valN_neg (f : Nat → Int) (n : Nat) : valN (fun i => -f i) n = -valN f n := by
  induction n with
  | zero => rfl
  | succ n ih => show valN _ n + -f n * _ = -(valN f n + f n * _); rw [ih, Int.neg_mul]; omega

theorem results_cell_two {P : Program} {fn : Func} {p q : Tmp} {ty : TypeId} (h : fn.results = #[.cell p ty, .tmp q]) (tmps : Array Value) (w : World) (g : Nat) (t : TypeId) (cs : Array Value) (fr : Nat × Nat) (d : TypeDesc) (v : Value)
    (hp : tmps.getD p undef = .pointer (some ⟨g, 0, none⟩)) (hq : tmps.getD q undef = v) (hg : w.heap[g]? = some (.cells cs t fr))
    (hu : P.underlying ty = some d) (hd : (match d with | .struct _ | .array _ _ => true | _ => false) = true) (hi : (P.info? ty).map (·.size) = some cs.size) :
    (results fn tmps).run P w = .ok (.tuple #[.agg cs, v]) w := by
  have hp' : tmps[p]?.getD undef = .pointer (some ⟨g, 0, none⟩) := by simpa using hp
  have hq' : tmps[q]?.getD undef = v := by simpa using hq
  simp [results, h, hp', hq', asAddr, run_loadVar_row w g t ty cs fr d hg hu hd hi]
theorem carry_neg (v d tm c2 : Int) (htm : v.tmod 4294967296 = tm) (s2 : v % 4294967296 = d) (s1 : v / 4294967296 = c2) (hneg : tm < 0) : tm + 4294967296 = d ∧ (v - d).tdiv 4294967296 = c2 ∧ -4294967296 < tm := by
  have h1 := Int.mul_ediv_add_emod v 4294967296
  have h2 := Int.mul_tdiv_add_tmod v 4294967296
  have hlt : -4294967296 < tm := by
    have := Int.natAbs_tmod v 4294967296
    rw [htm] at this
    have h3 := Nat.mod_lt v.natAbs (show 0 < (4294967296 : Int).natAbs by decide)
    omega
  have hd0 := Int.emod_nonneg v (by decide : (4294967296 : Int) ≠ 0)
  have hd1 := Int.emod_lt_of_pos v (by decide : (0 : Int) < 4294967296)
  rw [htm] at h2
  rw [s2] at h1 hd0 hd1
  rw [s1] at h1
  generalize v.tdiv 4294967296 = k at *
  refine ⟨by omega, ?_, hlt⟩
  have e : v - d = c2 * 4294967296 := by omega
  rw [e, Int.mul_tdiv_cancel _ (by decide)]
theorem carry_pos (v d tm c2 : Int) (htm : v.tmod 4294967296 = tm) (s2 : v % 4294967296 = d) (s1 : v / 4294967296 = c2) (hneg : 0 ≤ tm) : tm = d ∧ (v - d).tdiv 4294967296 = c2 ∧ tm < 4294967296 := by
  have h1 := Int.mul_ediv_add_emod v 4294967296
  have h2 := Int.mul_tdiv_add_tmod v 4294967296
  have hlt : tm < 4294967296 := by
    have := Int.natAbs_tmod v 4294967296
    rw [htm] at this
    have h3 := Nat.mod_lt v.natAbs (show 0 < (4294967296 : Int).natAbs by decide)
    omega
  have hd0 := Int.emod_nonneg v (by decide : (4294967296 : Int) ≠ 0)
  have hd1 := Int.emod_lt_of_pos v (by decide : (0 : Int) < 4294967296)
  rw [htm] at h2
  rw [s2] at h1 hd0 hd1
  rw [s1] at h1
  generalize v.tdiv 4294967296 = k at *
  refine ⟨by omega, ?_, hlt⟩
  have e : v - d = c2 * 4294967296 := by omega
  rw [e, Int.mul_tdiv_cancel _ (by decide)]

set_option maxHeartbeats 8000000 in
set_option maxRecDepth 100000 in
theorem carried_go (g : Nat) (f : Nat → Int) (c : Int) (p q r o : Bool) (V : Int) (w : World) (hR : Hid (IsR g f c p q r o w)) (hl : Hid (Lim f 72057594037927936)) (hV : Hid (valN f 136 = V)) (D : Nat → Int) (hD : Hid (∀ j, j < 136 → dig (if V < 0 then -V else V) j = D j)) (nb : Bool) (hn : Hid (nb = decide (V < 0)))
    (hq0 : Hid (0 ≤ V → 0 ≤ cr f 136)) (hq1 : Hid (V < 0 → cr f 136 < 0)) (hq2 : Hid (V < 0 → 0 ≤ cr (fun i => -f i) 136)) :
    Calls Try.prog 40 #[.pointer (some ⟨g, 0, none⟩)] w fun e w' => e = .returned (.tuple #[.agg (encL D), .bool nb]) ∧ Hid (Below w.heap.size w w') := by
  have hgs := row_lt hR.out
  have HGS := hid hgs
  clear hgs
  go_enter Try.func40, Try.ntmps40
  go_upto_region 0 with fail
  rename_i K hK
  apply wp_region_lit
  refine wpList_alloc_row rfl 57 rfl ZL zero_limbs ?_
  go_upto_region 1 with fail
  rename_i K1 hK1
  apply wp_region_lit
  refine wpList_plain rfl (fun K2 hK2 => ?_)
  have HK := hid hK2
  clear hK2
  go_wp2
  refine HK.out _ _ ?_
  clear HK K2
  refine wpList_plain rfl (fun K2 hK2 => ?_)
  have HK := hid hK2
  clear hK2
  go_wp2
  refine HK.out _ _ ?_
  clear HK K2
  refine wpList_plain rfl (fun K2 hK2 => ?_)
  have HK := hid hK2
  clear hK2
  go_wp2
  refine HK.out _ _ ?_
  clear HK K2
  have hrg := World.rangeAt_alloc hR.out.range (.cells ZL 57)
  have sC := encL_size f
  have oC := encL_one f
  obtain ⟨C, hC⟩ : ∃ C, encL f = C := ⟨_, rfl⟩
  obtain ⟨Z, hZ⟩ : ∃ Z, ZL = Z := ⟨_, rfl⟩
  have zl := zero_limbs
  have sZ := ZL_size
  rw [hZ] at hrg zl sZ ⊢
  rw [hC] at hrg sC oC
  refine wpList_load_mid rfl 57 _ rfl g 0 rfl C.toList _ hrg Try.underlying57 rfl (by rw [Array.length_toList, sC]; exact size_limbs) ?_
  rw [Array.toArray_toList]
  refine wpList_alloc_row rfl 57 rfl Z zl ?_
  have hsz : (w.alloc (.cells Z 57)).heap.size = w.heap.size + 1 := by simp
  rw [hsz]
  have q1 : ((w.alloc (.cells Z 57)).alloc (.cells Z 57)).heap[w.heap.size + 1]? = some (.cells Z 57) := heap_alloc2_new _ _ _
  have q2 : ((w.alloc (.cells Z 57)).alloc (.cells Z 57)).heap[w.heap.size]? = some (.cells Z 57) := heap_alloc2_old _ _ _
  refine wpList_store_row rfl 57 _ _ rfl (w.heap.size + 1) C rfl rfl 57 Z q1 (by rw [sC]; exact size_limbs) (by rw [sC, sZ]) oC ?_
  have hrow := hid (setRow_heap _ (w.heap.size + 1) _ C _ (0, 0) q1)
  have hrow2 := hid ((setRow_other ((w.alloc (.cells Z 57)).alloc (.cells Z 57)) (w.heap.size + 1) w.heap.size C (by omega)).trans q2)
  have B1 : Hid (Below w.heap.size w (((w.alloc (.cells Z 57)).alloc (.cells Z 57)).setRow (w.heap.size + 1) C)) := by
    refine (((Below.refl _ _).alloc (by omega) (.cells Z 57)).alloc (by simp) (.cells Z 57)).trans ⟨rfl, rfl, rfl, by simp [World.setRow], fun k hk => ?_⟩
    rw [setRow_other _ _ _ _ (by omega)]
  obtain ⟨W, hW⟩ : ∃ W, ((w.alloc (.cells Z 57)).alloc (.cells Z 57)).setRow (w.heap.size + 1) C = W := ⟨_, rfl⟩
  rw [hW] at hrow hrow2 B1 ⊢
  obtain ⟨G, hG⟩ : ∃ G, w.heap.size = G := ⟨_, rfl⟩
  have HG := hid hG
  rw [hG] at hrow hrow2 B1 ⊢
  rw [← hC] at hrow
  clear hW hsz hG q1 q2 hrg sC oC zl hC
  have HZ := hid hZ
  have SZ := hid sZ
  clear hZ sZ
  apply wpList_nil
  refine hK1 _ _ ?_
  clear hK1 K1
  go_wp2
  go_loopw [5, 6] (fun nv tv wr => ∃ (t : Nat) (h : Nat → Int) (ngv : Bool), tv = .int .i64 (t : Nat) ∧ nv = .bool ngv ∧ ((t = 0 ∧ ngv = false ∧ h = f) ∨ (t = 1 ∧ ngv = true ∧ h = (fun i => -f i) ∧ V < 0)) ∧ wr.heap[G + 1]? = some (.cells (encL h) 57) ∧ wr.heap[G]? = some (.cells Z 57) ∧ Below G w wr) (fun _ tv _ => 2 - (intOf tv).toNat)
  case atStart => exact ⟨0, f, false, rfl, rfl, Or.inl ⟨rfl, rfl, rfl⟩, hrow.out, hrow2.out, B1.out⟩
  case round =>
    clear hrow hrow2 B1
    obtain ⟨t, h, ngv, rfl, rfl, hc, r1, r2, bel⟩ := hrel
    have tl : ((t : Nat) : Int) < 2 := by rcases hc with hc | hc <;> omega
    have hlh : Lim h 72057594037927936 := by
      rcases hc with ⟨_, _, e⟩ | ⟨_, _, e, _⟩
      · rw [e]; exact hl.out
      · rw [e]; intro i; have := hl.out i; show _ ≤ -f i ∧ -f i ≤ _; omega
    obtain ⟨U, hU⟩ : ∃ U, valN h 136 = U := ⟨_, rfl⟩
    have HC := hid hc
    have HLH := hid hlh
    have HU := hid hU
    have R1 := hid r1
    have R2 := hid r2
    have BE := hid bel
    clear hc hlh hU r1 r2 bel
    go_wp2
    go_loopw [7, 8] (fun cv iv wr => ∃ i : Nat, i ≤ 136 ∧ cv = .int .i64 (cr h i) ∧ iv = .int .i64 (i : Nat) ∧ wr.heap[G + 1]? = some (.cells (encL (mix i (dig U) h)) 57) ∧ wr.heap[G]? = some (.cells Z 57) ∧ Below G w wr) (fun _ iv _ => 136 - (intOf iv).toNat)
    case atStart =>
      refine ⟨0, by omega, by rw [cr_zero], rfl, ?_, R2.out, BE.out⟩
      rw [R1.out]
      have : encL h = encL (mix 0 (dig U) h) := encL_congr _ _ (fun j _ => by unfold mix; rw [if_neg (by omega)])
      rw [this]
    case round =>
      clear R1 R2 BE
      obtain ⟨i, hi, rfl, rfl, r1, r2, bel⟩ := hrel
      have hb := cr_bound2 h _ HLH.out (by omega) i
      by_cases hil : i < 136
      · have ch := lim_cell _ i _ _ _ r1 hil
        have fh := frozen_of_row _ _ i _ _ r1
        have em : mix i (dig U) h i = h i := by unfold mix; rw [if_neg (by omega)]
        rw [em] at ch
        have s1 := cr_succ h i
        have s2 := dig_eq h i 136 hil
        rw [HU.out] at s2
        have hb2 := HLH.out i
        have il : ((i : Nat) : Int) < 136 := by omega
        have R1 := hid r1
        have R2 := hid r2
        have BE := hid bel
        have HI := hid hil
        obtain ⟨a, ha⟩ : ∃ a, h i = a := ⟨_, rfl⟩
        obtain ⟨b, hb'⟩ : ∃ a, cr h i = a := ⟨_, rfl⟩
        obtain ⟨c2, hc2⟩ : ∃ a, cr h (i + 1) = a := ⟨_, rfl⟩
        obtain ⟨d, hd⟩ : ∃ a, dig U i = a := ⟨_, rfl⟩
        rw [ha] at ch s1 s2 hb2
        rw [hb'] at s1 s2 hb ⊢
        rw [hc2] at s1
        rw [hd] at s2
        have HC2 := hid hc2
        have HDD := hid hd
        obtain ⟨b0, b1⟩ := hb
        obtain ⟨a0, a1⟩ := hb2
        obtain ⟨v, hv⟩ : ∃ v, a + b = v := ⟨_, rfl⟩
        have hv' : b + a = v := by omega
        rw [hv'] at s1 s2
        have v0 : -144115188075855874 ≤ v := by omega
        have v1 : v ≤ 144115188075855874 := by omega
        have k0 : -33554440 ≤ c2 := by omega
        have k1 : c2 ≤ 33554440 := by omega
        clear r1 r2 bel hil hi em ha hb' hc2 hd hv'
        by_cases hneg : v.tmod 4294967296 < 0
        · obtain ⟨tm, htm⟩ : ∃ tm, v.tmod 4294967296 = tm := ⟨_, rfl⟩
          rw [htm] at hneg
          obtain ⟨e1, e2, t0⟩ := carry_neg v d tm c2 htm s2 s1 hneg
          have d0 : 0 ≤ d := by omega
          have d1 : d < 4294967296 := by omega
          clear s1 s2
          go_wp2
          refine ⟨⟨i + 1, HI.out, by rw [HC2.out], by simp, ?_, ?_, BE.out.setCell (by simp) _⟩, by have := HI.out; simp [intOf]; omega⟩
          · rw [lim_set _ _ _ _ _ _ R1.out HI.out, ← HDD.out, mix_step]
          · rw [Below.heap_setCell _ _ _ _ (by simp)]; exact R2.out
        · obtain ⟨tm, htm⟩ : ∃ tm, v.tmod 4294967296 = tm := ⟨_, rfl⟩
          rw [htm] at hneg
          have t0 : 0 ≤ tm := by omega
          obtain ⟨e1, e2, t1⟩ := carry_pos v d tm c2 htm s2 s1 t0
          subst e1
          clear s1 s2 hneg
          go_wp2
          refine ⟨⟨i + 1, HI.out, by rw [HC2.out], by simp, ?_, ?_, BE.out.setCell (by simp) _⟩, by have := HI.out; simp [intOf]; omega⟩
          · rw [lim_set _ _ _ _ _ _ R1.out HI.out, ← HDD.out, mix_step]
          · rw [Below.heap_setCell _ _ _ _ (by simp)]; exact R2.out
      · have e : i = 136 := by omega
        have il : decide (((i : Nat) : Int) < 136) = false := decide_eq_false (by omega)
        have hfin : encL (mix i (dig U) h) = encL (dig U) := encL_congr _ _ (fun j hj => by unfold mix; rw [if_pos (by omega)])
        rw [hfin] at r1
        have e2 : cr h i = cr h 136 := by rw [e]
        rw [e2] at hb ⊢
        obtain ⟨cv, hcv⟩ : ∃ a, cr h 136 = a := ⟨_, rfl⟩
        rw [hcv] at hb ⊢
        have HCV := hid hcv
        have R1 := hid r1
        have R2 := hid r2
        have BE := hid bel
        obtain ⟨b0, b1⟩ := hb
        clear r1 r2 bel hcv hfin e e2 hil hi
        by_cases hpos : 0 ≤ cv
        · have hdone : encL (dig U) = encL D ∧ nb = ngv := by
            rcases HC.out with ⟨_, e1, e2⟩ | ⟨_, e1, e2, e3⟩
            · have hV0 : ¬ V < 0 := fun hlt => by
                have := hq1.out hlt
                rw [← e2, HCV.out] at this; omega
              have hUV : U = V := by rw [← HU.out, ← hV.out, e2]
              refine ⟨encL_congr _ _ (fun j hj => ?_), by rw [hn.out, e1, decide_eq_false hV0]⟩
              rw [← hD.out j hj, if_neg hV0, hUV]
            · have hUV : U = -V := by rw [← HU.out, ← hV.out, e2, valN_neg]
              refine ⟨encL_congr _ _ (fun j hj => ?_), by rw [hn.out, e1, decide_eq_true e3]⟩
              rw [← hD.out j hj, if_pos e3, hUV]
          rw [hdone.1] at R1
          have sD := encL_size D
          have oD := encL_one D
          obtain ⟨E, hE⟩ : ∃ E, encL D = E := ⟨_, rfl⟩
          rw [hE] at R1 sD oD
          have HE := hid hE
          have hnb := hdone.2
          subst hnb
          have SD := hid sD
          have OD := hid oD
          clear hdone hE sD oD
          go_upto_region 23 with fail
          rename_i K3 hK3
          apply wp_region_lit
          refine wpList_load_row rfl 57 _ rfl (G + 1) rfl 57 E (0, 0) _ R1.out Try.underlying57 rfl (by rw [SD.out]; exact size_limbs) ?_
          refine wpList_plain rfl (fun K2 hK2 => ?_)
          have HK := hid hK2
          clear hK2
          go_wp2
          refine HK.out _ _ ?_
          clear HK K2
          refine wpList_store_row rfl 57 _ _ rfl G E rfl rfl 57 Z R2.out (by rw [SD.out]; exact size_limbs) (by rw [SD.out, SZ.out]) OD.out ?_
          have hrow := setRow_heap _ G _ E _ (0, 0) R2.out
          have B9 : Below G w (wr.setRow G E) := by
            refine BE.out.trans ⟨rfl, rfl, rfl, by simp [World.setRow], fun k hk => ?_⟩
            rw [setRow_other _ _ _ _ (by omega)]
          have HROW := hid hrow
          have HB9 := hid B9
          obtain ⟨W9, hW9⟩ : ∃ W, wr.setRow G E = W := ⟨_, rfl⟩
          rw [hW9] at HROW HB9 ⊢
          clear hrow B9 hW9 R1 R2 BE
          refine wpList_plain rfl (fun K2 hK2 => ?_)
          have HK := hid hK2
          clear hK2
          go_wp2
          refine HK.out _ _ ?_
          clear HK K2
          apply wpList_nil
          refine hK3 _ _ ?_
          clear hK3 K3
          apply wp_ret
          refine bodyPost_ret (v := .tuple #[.agg E, .bool nb]) ?_ rfl ⟨by rw [HE.out], ?_⟩
          · exact results_cell_two Try.results40 _ _ G _ E (0, 0) _ _ rfl rfl HROW.out Try.underlying57 rfl (by rw [SD.out]; exact size_limbs)
          · show Below _ _ _
            rw [HG.out]; exact HB9.out
        · have hneg : cv < 0 := by omega
          have ht0 : t = 0 ∧ ngv = false ∧ h = f ∧ V < 0 := by
            rcases HC.out with ⟨e0, e1, e2⟩ | ⟨_, e1, e2, e3⟩
            · refine ⟨e0, e1, e2, ?_⟩
              by_cases hV0 : V < 0
              · exact hV0
              · have := hq0.out (by omega)
                rw [← e2, HCV.out] at this; omega
            · have := hq2.out e3
              rw [← e2, HCV.out] at this; omega
          obtain ⟨t0, hng, hhf, hVn⟩ := ht0
          have T0 := hid t0
          have HVN := hid hVn
          clear t0 hVn hpos
          have sU := encL_size (dig U)
          obtain ⟨E, hE⟩ : ∃ E, encL (dig U) = E := ⟨_, rfl⟩
          rw [hE] at R1 sU
          have sC := encL_size f
          have oC := encL_one f
          have hrg0 : wr.rangeAt g 0 (encL f).toList := by
            have := hR.out.range
            intro j v hv
            have h1 := this j v hv
            rw [BE.out.cell (p := ⟨g, 0 + j, none⟩) (by rw [← HG.out]; exact HGS.out)]; exact h1
          obtain ⟨C2, hC2⟩ : ∃ C, encL f = C := ⟨_, rfl⟩
          rw [hC2] at hrg0 sC oC
          have SU := hid sU
          have SC := hid sC
          have OC := hid oC
          have HC2 := hid hC2
          have HRG := hid hrg0
          clear sU sC oC hC2 hrg0 hE
          go_upto_region 18 with fail
          rename_i K3 hK3
          apply wp_region_lit
          refine wpList_plain rfl (fun K2 hK2 => ?_)
          have HK := hid hK2
          clear hK2
          go_wp2
          refine HK.out _ _ ?_
          clear HK K2
          refine wpList_plain rfl (fun K2 hK2 => ?_)
          have HK := hid hK2
          clear hK2
          go_wp2
          refine HK.out _ _ ?_
          clear HK K2
          refine wpList_plain rfl (fun K2 hK2 => ?_)
          have HK := hid hK2
          clear hK2
          go_wp2
          refine HK.out _ _ ?_
          clear HK K2
          refine wpList_load_mid rfl 57 _ rfl g 0 rfl C2.toList _ HRG.out Try.underlying57 rfl (by rw [Array.length_toList, SC.out]; exact size_limbs) ?_
          rw [Array.toArray_toList]
          refine wpList_store_row rfl 57 _ _ rfl (G + 1) C2 rfl rfl 57 E R1.out (by rw [SC.out]; exact size_limbs) (by rw [SC.out, SU.out]) OC.out ?_
          have hrow := hid (setRow_heap _ (G + 1) _ C2 _ (0, 0) R1.out)
          have hrow2 : Hid ((wr.setRow (G + 1) C2).heap[G]? = some (.cells Z 57)) := by
            show _ = _
            rw [setRow_other _ _ _ _ (by omega)]; exact R2.out
          have B9 : Hid (Below G w (wr.setRow (G + 1) C2)) := by
            refine BE.out.trans ⟨rfl, rfl, rfl, by simp [World.setRow], fun k hk => ?_⟩
            rw [setRow_other _ _ _ _ (by omega)]
          obtain ⟨W9, hW9⟩ : ∃ W, wr.setRow (G + 1) C2 = W := ⟨_, rfl⟩
          rw [hW9] at hrow hrow2 B9 ⊢
          rw [← HC2.out] at hrow
          clear hW9 R1 R2 BE HRG
          apply wpList_nil
          refine hK3 _ _ ?_
          clear hK3 K3
          go_wp2
          go_loopw [11] (fun iv wr => ∃ i : Nat, i ≤ 136 ∧ iv = .int .i64 (i : Nat) ∧ wr.heap[G + 1]? = some (.cells (encL (mix i (fun j => -f j) f)) 57) ∧ wr.heap[G]? = some (.cells Z 57) ∧ Below G w wr) (fun iv _ => 136 - (intOf iv).toNat)
          case atStart =>
            refine ⟨0, by omega, rfl, ?_, hrow2.out, B9.out⟩
            rw [hrow.out]
            have : encL f = encL (mix 0 (fun j => -f j) f) := encL_congr _ _ (fun j _ => by unfold mix; rw [if_neg (by omega)])
            rw [this]
          case round =>
            clear hrow hrow2 B9
            obtain ⟨i2, hi2, rfl, r1, r2, bel⟩ := hrel
            by_cases hil2 : i2 < 136
            · have ch := lim_cell _ i2 _ _ _ r1 hil2
              have fh := frozen_of_row _ _ i2 _ _ r1
              have em : mix i2 (fun j => -f j) f i2 = f i2 := by unfold mix; rw [if_neg (by omega)]
              rw [em] at ch
              have hb2 := hl.out i2
              have il2 : ((i2 : Nat) : Int) < 136 := by omega
              have R1 := hid r1
              have R2 := hid r2
              have BE := hid bel
              have HI := hid hil2
              obtain ⟨a, ha⟩ : ∃ a, f i2 = a := ⟨_, rfl⟩
              rw [ha] at ch hb2
              have HA := hid ha
              obtain ⟨a0, a1⟩ := hb2
              clear r1 r2 bel em ha hil2 hi2
              go_wp2
              go_roundw
              case measure => have := HI.out; simp [intOf]; omega
              refine ⟨i2 + 1, HI.out, by simp, ?_, ?_, BE.out.setCell (by simp) _⟩
              · rw [lim_set _ _ _ _ _ _ R1.out HI.out, ← HA.out, ← mix_step]
              · rw [Below.heap_setCell _ _ _ _ (by simp)]; exact R2.out
            · have il2 : decide (((i2 : Nat) : Int) < 136) = false := decide_eq_false (by omega)
              have hfin : encL (mix i2 (fun j => -f j) f) = encL (fun j => -f j) := encL_congr _ _ (fun j hj => by unfold mix; rw [if_pos (by omega)])
              rw [hfin] at r1
              have R1 := hid r1
              have R2 := hid r2
              have BE := hid bel
              clear r1 r2 bel hfin hil2 hi2
              go_wp2
              go_roundw
              case measure => have := T0.out; simp [intOf]; omega
              exact ⟨1, fun j => -f j, true, by have := T0.out; subst this; rfl, rfl, Or.inr ⟨rfl, rfl, rfl, HVN.out⟩, R1.out, R2.out, BE.out⟩
end Go.Proofs.Ytgbnabpbheebjaa
