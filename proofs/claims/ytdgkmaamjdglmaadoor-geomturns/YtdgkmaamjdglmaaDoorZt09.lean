/-
  Some of the texts of this proof, one behind the other.
-/
import Derived.Test.YtdgkmaamjdglmaaDoorZt08
import Derived.Test.YtdgkmaamjdglmaaDoorZt06
import Derived.Test.YtdgkmaamjdglmaaDoorZt07
import Derived.Deep.RegionHeld3
/-
  Turns of a cell, and turns one behind the other: contracts.
-/
namespace Go.Proofs.YtdgkmaamjdglmaaDoor
open Go.RowKit Cu
theorem un_rX : ∀ t < 24, ((-1 ≤ (rX t).1 ∧ (rX t).1 ≤ 1) ∧ (-1 ≤ (rX t).2.1 ∧ (rX t).2.1 ≤ 1) ∧ (-1 ≤ (rX t).2.2 ∧ (rX t).2.2 ≤ 1)) := by decide +kernel
theorem un_rY : ∀ t < 24, ((-1 ≤ (rY t).1 ∧ (rY t).1 ≤ 1) ∧ (-1 ≤ (rY t).2.1 ∧ (rY t).2.1 ≤ 1) ∧ (-1 ≤ (rY t).2.2 ∧ (rY t).2.2 ≤ 1)) := by decide +kernel
theorem un_rZ : ∀ t < 24, ((-1 ≤ (rZ t).1 ∧ (rZ t).1 ≤ 1) ∧ (-1 ≤ (rZ t).2.1 ∧ (rZ t).2.1 ≤ 1) ∧ (-1 ≤ (rZ t).2.2 ∧ (rZ t).2.2 ≤ 1)) := by decide +kernel
set_option maxHeartbeats 8000000 in
theorem turn_go (n c f i j t f2 i2 j2 q : Nat) (p r o : P3) (w : World) (hn : 1 ≤ n ∧ n ≤ 32) (hf : f < 6) (hi : i < n) (hj : j < n) (ht : t < 24) (hf2 : f2 < 6) (hi2 : i2 < n) (hj2 : j2 < n) (hq : q < 4) (h : Fr w)
    (PL : Hid (∀ w, Calls Tryd.prog 23 #[.int .i64 n, .int .i64 c] w fun e w' => e = .returned (.tuple #[.int .i64 f, .int .i64 i, .int .i64 j, .bool true]) ∧ ∃ k, w' = w.drewN k))
    (hp : md n f i j = p) (hr : md n f2 i2 j2 = r) (hpr : ro t p = r) (ho : wy f2 q = o) (hro : ro t (cR f) = o) :
    Calls Tryd.prog 17 #[.int .i64 n, .int .i64 t, .int .i64 c] w fun e w' => e = .returned (.tuple #[.int .i64 (cN n f2 i2 j2), .int .i64 q]) ∧ Below w.heap.size w w' := by
  have CT : Hid (∀ w, Calls Tryd.prog 24 #[.int .i64 t, .int .i64 24] w fun e w' => e = .returned (.bool true) ∧ w' = w) := fun w => by
    have := counts_at t 24 w
    rwa [show inR t 24 = true by rw [inR_iff]; omega] at this
  have RO := hid (fun (u : World) (hu : Ab w u) => rotationOf_at t u ht (h.to hu))
  have MI : Hid (∀ u, Ab w u → Calls Tryd.prog 26 #[.int .i64 n, .int .i64 f, .int .i64 i, .int .i64 j] u fun e w' => e = .returned (.agg #[.int .i64 p.1, .int .i64 p.2.1, .int .i64 p.2.2]) ∧ Below u.heap.size u w') := fun u hu => by
    rw [← hp]; exact middle_at n f i j u (by omega) hf (by omega) (by omega) (h.to hu)
  have hm := md_le hf hi hj hn.2
  rw [hp] at hm
  have OF : Hid (∀ u, Calls Tryd.prog 40 #[.agg #[.int .i64 (rX t).1, .int .i64 (rX t).2.1, .int .i64 (rX t).2.2, .int .i64 (rY t).1, .int .i64 (rY t).2.1, .int .i64 (rY t).2.2, .int .i64 (rZ t).1, .int .i64 (rZ t).2.1, .int .i64 (rZ t).2.2], .agg #[.int .i64 p.1, .int .i64 p.2.1, .int .i64 p.2.2]] u fun e w' => e = .returned (.agg #[.int .i64 r.1, .int .i64 r.2.1, .int .i64 r.2.2]) ∧ Below u.heap.size u w') := fun u => by
    rw [← hpr]; exact of_at (rX t) (rY t) (rZ t) p u (un_rX t ht) (un_rY t ht) (un_rZ t ht) (by omega)
  have UN : Hid (∀ u, Ab w u → Calls Tryd.prog 30 #[.int .i64 n, .agg #[.int .i64 r.1, .int .i64 r.2.1, .int .i64 r.2.2]] u fun e w' => e = .returned (.tuple #[.int .i64 f2, .int .i64 i2, .int .i64 j2]) ∧ Below u.heap.size u w') := fun u hu => under_at n f2 i2 j2 r u hn hf2 hi2 hj2 hr (h.to hu)
  have CE := hid (fun u => cell_at n f2 i2 j2 u)
  have WY : Hid (∀ u, Ab w u → Calls Tryd.prog 25 #[.int .i64 f, .int .i64 0] u fun e w' => e = .returned (.agg #[.int .i64 (cR f).1, .int .i64 (cR f).2.1, .int .i64 (cR f).2.2]) ∧ Below u.heap.size u w') := fun u hu => way_at f 0 u hf (by omega) (h.to hu)
  have OE : Hid (∀ u, Calls Tryd.prog 40 #[.agg #[.int .i64 (rX t).1, .int .i64 (rX t).2.1, .int .i64 (rX t).2.2, .int .i64 (rY t).1, .int .i64 (rY t).2.1, .int .i64 (rY t).2.2, .int .i64 (rZ t).1, .int .i64 (rZ t).2.1, .int .i64 (rZ t).2.2], .agg #[.int .i64 (cR f).1, .int .i64 (cR f).2.1, .int .i64 (cR f).2.2]] u fun e w' => e = .returned (.agg #[.int .i64 o.1, .int .i64 o.2.1, .int .i64 o.2.2]) ∧ Below u.heap.size u w') := fun u => by
    rw [← hro]; exact of_at (rX t) (rY t) (rZ t) (cR f) u (un_rX t ht) (un_rY t ht) (un_rZ t ht) (un_R hf).le
  have SD : Hid (∀ u, Ab w u → Calls Tryd.prog 32 #[.int .i64 f2, .agg #[.int .i64 o.1, .int .i64 o.2.1, .int .i64 o.2.2]] u fun e w' => e = .returned (.int .i64 q) ∧ Below u.heap.size u w') := fun u hu => sideOf_at f2 q o u hf2 hq ho (h.to hu)
  clear hm hp hr hpr ho hro h
  go_enter Tryd.func17, Tryd.ntmps17
  go_upto_region 4 with (first
    | (go_at_call 23; refine (PL.out _).mono ?_; rintro e w' ⟨rfl, k, rfl⟩)
    | (go_at_call 24; refine (CT.out _).mono ?_; rintro e w' ⟨rfl, rfl⟩))
  have A1 : Ab w (w.drewN k) := (Ab.refl w).drewN k
  go_wp2_with fail
  refine (RO.out _ A1).mono ?_
  rintro e w1 ⟨rfl, b1⟩
  have A2 := hid (A1.call b1)
  clear b1 A1 PL CT RO
  go_upto_region 5 with fail
  generalize hW : World.alloc w1 _ = W
  obtain ⟨g, hg⟩ : ∃ g, w1.heap.size = g := ⟨_, rfl⟩
  have r12 : W.heap[g]? = some (.cells #[.int .i64 (rX t).1, .int .i64 (rX t).2.1, .int .i64 (rX t).2.2, .int .i64 (rY t).1, .int .i64 (rY t).2.1, .int .i64 (rY t).2.2, .int .i64 (rZ t).1, .int .i64 (rZ t).2.1, .int .i64 (rZ t).2.2] 75) := by rw [← hW, ← hg]; exact heap_alloc_new _ _
  have A3 : Ab w W := by rw [← hW]; exact A2.out.alloc _
  rw [hg]
  clear hW hg A2
  obtain ⟨U, F, hF1, hF2⟩ := cls W
  have HF := hid hF2
  have HF1 := hid hF1
  have x0 : ∀ u, (F u).cell? ⟨g, 0, none⟩ = some (.int .i64 (rX t).1) := fun u => cell_of_row _ _ 0 _ _ _ ((hF1 u).heap r12)
  have x1 : ∀ u, (F u).cell? ⟨g, 1, none⟩ = some (.int .i64 (rX t).2.1) := fun u => cell_of_row _ _ 1 _ _ _ ((hF1 u).heap r12)
  have x2 : ∀ u, (F u).cell? ⟨g, 2, none⟩ = some (.int .i64 (rX t).2.2) := fun u => cell_of_row _ _ 2 _ _ _ ((hF1 u).heap r12)
  have x3 : ∀ u, (F u).cell? ⟨g, 3, none⟩ = some (.int .i64 (rY t).1) := fun u => cell_of_row _ _ 3 _ _ _ ((hF1 u).heap r12)
  have x4 : ∀ u, (F u).cell? ⟨g, 4, none⟩ = some (.int .i64 (rY t).2.1) := fun u => cell_of_row _ _ 4 _ _ _ ((hF1 u).heap r12)
  have x5 : ∀ u, (F u).cell? ⟨g, 5, none⟩ = some (.int .i64 (rY t).2.2) := fun u => cell_of_row _ _ 5 _ _ _ ((hF1 u).heap r12)
  have x6 : ∀ u, (F u).cell? ⟨g, 6, none⟩ = some (.int .i64 (rZ t).1) := fun u => cell_of_row _ _ 6 _ _ _ ((hF1 u).heap r12)
  have x7 : ∀ u, (F u).cell? ⟨g, 7, none⟩ = some (.int .i64 (rZ t).2.1) := fun u => cell_of_row _ _ 7 _ _ _ ((hF1 u).heap r12)
  have x8 : ∀ u, (F u).cell? ⟨g, 8, none⟩ = some (.int .i64 (rZ t).2.2) := fun u => cell_of_row _ _ 8 _ _ _ ((hF1 u).heap r12)
  have MI' := hid (fun u => MI.out (F u) (A3.trans (hF1 u)))
  have UN' := hid (fun u => UN.out (F u) (A3.trans (hF1 u)))
  have WY' := hid (fun u => WY.out (F u) (A3.trans (hF1 u)))
  have SD' := hid (fun u => SD.out (F u) (A3.trans (hF1 u)))
  have D := HF.out _ (Ab.refl W).drew
  have D2 := hid (fun u => HF.out _ (hF1 u).drew)
  have A3' := hid A3
  clear hF1 hF2 r12 MI UN WY SD A3
  refine region_cls F (by kernel_rfl) (by kernel_rfl) D ?_
  repeat (go_big_quiet_step (first
    | rfl
    | (go_at_call 26; exact calls_cls HF HF1 (MI'.out _))
    | (go_at_call 40; exact calls_cls HF HF1 (OF.out _))
    | (go_at_call 30; exact calls_cls HF HF1 (UN'.out _))))
  refine wpQuiet_nil ?_
  intro wz hwz
  obtain ⟨u, rfl⟩ := hwz
  clear MI' OF UN'
  go_wp2_with fail
  refine region_cls F (by kernel_rfl) (by kernel_rfl) (D2.out u) ?_
  repeat (go_big_quiet_step (first
    | rfl
    | (go_at_call 31; exact (CE.out _).mono (fun _ _ ⟨he, hw⟩ => ⟨he, _, hw⟩))
    | (go_at_call 25; exact calls_cls HF HF1 (WY'.out _))
    | (go_at_call 40; exact calls_cls HF HF1 (OE.out _))
    | (go_at_call 32; exact calls_cls HF HF1 (SD'.out _))))
  refine wpQuiet_nil ?_
  intro wz hwz
  obtain ⟨v, rfl⟩ := hwz
  go_wp2
  go_ret2
  exact ⟨rfl, A3'.out.trans (HF1.out v)⟩
end Go.Proofs.YtdgkmaamjdglmaaDoor

/-
  Package cube's calls at cells that are there: contracts.
-/
namespace Go.Proofs.YtdgkmaamjdglmaaDoor
open Go.RowKit Cu
theorem clN_nat {n : Nat} (hn : 1 ≤ n ∧ n ≤ 32) : clN n = (6 * n * n : Nat) := by
  unfold clN
  rw [if_pos (by omega)]
  simp
theorem place_ok (n c : Nat) (hn : 1 ≤ n ∧ n ≤ 32) (hc : c < 6 * n * n) (w : World) :
    Calls Tryd.prog 23 #[.int .i64 n, .int .i64 c] w fun e w' => e = .returned (.tuple #[.int .i64 (cf n c), .int .i64 (ci n c), .int .i64 (cj n c), .bool true]) ∧ ∃ k, w' = w.drewN k := by
  have h := place_at n c w
  have hin : inR c (clN n) = true := by rw [inR_iff, clN_nat hn]; omega
  rw [hin, show pF n c = (cf n c : Nat) by simp [pF, hin, cf], show pI n c = (ci n c : Nat) by simp [pI, hin, ci], show pJ n c = (cj n c : Nat) by simp [pJ, hin, cj]] at h
  exact h
theorem cN_nat {n f i j : Nat} (hn : 1 ≤ n ∧ n ≤ 32) (hf : f < 6) (hi : i < n) (hj : j < n) : cN n f i j = (nm n f i j : Nat) := by
  unfold cN
  rw [if_pos ⟨by omega, by rw [inR_iff]; omega, by rw [inR_iff]; omega, by rw [inR_iff]; omega⟩]
  simp [nm]
theorem sm_100 {p : P3} (h : (-100 ≤ p.1 ∧ p.1 ≤ 100) ∧ (-100 ≤ p.2.1 ∧ p.2.1 ≤ 100) ∧ (-100 ≤ p.2.2 ∧ p.2.2 ≤ 100)) : Sm p := by unfold Sm; omega
theorem sm_pl {p q : P3} (h : (-100 ≤ p.1 ∧ p.1 ≤ 100) ∧ (-100 ≤ p.2.1 ∧ p.2.1 ≤ 100) ∧ (-100 ≤ p.2.2 ∧ p.2.2 ≤ 100)) (k : Un q) : Sm (pl p q) := by unfold Un at k; simp only [Sm, pl]; omega
/-- BESIDE, where there is such a cell and side -/
theorem beside_at (n c s : Nat) (w : World) (hn : 1 ≤ n ∧ n ≤ 32) (hc : c < 6 * n * n) (hs : s < 4) (h : Fr w) :
    Calls Tryd.prog 9 #[.int .i64 n, .int .i64 c, .int .i64 s] w fun e w' => e = .returned (.tuple #[.int .i64 (bsC n c s), .int .i64 (bsS n c s)]) ∧ Below w.heap.size w w' := by
  obtain ⟨h1, h2, h3, h4⟩ := dec_lt hn.1 hc
  have hm := md_le h1 h2 h3 hn.2
  have he := at_ah (s := s) hs h2 h3
  have hl := ah_lt (s := s) h2 h3
  have hms : md n (cf n c) (ci n c) (cj n c) = ms n (cf n c) s (ah n s (ci n c) (cj n c)) (lf n s (ci n c) (cj n c)) := by
    have := md_ms (f := cf n c) h1 hs hl.1 hl.2
    rwa [he.1, he.2] at this
  obtain ⟨d1, d2⟩ := ms_step (n := n) (a := ah n s (ci n c) (cj n c)) (b := lf n s (ci n c) (cj n c)) h1 hs
  rw [← hms] at d1 d2
  obtain ⟨w1, w2⟩ := wy_back _ h1 s hs
  have PL := hid (place_ok n c hn hc)
  by_cases ha : ah n s (ci n c) (cj n c) + 1 < n
  · have k := at_lt (s := s) ha hl.2
    have hr := md_ms (f := cf n c) h1 hs ha hl.2
    have := beside_go n c (cf n c) (ci n c) (cj n c) s (cf n c) _ _ ((s + 2) % 4) _ _ _ _ _ w hn h1 hs h1 k.1 k.2 (by omega) h2 h3 h PL rfl rfl d1 (sm_100 hm) (sm_pl hm (un_wy h1)) hr rfl
      (Or.inl ⟨by omega, d2, w1⟩)
    rw [cN_nat hn h1 k.1 k.2] at this
    unfold bsC bsS
    rw [if_pos ha, if_pos ha]
    exact this
  · obtain ⟨n1, n2⟩ := nf_lt _ h1 s hs
    have h0 : 0 < n := by omega
    have k := at_lt (s := ns (cf n c) s) h0 hl.2
    have hr := md_ms n1 n2 h0 hl.2
    have hedge := ms_edge (n := n) (a := ah n s (ci n c) (cj n c)) (b := lf n s (ci n c) (cj n c)) h1 hs (by omega)
    rw [← hms] at hedge
    have := beside_go n c (cf n c) (ci n c) (cj n c) s (nf (cf n c) s) _ _ ((ns (cf n c) s + 2) % 4) _ _ _ _ _ w hn h1 hs n1 k.1 k.2 (by omega) h2 h3 h PL rfl rfl d1 (sm_100 hm) (sm_pl hm (un_wy h1)) hr rfl
      (Or.inr ⟨by omega, hedge, w2⟩)
    rw [cN_nat hn n1 k.1 k.2] at this
    unfold bsC bsS
    rw [if_neg ha, if_neg ha]
    exact this
/-- TURN -/
theorem turn_at (n t c : Nat) (w : World) (hn : 1 ≤ n ∧ n ≤ 32) (hc : c < 6 * n * n) (ht : t < 24) (h : Fr w) :
    Calls Tryd.prog 17 #[.int .i64 n, .int .i64 t, .int .i64 c] w fun e w' => e = .returned (.tuple #[.int .i64 (tnC n t c), .int .i64 (tnS n t c)]) ∧ Below w.heap.size w w' := by
  obtain ⟨h1, h2, h3, h4⟩ := dec_lt hn.1 hc
  obtain ⟨t1, t2⟩ := tf_lt t ht _ h1
  have k := at_lt (s := tq t (cf n c)) h2 h3
  have := turn_go n c (cf n c) (ci n c) (cj n c) t (tf t (cf n c)) _ _ (tq t (cf n c)) _ _ _ w hn h1 h2 h3 ht t1 k.1 k.2 t2 h (hid (place_ok n c hn hc)) rfl rfl (ro_md ht h1 h2 h3) rfl (ro_tab t ht _ h1).2.1
  rw [cN_nat hn t1 k.1 k.2] at this
  exact this
/-- awake -/
theorem cells_nat (n : Nat) (hn : 1 ≤ n ∧ n ≤ 32) (w : World) : Calls Tryd.prog 20 #[.int .i64 n] w fun e w' => e = .returned (.int .i64 (6 * n * n : Nat)) ∧ w' = w := by
  rw [← clN_nat hn]; exact cells_at n w
end Go.Proofs.YtdgkmaamjdglmaaDoor

/-
  Points of the sphere, corners and middles: walks over the program.
-/
namespace Go.Proofs.YtdgkmaamjdglmaaDoor
open Go.RowKit Tf Cu
attribute [local go_sem] run_bits run_from raw_feq raw_fne raw_flt raw_fgt run_neg run_store_float
theorem res_two {P : Program} {fn : Func} {p q : Tmp} {ty : TypeId} (h : fn.results = #[.cell p ty, .tmp q]) (tmps : Array Value) (w : World) (g : Nat) (t : TypeId) (cs : Array Value) (fr : Nat × Nat) (d : TypeDesc) (v : Value)
    (hp : tmps.getD p undef = .pointer (some ⟨g, 0, none⟩)) (hq : tmps.getD q undef = v) (hg : w.heap[g]? = some (.cells cs t fr))
    (hu : P.underlying ty = some d) (hd : (match d with | .struct _ | .array _ _ => true | _ => false) = true) (hi : (P.info? ty).map (·.size) = some cs.size) :
    (results fn tmps).run P w = .ok (.tuple #[.agg cs, v]) w := by
  have hp' : tmps[p]?.getD undef = .pointer (some ⟨g, 0, none⟩) := by simpa using hp
  have hq' : tmps[q]?.getD undef = v := by simpa using hq
  simp [results, h, hp', hq', asAddr, run_loadVar_row w g t ty cs fr d hg hu hd hi]
theorem res_rows {P : Program} {fn : Func} {p q : Tmp} {ty : TypeId} (h : fn.results = #[.cell p ty, .cell q ty]) (tmps : Array Value) (w : World) (g0 g1 : Nat) (t : TypeId) (c0 c1 : Array Value) (d : TypeDesc)
    (hp : tmps.getD p undef = .pointer (some ⟨g0, 0, none⟩)) (hq : tmps.getD q undef = .pointer (some ⟨g1, 0, none⟩)) (h0 : w.heap[g0]? = some (.cells c0 t)) (h1 : w.heap[g1]? = some (.cells c1 t))
    (hu : P.underlying ty = some d) (hd : (match d with | .struct _ | .array _ _ => true | _ => false) = true) (i0 : (P.info? ty).map (·.size) = some c0.size) (i1 : (P.info? ty).map (·.size) = some c1.size) :
    (results fn tmps).run P w = .ok (.tuple #[.agg c0, .agg c1]) w := by
  have hp' : tmps[p]?.getD undef = .pointer (some ⟨g0, 0, none⟩) := by simpa using hp
  have hq' : tmps[q]?.getD undef = .pointer (some ⟨g1, 0, none⟩) := by simpa using hq
  simp [results, h, hp', hq', asAddr, run_loadVar_row w g0 t ty c0 (0, 0) d h0 hu hd i0, run_loadVar_row w g1 t ty c1 (0, 0) d h1 hu hd i1]
set_option maxHeartbeats 2000000 in
theorem part_at (k n : Int) (w : World) :
    Calls Tryd.prog 35 #[.int .i64 k, .int .i64 n] w fun e w' => ∃ r m, e = .returned (.float .f64 r) ∧ w' = w.drewN m ∧ Hid (IsC r (dvB (fB k) (fB n))) := by
  have F : Hid (∀ (k : Int) w, Calls Tryd.prog 50 #[.int .i64 k] w fun e w' => e = .returned (.float .f64 (fB k)) ∧ w' = w) := fun k w => fromInt_any k w
  obtain ⟨r, m, hr, hc⟩ := div_any (P := Tryd.prog) w (fB k) (fB n)
  have HC := hid hc
  generalize dvB (fB k) (fB n) = d at *
  clear hc
  go_enter Tryd.func35, Tryd.ntmps35
  go_wp2_with (first
    | (go_at_call 50; refine (F.out _ _).mono ?_; rintro e w' ⟨rfl, rfl⟩))
  go_ret
  exact ⟨r, m, rfl, rfl, HC⟩
set_option maxHeartbeats 1000000 in
theorem upTo_at (k n : Int) (w : World) :
    Calls Tryd.prog 43 #[.int .i64 k, .int .i64 n] w fun e w' => e = .returned (.bool (decide (0 ≤ k) && decide (k ≤ n))) ∧ w' = w := by
  by_cases h1 : 0 ≤ k
  · by_cases h2 : k ≤ n
    · rw [decide_eq_true h1, decide_eq_true h2]
      go_enter Tryd.func43, Tryd.ntmps43
      go_wp2
      go_ret
      exact ⟨rfl, rfl⟩
    · rw [decide_eq_true h1, decide_eq_false h2]
      go_enter Tryd.func43, Tryd.ntmps43
      go_wp2
      go_ret
      exact ⟨rfl, rfl⟩
  · rw [decide_eq_false h1, Bool.false_and]
    go_enter Tryd.func43, Tryd.ntmps43
    go_wp2
    go_ret
    exact ⟨rfl, rfl⟩
/-- the point of the cube -/
def oc (f p q : Nat) : Nat × Nat × Nat := match f with
  | 0 => (4607182418800017408, p, q) | 1 => (negB p, 4607182418800017408, q) | 2 => (13830554455654793216, negB p, q) | 3 => (p, 13830554455654793216, q) | 4 => (negB q, p, 4607182418800017408) | _ => (q, p, 13830554455654793216)
theorem oc_lt {f p q : Nat} (hp : p < 18446744073709551616) (hq : q < 18446744073709551616) : (oc f p q).1 < 18446744073709551616 ∧ (oc f p q).2.1 < 18446744073709551616 ∧ (oc f p q).2.2 < 18446744073709551616 := by
  have a := negB_lt' hp
  have b := negB_lt' hq
  unfold oc
  split <;> refine ⟨?_, ?_, ?_⟩ <;> dsimp only <;> first | assumption | omega
/-- a point of a face at p, q -/
def fp (n f : Nat) (k h : Int) : P3 := pl (sc n (cC f)) (pl (sc k (cR f)) (sc h (cU f)))
theorem cn_of {p d : Nat} (hp : IsC p d) : canonB (negB p) = cn d := by
  have h := cn_canon hp.1
  rw [hp.2] at h
  exact h.symm
theorem oc_fp {n f p q : Nat} {k h : Int} (n1 : 1 ≤ n) (n2 : n ≤ 32) (hf : f < 6) (hp : IsC p (qo n k)) (hq : IsC q (qo n h)) :
    canonB (oc f p q).1 = qo n (fp n f k h).1 ∧ canonB (oc f p q).2.1 = qo n (fp n f k h).2.1 ∧ canonB (oc f p q).2.2 = qo n (fp n f k h).2.2 := by
  have e1 : canonB 4607182418800017408 = qo n n := by rw [qo_one n (by omega) n1]; decide
  have e2 : canonB 13830554455654793216 = qo n (-n) := by rw [qo_neg n1 n2, qo_one n (by omega) n1]; decide
  have e3 : canonB (negB p) = qo n (-k) := by rw [qo_neg n1 n2]; exact cn_of hp
  have e4 : canonB (negB q) = qo n (-h) := by rw [qo_neg n1 n2]; exact cn_of hq
  have e5 := hp.2
  have e6 := hq.2
  rcases six hf with rfl | rfl | rfl | rfl | rfl | rfl <;> simp only [oc, fp, pl, sc, cC, cR, cU, e1, e2, e3, e4, e5, e6] <;> refine ⟨?_, ?_, ?_⟩ <;> congr 1 <;> omega
set_option maxHeartbeats 4000000 in
theorem onCube_at (f p q : Nat) (w : World) (hf : f < 6) (hp : p < 18446744073709551616) (hq : q < 18446744073709551616) :
    Calls Tryd.prog 47 #[.int .i64 f, .float .f64 p, .float .f64 q] w fun e w' => e = .returned (.agg #[.float .f64 (oc f p q).1, .float .f64 (oc f p q).2.1, .float .f64 (oc f p q).2.2]) ∧ Below w.heap.size w w' := by
  have n0 := negFloat_eq p hp
  have n1 := negFloat_eq q hq
  clear hp hq
  rcases six hf with rfl | rfl | rfl | rfl | rfl | rfl
  all_goals
    go_enter Tryd.func47, Tryd.ntmps47
    go_wp2
    refine bodyPost_ret ?_ rfl ⟨rfl, ?_⟩
    · exact results_cell_row Tryd.results47 _ _ w.heap.size _ _ (0, 0) _ rfl (heap_alloc_new w _) Tryd.underlying29 rfl (by kernel_rfl)
    · exact bl1 w _
set_option maxHeartbeats 8000000 in
theorem point_at (n f p q : Nat) (k h : Int) (w : World) (n1 : 1 ≤ n) (n2 : n ≤ 32) (hf : f < 6) (hp : IsC p (qo n k)) (hq : IsC q (qo n h)) :
    Calls Tryd.prog 34 #[.int .i64 f, .float .f64 p, .float .f64 q] w fun e w' => e = .returned (.agg #[.float .f64 (px n (fp n f k h)), .float .f64 (py n (fp n f k h)), .float .f64 (pz n (fp n f k h))]) ∧ Below w.heap.size w w' := by
  obtain ⟨c1, c2, c3⟩ := oc_fp n1 n2 hf hp hq
  obtain ⟨l1, l2, l3⟩ := oc_lt (f := f) hp.1 hq.1
  have OC := hid (fun w => onCube_at f p q w hf hp.1 hq.1)
  have UN := hid (fun w => unit_at _ _ _ w (qo_lt n (fp n f k h).1) (qo_lt n (fp n f k h).2.1) (qo_lt n (fp n f k h).2.2))
  have T0 := hid (fun u0 => canon_any _ u0 l1)
  have T1 := hid (fun u0 => canon_any _ u0 l2)
  have T2 := hid (fun u0 => canon_any _ u0 l3)
  rw [c1] at T0
  rw [c2] at T1
  rw [c3] at T2
  have hux : unB (lnB (qo n (fp n f k h).1) (qo n (fp n f k h).2.1) (qo n (fp n f k h).2.2)) (qo n (fp n f k h).1) = px n (fp n f k h) := rfl
  have huy : unB (lnB (qo n (fp n f k h).1) (qo n (fp n f k h).2.1) (qo n (fp n f k h).2.2)) (qo n (fp n f k h).2.1) = py n (fp n f k h) := rfl
  have huz : unB (lnB (qo n (fp n f k h).1) (qo n (fp n f k h).2.1) (qo n (fp n f k h).2.2)) (qo n (fp n f k h).2.2) = pz n (fp n f k h) := rfl
  rw [hux, huy, huz] at UN
  clear hux huy huz c1 c2 c3 l1 l2 l3 hp hq n1 n2 hf
  generalize px n (fp n f k h) = a at *
  generalize py n (fp n f k h) = b at *
  generalize pz n (fp n f k h) = c at *
  generalize qo n (fp n f k h).1 = d0 at *
  generalize qo n (fp n f k h).2.1 = d1 at *
  generalize qo n (fp n f k h).2.2 = d2 at *
  generalize (oc f p q).1 = x at *
  generalize (oc f p q).2.1 = y at *
  generalize (oc f p q).2.2 = z at *
  have A0 := hid (bl1 w (.cells #[.float .f64 0, .float .f64 0, .float .f64 0] 29))
  have R0 := hid (heap_alloc_new w (.cells #[.float .f64 0, .float .f64 0, .float .f64 0] 29))
  go_enter Tryd.func34, Tryd.ntmps34
  go_wp2_with fail
  refine (OC.out _).mono ?_
  rintro e v ⟨rfl, b1⟩
  have A1 : Hid (Ab w v) := Ab.call A0.out b1
  have R1 : Hid (v.heap[w.heap.size]? = some (.cells #[.float .f64 0, .float .f64 0, .float .f64 0] 29)) := Ab.heap b1 R0.out
  have hlt : w.heap.size < v.heap.size := by have := b1.size; simp at this; omega
  clear b1 A0 R0 OC
  go_upto_region 2 with fail
  generalize hW : World.alloc _ _ = W
  have AW : Hid (Ab w W) := by rw [← hW]; exact A1.out.call (bl1 _ _)
  have ra : W.heap[v.heap.size]? = some (.cells #[.float .f64 x, .float .f64 y, .float .f64 z] 29) := by rw [← hW]; exact heap_alloc_new _ _
  have rc : W.heap[w.heap.size]? = some (.cells #[.float .f64 0, .float .f64 0, .float .f64 0] 29) := by rw [← hW, Below.heap_alloc _ _ _ hlt]; exact R1.out
  have KS : Hid (∀ w', Abx W w.heap.size 3 29 w' → Abx W w.heap.size 3 29 w' ∧ w'.cell? ⟨v.heap.size, 0, none⟩ = some (.float .f64 x) ∧ w'.cell? ⟨v.heap.size, 1, none⟩ = some (.float .f64 y) ∧ w'.cell? ⟨v.heap.size, 2, none⟩ = some (.float .f64 z) ∧ w'.frozen? ⟨w.heap.size, 0, none⟩ = false ∧ w'.frozen? ⟨w.heap.size, 1, none⟩ = false ∧ w'.frozen? ⟨w.heap.size, 2, none⟩ = false ∧ w'.cell? ⟨w.heap.size, 0, none⟩ = some (rv w' (w.heap.size) 0) ∧ w'.cell? ⟨w.heap.size, 1, none⟩ = some (rv w' (w.heap.size) 1) ∧ w'.cell? ⟨w.heap.size, 2, none⟩ = some (rv w' (w.heap.size) 2)) := by
    intro w' hw
    obtain ⟨-, p3, p4, p5⟩ := rowfacts (hw.heap (by omega) ra)
    exact ⟨hw, p3, p4, p5, hw.free 0, hw.free 1, hw.free 2, hw.some (by omega), hw.some (by omega), hw.some (by omega)⟩
  have A3 : Abx W w.heap.size 3 29 W := (Ab.refl W).x rfl rc
  clear ra rc hW A1 R1
  go_region_held3 (fun w' => Abx W w.heap.size 3 29 w' ∧ w'.cell? ⟨v.heap.size, 0, none⟩ = some (.float .f64 x) ∧ w'.cell? ⟨v.heap.size, 1, none⟩ = some (.float .f64 y) ∧ w'.cell? ⟨v.heap.size, 2, none⟩ = some (.float .f64 z) ∧ w'.frozen? ⟨w.heap.size, 0, none⟩ = false ∧ w'.frozen? ⟨w.heap.size, 1, none⟩ = false ∧ w'.frozen? ⟨w.heap.size, 2, none⟩ = false ∧ w'.cell? ⟨w.heap.size, 0, none⟩ = some (rv w' (w.heap.size) 0) ∧ w'.cell? ⟨w.heap.size, 1, none⟩ = some (rv w' (w.heap.size) 1) ∧ w'.cell? ⟨w.heap.size, 2, none⟩ = some (rv w' (w.heap.size) 2)) ((refine KS.out _ ?_; (with_reducible (repeat (first | assumption | apply Abx.drew | apply Abx.drewN | apply Abx.set | (refine Abx.call ?_ (by assumption))))); done)) (first
    | (go_at_call_of 49 x; refine (T0.out _).mono ?_; rintro e w1 ⟨rfl, rfl⟩)
    | (go_at_call_of 49 y; refine (T1.out _).mono ?_; rintro e w2 ⟨rfl, rfl⟩)
    | (go_at_call_of 49 z; refine (T2.out _).mono ?_; rintro e w3 ⟨rfl, rfl⟩)
    | (go_at_call 48; refine (UN.out _).mono ?_; rintro e w4 ⟨rfl, b4⟩))
  have A2 : Abx W w.heap.size 3 29 w4 := Abx.call (A3.drew) b4
  clear KS A3 b4
  go_wp2
  refine bodyPost_ret ?_ rfl ⟨rfl, ?_⟩
  · exact results_cell_row Tryd.results34 _ _ (w.heap.size) _ _ (0, 0) _ rfl (set3 A2) Tryd.underlying29 rfl (by kernel_rfl)
  · exact (((A2.set 0 _).set 1 _).set 2 _).ab AW.out (by omega)
theorem cr_fp (n f i j : Nat) : cr n f i j = fp n f (2 * i - n) (2 * j - n) := rfl
theorem md_fp (n f i j : Nat) : md n f i j = fp n f (2 * i + 1 - n) (2 * j + 1 - n) := rfl
set_option maxHeartbeats 4000000 in
theorem corner_ok (n f i j : Nat) (w : World) (hn : 1 ≤ n ∧ n ≤ 32) (hf : f < 6) (hi : i ≤ n) (hj : j ≤ n) :
    Calls Tryd.prog 21 #[.int .i64 n, .int .i64 f, .int .i64 i, .int .i64 j] w fun e w' => e = .returned (.tuple #[.agg #[.float .f64 (px n (cr n f i j)), .float .f64 (py n (cr n f i j)), .float .f64 (pz n (cr n f i j))], .bool true]) ∧ Below w.heap.size w w' := by
  have CE : Hid (∀ u, Calls Tryd.prog 31 #[.int .i64 n, .int .i64 f, .int .i64 0, .int .i64 0] u fun e w' => e = .returned (.int .i64 (nm n f 0 0 : Nat)) ∧ w' = u) := fun u => by
    have h := cell_at n f 0 0 u
    rw [show (0 : Int) = ((0 : Nat) : Int) from rfl, cN_nat hn hf (by omega) (by omega)] at h
    exact h
  have U1 : Hid (∀ u, Calls Tryd.prog 43 #[.int .i64 i, .int .i64 n] u fun e w' => e = .returned (.bool true) ∧ w' = u) := fun u => by
    have h := upTo_at i n u
    rw [decide_eq_true (show (0 : Int) ≤ i by omega), decide_eq_true (show (i : Int) ≤ n by omega)] at h
    exact h
  have U2 : Hid (∀ u, Calls Tryd.prog 43 #[.int .i64 j, .int .i64 n] u fun e w' => e = .returned (.bool true) ∧ w' = u) := fun u => by
    have h := upTo_at j n u
    rw [decide_eq_true (show (0 : Int) ≤ j by omega), decide_eq_true (show (j : Int) ≤ n by omega)] at h
    exact h
  have PA : Hid (∀ (k : Int) u, Calls Tryd.prog 35 #[.int .i64 k, .int .i64 n] u fun e w' => ∃ r m, e = .returned (.float .f64 r) ∧ w' = u.drewN m ∧ Hid (IsC r (qo n k))) := fun k u => part_at k n u
  have PO : Hid (∀ p q u, Hid (IsC p (qo n (2 * i - n))) → Hid (IsC q (qo n (2 * j - n))) → Calls Tryd.prog 34 #[.int .i64 f, .float .f64 p, .float .f64 q] u fun e w' => e = .returned (.agg #[.float .f64 (px n (cr n f i j)), .float .f64 (py n (cr n f i j)), .float .f64 (pz n (cr n f i j))]) ∧ Below u.heap.size u w') := fun p q u hp hq => point_at n f p q _ _ u hn.1 hn.2 hf hp hq
  generalize px n (cr n f i j) = a at *
  generalize py n (cr n f i j) = b at *
  generalize pz n (cr n f i j) = c at *
  have A0 := hid (bl1 w (.cells #[.float .f64 0, .float .f64 0, .float .f64 0] 29))
  have R0 := hid (heap_alloc_new w (.cells #[.float .f64 0, .float .f64 0, .float .f64 0] 29))
  have hnm : nm n f 0 0 < 6 * n * n := nm_lt hf (by omega) (by omega)
  have hpos : (0 : Int) ≤ (nm n f 0 0 : Nat) := by omega
  generalize ((nm n f 0 0 : Nat) : Int) = nn at *
  have hi2 : (i : Int) ≤ 32 := by omega
  have hj2 : (j : Int) ≤ 32 := by omega
  have hn2 : (n : Int) ≤ 32 := by omega
  clear hnm hn hf hi hj
  go_enter Tryd.func21, Tryd.ntmps21
  go_wp2_with (first
    | (go_at_call 31; refine (CE.out _).mono ?_; rintro e w' ⟨rfl, rfl⟩)
    | (go_at_call_of 43 (i : Int); refine (U1.out _).mono ?_; rintro e w' ⟨rfl, rfl⟩)
    | (go_at_call_of 43 (j : Int); refine (U2.out _).mono ?_; rintro e w' ⟨rfl, rfl⟩))
  refine (PA.out _ _).mono ?_
  rintro e w1 ⟨p, m1, rfl, rfl, hp⟩
  go_wp2_with fail
  refine (PA.out _ _).mono ?_
  rintro e w1 ⟨q, m2, rfl, rfl, hq⟩
  go_wp2_with fail
  refine (PO.out _ _ _ hp hq).mono ?_
  rintro e w3 ⟨rfl, b3⟩
  have A3 : Hid (Ab w w3) := Ab.call (Ab.drewN A0.out _) b3
  have r0 : w3.heap[w.heap.size]? = some (.cells #[.float .f64 0, .float .f64 0, .float .f64 0] 29) := Ab.heap b3 R0.out
  obtain ⟨⟨o0, o1, o2⟩, o3, o4, o5⟩ := rowfacts r0
  have R3 := hid r0
  clear r0 b3 A0 R0
  go_wp2
  refine bodyPost_ret ?_ rfl ⟨rfl, ?_⟩
  · exact res_two Tryd.results21 _ _ w.heap.size _ _ (0, 0) _ _ rfl rfl (row3 R3.out) Tryd.underlying29 rfl (by kernel_rfl)
  · exact ((Ab.setk A3.out (by omega) _).setk (by omega) _).setk (by omega) _
set_option maxHeartbeats 4000000 in
theorem corner_no (n f i j : Int) (w : World) (h : ¬ ((1 ≤ n ∧ n ≤ 32) ∧ (0 ≤ f ∧ f < 6) ∧ (0 ≤ i ∧ i ≤ n) ∧ (0 ≤ j ∧ j ≤ n))) :
    Calls Tryd.prog 21 #[.int .i64 n, .int .i64 f, .int .i64 i, .int .i64 j] w fun e w' => e = .returned (.tuple #[.agg #[.float .f64 0, .float .f64 0, .float .f64 0], .bool false]) ∧ Below w.heap.size w w' := by
  have CE := hid (fun u => cell_at n f 0 0 u)
  have hc : (¬ ((1 ≤ n ∧ n ≤ 32) ∧ (0 ≤ f ∧ f < 6)) ∧ cN n f 0 0 = -1) ∨ (((1 ≤ n ∧ n ≤ 32) ∧ (0 ≤ f ∧ f < 6)) ∧ 0 ≤ cN n f 0 0) := by
    by_cases k : (1 ≤ n ∧ n ≤ 32) ∧ (0 ≤ f ∧ f < 6)
    · refine .inr ⟨k, ?_⟩
      unfold cN
      split
      · have := (cN_le (j := 0) k.1.1 k.1.2 k.2.1 k.2.2 (by omega) (by omega)).2.1; omega
      · rename_i c
        exact absurd ⟨k.1, by rw [inR_iff]; omega, by rw [inR_iff]; omega, by rw [inR_iff]; omega⟩ c
    · refine .inl ⟨k, ?_⟩
      unfold cN
      rw [if_neg]
      rintro ⟨c1, c2, -, -⟩
      rw [inR_iff] at c2
      exact k ⟨c1, c2⟩
  generalize cN n f 0 0 = nn at *
  have R0 := hid (heap_alloc_new w (.cells #[.float .f64 0, .float .f64 0, .float .f64 0] 29))
  rcases hc with ⟨-, rfl⟩ | ⟨k, hpos⟩
  · clear h
    go_enter Tryd.func21, Tryd.ntmps21
    go_wp2_with (first
      | (go_at_call 31; refine (CE.out _).mono ?_; rintro e w' ⟨rfl, rfl⟩))
    refine bodyPost_ret ?_ rfl ⟨rfl, bl1 w _⟩
    exact res_two Tryd.results21 _ _ w.heap.size _ _ (0, 0) _ _ rfl rfl (heap_alloc_new w _) Tryd.underlying29 rfl (by kernel_rfl)
  · by_cases ki : 0 ≤ i ∧ i ≤ n
    · have kj : ¬ (0 ≤ j ∧ j ≤ n) := fun kj => h ⟨k.1, k.2, ki, kj⟩
      have U1 : Hid (∀ u, Calls Tryd.prog 43 #[.int .i64 i, .int .i64 n] u fun e w' => e = .returned (.bool true) ∧ w' = u) := fun u => by
        have h := upTo_at i n u
        rw [decide_eq_true ki.1, decide_eq_true ki.2] at h
        exact h
      have U2 : Hid (∀ u, Calls Tryd.prog 43 #[.int .i64 j, .int .i64 n] u fun e w' => e = .returned (.bool false) ∧ w' = u) := fun u => by
        have h := upTo_at j n u
        rw [← Bool.decide_and, decide_eq_false kj] at h
        exact h
      have hk1 := hid k
      clear h ki kj k
      go_enter Tryd.func21, Tryd.ntmps21
      go_wp2_with (first
        | (go_at_call 31; refine (CE.out _).mono ?_; rintro e w' ⟨rfl, rfl⟩)
        | (go_at_call_of 43 i; refine (U1.out _).mono ?_; rintro e w' ⟨rfl, rfl⟩)
        | (go_at_call_of 43 j; refine (U2.out _).mono ?_; rintro e w' ⟨rfl, rfl⟩))
      refine bodyPost_ret ?_ rfl ⟨rfl, bl1 w _⟩
      exact res_two Tryd.results21 _ _ w.heap.size _ _ (0, 0) _ _ rfl rfl (heap_alloc_new w _) Tryd.underlying29 rfl (by kernel_rfl)
    · have U1 : Hid (∀ u, Calls Tryd.prog 43 #[.int .i64 i, .int .i64 n] u fun e w' => e = .returned (.bool false) ∧ w' = u) := fun u => by
        have h := upTo_at i n u
        rw [← Bool.decide_and, decide_eq_false ki] at h
        exact h
      clear h ki k
      go_enter Tryd.func21, Tryd.ntmps21
      go_wp2_with (first
        | (go_at_call 31; refine (CE.out _).mono ?_; rintro e w' ⟨rfl, rfl⟩)
        | (go_at_call_of 43 i; refine (U1.out _).mono ?_; rintro e w' ⟨rfl, rfl⟩))
      refine bodyPost_ret ?_ rfl ⟨rfl, bl1 w _⟩
      exact res_two Tryd.results21 _ _ w.heap.size _ _ (0, 0) _ _ rfl rfl (heap_alloc_new w _) Tryd.underlying29 rfl (by kernel_rfl)
set_option maxHeartbeats 4000000 in
theorem middle_ok (n c : Nat) (w : World) (hn : 1 ≤ n ∧ n ≤ 32) (hc : c < 6 * n * n) :
    Calls Tryd.prog 13 #[.int .i64 n, .int .i64 c] w fun e w' => e = .returned (.tuple #[.agg #[.float .f64 (px n (MD n c)), .float .f64 (py n (MD n c)), .float .f64 (pz n (MD n c))], .bool true]) ∧ Below w.heap.size w w' := by
  obtain ⟨h1, h2, h3, -⟩ := dec_lt hn.1 hc
  have PL := hid (fun u => place_ok n c hn hc u)
  have PA : Hid (∀ (k : Int) u, Calls Tryd.prog 35 #[.int .i64 k, .int .i64 n] u fun e w' => ∃ r m, e = .returned (.float .f64 r) ∧ w' = u.drewN m ∧ Hid (IsC r (qo n k))) := fun k u => part_at k n u
  have PO : Hid (∀ p q u, Hid (IsC p (qo n (2 * (ci n c : Nat) + 1 - n))) → Hid (IsC q (qo n (2 * (cj n c : Nat) + 1 - n))) → Calls Tryd.prog 34 #[.int .i64 (cf n c : Nat), .float .f64 p, .float .f64 q] u fun e w' => e = .returned (.agg #[.float .f64 (px n (MD n c)), .float .f64 (py n (MD n c)), .float .f64 (pz n (MD n c))]) ∧ Below u.heap.size u w') := fun p q u hp hq => point_at n _ p q _ _ u hn.1 hn.2 h1 hp hq
  generalize px n (MD n c) = a at *
  generalize py n (MD n c) = b at *
  generalize pz n (MD n c) = d at *
  generalize cf n c = f at *
  have hi : ((ci n c : Nat) : Int) ≤ 32 := by omega
  have hj : ((cj n c : Nat) : Int) ≤ 32 := by omega
  have hn2 : (n : Int) ≤ 32 := by omega
  generalize ci n c = i at *
  generalize cj n c = j at *
  clear hn hc h1 h2 h3
  have A0 := hid (bl1 w (.cells #[.float .f64 0, .float .f64 0, .float .f64 0] 29))
  have R0 := hid (heap_alloc_new w (.cells #[.float .f64 0, .float .f64 0, .float .f64 0] 29))
  go_enter Tryd.func13, Tryd.ntmps13
  go_wp2_with fail
  refine (PL.out _).mono ?_
  rintro e w1 ⟨rfl, m0, rfl⟩
  go_wp2_with fail
  refine (PA.out _ _).mono ?_
  rintro e w1 ⟨p, m1, rfl, rfl, hp⟩
  go_wp2_with fail
  refine (PA.out _ _).mono ?_
  rintro e w1 ⟨q, m2, rfl, rfl, hq⟩
  go_wp2_with fail
  refine (PO.out _ _ _ hp hq).mono ?_
  rintro e w3 ⟨rfl, b3⟩
  have A3 : Hid (Ab w w3) := Ab.call (Ab.drewN A0.out _) b3
  have r0 : w3.heap[w.heap.size]? = some (.cells #[.float .f64 0, .float .f64 0, .float .f64 0] 29) := Ab.heap b3 R0.out
  obtain ⟨⟨o0, o1, o2⟩, o3, o4, o5⟩ := rowfacts r0
  have R3 := hid r0
  clear r0 b3 A0 R0
  go_wp2
  refine bodyPost_ret ?_ rfl ⟨rfl, ?_⟩
  · exact res_two Tryd.results13 _ _ w.heap.size _ _ (0, 0) _ _ rfl rfl (row3 R3.out) Tryd.underlying29 rfl (by kernel_rfl)
  · exact ((Ab.setk A3.out (by omega) _).setk (by omega) _).setk (by omega) _
set_option maxHeartbeats 2000000 in
theorem middle_no (n c : Int) (w : World) (h : inR c (clN n) = false) :
    Calls Tryd.prog 13 #[.int .i64 n, .int .i64 c] w fun e w' => e = .returned (.tuple #[.agg #[.float .f64 0, .float .f64 0, .float .f64 0], .bool false]) ∧ Below w.heap.size w w' := by
  have PL := hid (fun u => place_at n c u)
  rw [h] at PL
  generalize pF n c = f at *
  generalize pI n c = i at *
  generalize pJ n c = j at *
  clear h
  go_enter Tryd.func13, Tryd.ntmps13
  go_wp2_with fail
  refine (PL.out _).mono ?_
  rintro e w1 ⟨rfl, m0, rfl⟩
  have r0 : (World.drewN (w.alloc (.cells #[.float .f64 0, .float .f64 0, .float .f64 0] 29)) m0).heap[w.heap.size]? = some (.cells #[.float .f64 0, .float .f64 0, .float .f64 0] 29) := heap_alloc_new _ _
  obtain ⟨⟨o0, o1, o2⟩, o3, o4, o5⟩ := rowfacts r0
  have R3 := hid r0
  clear r0
  go_wp2
  refine bodyPost_ret ?_ rfl ⟨rfl, ?_⟩
  · exact res_two Tryd.results13 _ _ w.heap.size _ _ (0, 0) _ _ rfl rfl (row3 R3.out) Tryd.underlying29 rfl (by kernel_rfl)
  · exact (((Ab.drewN (bl1 w _) m0).setk (by omega) _).setk (by omega) _).setk (by omega) _
end Go.Proofs.YtdgkmaamjdglmaaDoor
