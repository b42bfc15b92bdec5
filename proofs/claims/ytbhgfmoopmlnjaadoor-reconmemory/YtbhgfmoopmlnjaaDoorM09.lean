/-
  Some of the texts of this proof, one behind the other.
-/
import Derived.Deep.QuietTactic
import Derived.Laws.CopyOwn
import Derived.Test.YtbhgfmoopmlnjaaDoorM08
namespace Go.Proofs.YtbhgfmoopmlnjaaDoor
open Go.RowKit Tf Cu
/-- what Depth is to answer, at all arguments -/
def DepthC : Prop := ∀ (n gb : Nat) (k : Int) (pb : Option Addr) (lb cb : Nat) (B : Nat → Nat) (pw : Option Addr) (lw cw : Nat) (Wt : Nat → Int) (pt : Option Addr) (lt ct : Nat) (ps : Option Addr) (ls cs : Nat) (sky st e : Int) (u : Nat) (w : World), (1 ≤ n ∧ n ≤ 32) → GridOf n gb w → IsFl w pb lb B → IsIn w pw lw Wt → u < 18446744073709551616 →
    Calls Tryd.prog 15 #[.pointer (some ⟨gb, 0, none⟩), .int .i64 k, .agg #[.slice pb lb cb, .slice pw lw cw, .slice pt lt ct, .slice ps ls cs, .int .i64 sky, .int .i64 st], .int .i64 e, .float .f64 u] w fun e' w' => e' = .returned (.float .f64 (rdAll n k lb lw B Wt e u)) ∧ Below w.heap.size w w'
end Go.Proofs.YtbhgfmoopmlnjaaDoor

namespace Go.Proofs.YtbhgfmoopmlnjaaDoor
open Go.RowKit Tf Cu
attribute [local go_sem] run_bits run_from raw_feq raw_fne raw_flt raw_fgt run_neg run_store_float
theorem ar1 : ∀ c, c < 6 → arI (ArC 1 c) = 1431655765 := by decide +kernel
def dd12 (c : Nat) : Int := if c = 0 then 2 else if c = 3 then 4 else 1
def wt12 (i : Nat) : Int := if i < 6 then dd12 i * arI (ArC 1 i) else 0
theorem wt_num : wt12 0 = 2863311530 ∧ wt12 1 = 1431655765 ∧ wt12 3 = 5726623060 := by
  unfold wt12 dd12
  rw [ar1 0 (by decide), ar1 1 (by decide), ar1 3 (by decide)]
  decide
theorem side0 : isL 1 0 = true ∧ eN 1 0 = 0 ∧ mt 1 0 / 4 = 1 ∧ bkC 1 0 = 3 := by decide +kernel
theorem rd1 (k : Int) (u : Nat) (h : fgt u 0 = true) : rdAll 1 k 6 6 (fun _ => 0) wt12 0 u = rcR k (dpB 2863311530 1431655765) (dpB 5726623060 1431655765) (dpB 1431655765 1431655765) (lvl 0 2863311530 1431655765) 0 0 := by
  have s := side0
  have e := rdAll_eN (n := 1) (k := k) (B := fun _ => 0) (W := wt12) (t := 0) (u := u) (by decide) (by decide) s.1
  rw [s.2.1] at e
  have w := wt_num
  have a0 : arC 1 0 = 1431655765 := ar1 0 (by decide)
  have a1 : arC 1 1 = 1431655765 := ar1 1 (by decide)
  have a3 : arC 1 3 = 1431655765 := ar1 3 (by decide)
  refine Eq.trans e ?_
  rw [rdT_p h]
  unfold sdD ovC
  rw [s.2.2.1, s.2.2.2, show (0 : Nat) / 4 = 0 from rfl, w.1, w.2.1, w.2.2, a0, a1, a3]
theorem rn0 : rcR 0 (dpB 2863311530 1431655765) (dpB 5726623060 1431655765) (dpB 1431655765 1431655765) (lvl 0 2863311530 1431655765) 0 0 = 4611686018427387904 := by decide +kernel
theorem rn1 : rcR 1 (dpB 2863311530 1431655765) (dpB 5726623060 1431655765) (dpB 1431655765 1431655765) (lvl 0 2863311530 1431655765) 0 0 = 4609434218613702656 := by decide +kernel
theorem rn2 : rcR 2 (dpB 2863311530 1431655765) (dpB 5726623060 1431655765) (dpB 1431655765 1431655765) (lvl 0 2863311530 1431655765) 0 0 = 4607182418800017408 := by decide +kernel
theorem rd0 (k : Int) : rdAll 1 k 6 6 (fun _ => 0) wt12 0 0 = 0 := by
  have s := side0
  have e := rdAll_eN (n := 1) (k := k) (B := fun _ => 0) (W := wt12) (t := 0) (u := 0) (by decide) (by decide) s.1
  rw [s.2.1] at e
  refine Eq.trans e ?_
  exact rdT_0 (by decide) (by decide)
theorem rawBits12 (x : Nat) (w : World) : Calls Tryd.prog 16 #[.float .f64 x] w fun e w' => e = .returned (.int .u64 ((x : Nat) : Int)) ∧ w' = w := by
  go_enter Tryd.func16, Tryd.ntmps16
  go_wp2
  go_ret
  exact ⟨rfl, rfl⟩
theorem wt_in : ∀ c, c < 6 → -9223372036854775808 ≤ wt12 c ∧ wt12 c ≤ 9223372036854775807 := by
  intro c hc
  unfold wt12
  rw [if_pos hc, ar1 c hc]
  unfold dd12
  split
  · decide
  · split <;> decide
theorem wt_wrap : ∀ c, c < 6 → IntKind.i64.wrap (dd12 c * arI (ArC 1 c)) = dd12 c * arI (ArC 1 c) := by
  intro c hc
  rw [ar1 c hc]
  unfold dd12
  split
  · decide
  · split <;> decide
set_option maxRecDepth 100000 in
set_option maxHeartbeats 8000000 in
theorem awake12_at (DC : DepthC) (w : World) (hF : Fr w) : Calls Tryd.prog 4 #[] w fun e w' => e = .returned (.bool true) ∧ Below w.heap.size w w' := by
  have NW := hid (new_at 1 w (by omega) hF)
  have HD := hid DC
  have RB := hid rawBits12
  have q0 : feq 4611686018427387904 4611686018427387904 = true := by decide
  have q1 : feq 4609434218613702656 4609434218613702656 = true := by decide
  have q2 : feq 4607182418800017408 4607182418800017408 = true := by decide
  clear hF DC
  go_enter Tryd.func4, Tryd.ntmps4
  go_wp2_with fail
  refine NW.out.mono ?_
  rintro e v1 ⟨gb, rfl, a1, -, g1⟩
  have AW1 : Hid (Ab w v1) := a1
  have G1 : Hid (GridOf 1 gb v1) := g1
  clear a1 g1 NW
  have FL := hid (flat_at (dd := dd12) v1 G1.out wt_wrap)
  rw [show dd12 0 = 2 from rfl, show dd12 1 = 1 from rfl, show dd12 2 = 1 from rfl, show dd12 3 = 4 from rfl, show dd12 4 = 1 from rfl, show dd12 5 = 1 from rfl] at FL
  go_wp2_with fail
  refine FL.out.mono ?_
  rintro e v2 ⟨b1, b2, b3, rfl, k2, r1, r2, r3⟩
  have AB : Hid (Ab v1 (v2.alloc (.cells #[.slice (some ⟨b1, 0, none⟩) 6 6, .slice (some ⟨b2, 0, none⟩) 6 6, .slice none 0 0, .slice (some ⟨b3, 0, none⟩) 12 12, .int .i64 0, .int .i64 0] 25))) := (show Ab v1 v2 from k2).alloc _
  have IB : Hid (IsFl (v2.alloc (.cells #[.slice (some ⟨b1, 0, none⟩) 6 6, .slice (some ⟨b2, 0, none⟩) 6 6, .slice none 0 0, .slice (some ⟨b3, 0, none⟩) 12 12, .int .i64 0, .int .i64 0] 25)) (some ⟨b1, 0, none⟩) 6 (fun _ => 0)) := (rowIs.fl (r1.alloc _) (fun _ _ => by decide))
  have IW : Hid (IsIn (v2.alloc (.cells #[.slice (some ⟨b1, 0, none⟩) 6 6, .slice (some ⟨b2, 0, none⟩) 6 6, .slice none 0 0, .slice (some ⟨b3, 0, none⟩) 12 12, .int .i64 0, .int .i64 0] 25)) (some ⟨b2, 0, none⟩) 6 wt12) := rowIs.in (f := wt12) (r2.alloc _) wt_in
  have RS : Hid ((v2.alloc (.cells #[.slice (some ⟨b1, 0, none⟩) 6 6, .slice (some ⟨b2, 0, none⟩) 6 6, .slice none 0 0, .slice (some ⟨b3, 0, none⟩) 12 12, .int .i64 0, .int .i64 0] 25)).heap[v2.heap.size]? = some (.cells #[.slice (some ⟨b1, 0, none⟩) 6 6, .slice (some ⟨b2, 0, none⟩) 6 6, .slice none 0 0, .slice (some ⟨b3, 0, none⟩) 12 12, .int .i64 0, .int .i64 0] 25)) := heap_alloc_new _ _
  have CD : Hid (∀ (k : Int) (u r : Nat), u < 18446744073709551616 → rdAll 1 k 6 6 (fun _ => 0) wt12 0 u = r → ∀ v, Ab (v2.alloc (.cells #[.slice (some ⟨b1, 0, none⟩) 6 6, .slice (some ⟨b2, 0, none⟩) 6 6, .slice none 0 0, .slice (some ⟨b3, 0, none⟩) 12 12, .int .i64 0, .int .i64 0] 25)) v → Calls Tryd.prog 15 #[.pointer (some ⟨gb, 0, none⟩), .int .i64 k, .agg #[.slice (some ⟨b1, 0, none⟩) 6 6, .slice (some ⟨b2, 0, none⟩) 6 6, .slice none 0 0, .slice (some ⟨b3, 0, none⟩) 12 12, .int .i64 0, .int .i64 0], .int .i64 0, .float .f64 u] v fun e' w' => e' = .returned (.float .f64 r) ∧ Below v.heap.size v w') := fun k u r hu hr v hv => by
    have h := HD.out 1 gb k (some ⟨b1, 0, none⟩) 6 6 (fun _ => 0) (some ⟨b2, 0, none⟩) 6 6 wt12 none 0 0 (some ⟨b3, 0, none⟩) 12 12 0 0 0 u v (by omega) (G1.out.to (AB.out.trans hv)) (IB.out.below hv) (IW.out.below hv) hu
    rwa [hr] at h
  clear k2 r1 r2 r3 FL HD IB IW
  have c0 := cell_of_row _ _ 0 _ _ _ RS.out
  have c1 := cell_of_row _ _ 1 _ _ _ RS.out
  have c2 := cell_of_row _ _ 2 _ _ _ RS.out
  have c3 := cell_of_row _ _ 3 _ _ _ RS.out
  have c4 := cell_of_row _ _ 4 _ _ _ RS.out
  have c5 := cell_of_row _ _ 5 _ _ _ RS.out
  go_wp2_with fail
  generalize hV : v2.alloc (.cells #[.slice (some ⟨b1, 0, none⟩) 6 6, .slice (some ⟨b2, 0, none⟩) 6 6, .slice none 0 0, .slice (some ⟨b3, 0, none⟩) 12 12, .int .i64 0, .int .i64 0] 25) = V at *
  clear hV
  refine (CD.out 0 4607182418800017408 4611686018427387904 (by decide) ((rd1 0 _ (by decide)).trans rn0) _ (Ab.refl _)).mono ?_
  rintro e v3 ⟨rfl, k3⟩
  clear c0 c1 c2 c3 c4 c5
  have A3 : Hid (Ab V v3) := k3
  clear k3
  have c0 := cell_of_row _ _ 0 _ _ _ (A3.out.heap RS.out)
  have c1 := cell_of_row _ _ 1 _ _ _ (A3.out.heap RS.out)
  have c2 := cell_of_row _ _ 2 _ _ _ (A3.out.heap RS.out)
  have c3 := cell_of_row _ _ 3 _ _ _ (A3.out.heap RS.out)
  have c4 := cell_of_row _ _ 4 _ _ _ (A3.out.heap RS.out)
  have c5 := cell_of_row _ _ 5 _ _ _ (A3.out.heap RS.out)
  go_wp2_with fail
  refine (CD.out 1 4607182418800017408 4609434218613702656 (by decide) ((rd1 1 _ (by decide)).trans rn1) _ A3.out).mono ?_
  rintro e v4 ⟨rfl, k4⟩
  clear c0 c1 c2 c3 c4 c5
  have A4 : Hid (Ab V v4) := A3.out.call k4
  clear k4
  have c0 := cell_of_row _ _ 0 _ _ _ (A4.out.heap RS.out)
  have c1 := cell_of_row _ _ 1 _ _ _ (A4.out.heap RS.out)
  have c2 := cell_of_row _ _ 2 _ _ _ (A4.out.heap RS.out)
  have c3 := cell_of_row _ _ 3 _ _ _ (A4.out.heap RS.out)
  have c4 := cell_of_row _ _ 4 _ _ _ (A4.out.heap RS.out)
  have c5 := cell_of_row _ _ 5 _ _ _ (A4.out.heap RS.out)
  go_wp2_with fail
  refine (CD.out 2 4598175219545276416 4607182418800017408 (by decide) ((rd1 2 _ (by decide)).trans rn2) _ A4.out).mono ?_
  rintro e v5 ⟨rfl, k5⟩
  clear c0 c1 c2 c3 c4 c5
  have A5 : Hid (Ab V v5) := A4.out.call k5
  clear k5
  have c0 := cell_of_row _ _ 0 _ _ _ (A5.out.heap RS.out)
  have c1 := cell_of_row _ _ 1 _ _ _ (A5.out.heap RS.out)
  have c2 := cell_of_row _ _ 2 _ _ _ (A5.out.heap RS.out)
  have c3 := cell_of_row _ _ 3 _ _ _ (A5.out.heap RS.out)
  have c4 := cell_of_row _ _ 4 _ _ _ (A5.out.heap RS.out)
  have c5 := cell_of_row _ _ 5 _ _ _ (A5.out.heap RS.out)
  go_wp2_with fail
  refine (CD.out 0 0 0 (by decide) (rd0 0) _ A5.out).mono ?_
  rintro e v6 ⟨rfl, k6⟩
  clear c0 c1 c2 c3 c4 c5
  have A6 : Hid (Ab V v6) := A5.out.call k6
  clear k6
  go_wp2_with fail
  refine (RB.out _ _).mono ?_
  rintro e v7 ⟨rfl, hv7⟩
  have hv8 := hv7.symm
  subst hv8
  go_wp2
  go_ret
  exact ⟨rfl, (AW1.out.trans AB.out).trans A6.out⟩
end Go.Proofs.YtbhgfmoopmlnjaaDoor

namespace Go.Proofs.YtbhgfmoopmlnjaaDoor
open Go.RowKit Tf Cu
attribute [local go_sem] run_bits run_from raw_feq raw_fne raw_flt raw_fgt run_neg run_store_float
set_option maxRecDepth 100000 in
set_option maxHeartbeats 4000000 in
theorem net12_no (side lim : Int) (pb pw pt ps : Option Addr) (lb cb lw cw lt ct ls cs : Nat) (sky st : Int) (w : World) (h : ¬ (1 ≤ side ∧ side ≤ 32)) :
    Calls Tryd.prog 5 #[.agg #[.int .i64 side, .int .i64 lim, .slice pb lb cb, .slice pw lw cw, .slice pt lt ct, .slice ps ls cs, .int .i64 sky, .int .i64 st]] w fun e w' => e = .returned (.tuple #[.pointer none, .bool false]) ∧ Below w.heap.size w w' := by
  have A0 : Hid (Ab w (w.alloc (.cells #[.int .i64 side, .int .i64 lim, .slice pb lb cb, .slice pw lw cw, .slice pt lt ct, .slice ps ls cs, .int .i64 sky, .int .i64 st] 27))) := bl1 _ _
  have RO : Hid ((w.alloc (.cells #[.int .i64 side, .int .i64 lim, .slice pb lb cb, .slice pw lw cw, .slice pt lt ct, .slice ps ls cs, .int .i64 sky, .int .i64 st] 27)).heap[w.heap.size]? = some (.cells #[.int .i64 side, .int .i64 lim, .slice pb lb cb, .slice pw lw cw, .slice pt lt ct, .slice ps ls cs, .int .i64 sky, .int .i64 st] 27)) := heap_alloc_new _ _
  have NO := hid (fun v => new_no side v h)
  clear h
  have c0 := cell_of_row _ _ 0 _ _ _ RO.out
  go_enter Tryd.func5, Tryd.ntmps5
  go_wp2_with fail
  refine Calls.mono (NO.out _) ?_
  rintro e v1 ⟨rfl, hv⟩
  have hv2 := hv.symm
  subst hv2
  go_wp2
  go_ret2
  exact ⟨rfl, A0.out⟩
set_option maxRecDepth 100000 in
set_option maxHeartbeats 4000000 in
theorem net12_go (side lim : Int) (pb pw pt ps : Option Addr) (lb cb lw cw lt ct ls cs : Nat) (sky st : Int) (n M : Nat) (q : Bool) (w : World) (hs : side = (n : Int)) (hn : 1 ≤ n ∧ n ≤ 32) (hF : Fr w) (hM : 6 * n * n = M) (hq : (((lb : Int) == (M : Int)) = false ∧ q = false) ∨ (((lb : Int) == (M : Int)) = true ∧ ((lw : Int) == (M : Int)) = q)) :
    Calls Tryd.prog 5 #[.agg #[.int .i64 side, .int .i64 lim, .slice pb lb cb, .slice pw lw cw, .slice pt lt ct, .slice ps ls cs, .int .i64 sky, .int .i64 st]] w fun e w' => ∃ gb, e = .returned (.tuple #[.pointer (some ⟨gb, 0, none⟩), .bool q]) ∧ Below w.heap.size w w' ∧ GridOf n gb w' := by
  subst hs
  have A0 : Hid (Ab w (w.alloc (.cells #[.int .i64 (n : Nat), .int .i64 lim, .slice pb lb cb, .slice pw lw cw, .slice pt lt ct, .slice ps ls cs, .int .i64 sky, .int .i64 st] 27))) := bl1 _ _
  have RO0 : Hid ((w.alloc (.cells #[.int .i64 (n : Nat), .int .i64 lim, .slice pb lb cb, .slice pw lw cw, .slice pt lt ct, .slice ps ls cs, .int .i64 sky, .int .i64 st] 27)).heap[w.heap.size]? = some (.cells #[.int .i64 (n : Nat), .int .i64 lim, .slice pb lb cb, .slice pw lw cw, .slice pt lt ct, .slice ps ls cs, .int .i64 sky, .int .i64 st] 27)) := heap_alloc_new _ _
  have NW := hid (new_at n _ hn (hF.to A0.out))
  have c0 := cell_of_row _ _ 0 _ _ _ RO0.out
  clear hF
  go_enter Tryd.func5, Tryd.ntmps5
  go_wp2_with fail
  refine NW.out.mono ?_
  rintro e W ⟨gb, rfl, a1, -, g1⟩
  have AW : Hid (Ab w W) := A0.out.trans a1
  have RO : Hid (W.heap[w.heap.size]? = some (.cells #[.int .i64 (n : Nat), .int .i64 lim, .slice pb lb cb, .slice pw lw cw, .slice pt lt ct, .slice ps ls cs, .int .i64 sky, .int .i64 st] 27)) := a1.heap RO0.out
  have GG := hid g1
  clear a1 g1 NW RO0 A0 c0
  have CC : Hid (∀ v, Ab W v → Calls Tryd.prog 7 #[.pointer (some ⟨gb, 0, none⟩)] v fun e w' => e = .returned (.int .i64 (M : Nat)) ∧ Below v.heap.size v w') := fun v hv => by
    have h := gCells_at (GG.out.to hv)
    rw [hM] at h
    exact h.mono fun _ _ h => ⟨h.1, by obtain ⟨_, rfl⟩ := h; exact Below.refl _ _⟩
  clear hM
  go_upto_region 4 with fail
  obtain ⟨UU, E, hF1, hF2⟩ := cls W
  have HU := hid hF2
  have HU1 := hid hF1
  have x2 : ∀ u, (E u).cell? ⟨w.heap.size, 2, none⟩ = some (.slice pb lb cb) := fun u => cell_of_row _ _ 2 _ _ _ ((hF1 u).heap RO.out)
  have x3 : ∀ u, (E u).cell? ⟨w.heap.size, 3, none⟩ = some (.slice pw lw cw) := fun u => cell_of_row _ _ 3 _ _ _ ((hF1 u).heap RO.out)
  have DD0 := HU.out _ (Ab.refl W).drew
  clear hF1 hF2
  rcases hq with ⟨q1, rfl⟩ | ⟨q1, q2⟩
  · refine region_cls E (by kernel_rfl) (by kernel_rfl) DD0 ?_
    repeat (go_big_quiet_step (first
      | (with_reducible rfl)
      | (go_at_call 7; exact calls_cls HU HU1 (CC.out _ (HU1.out _)))))
    refine wpQuiet_nil ?_
    intro z hwz
    obtain ⟨u0, hu⟩ := hwz
    have AZ : Hid (Ab W z) := by rw [hu]; exact HU1.out u0
    clear hu u0
    clear HU HU1 DD0 x2 x3
    clear E UU
    go_wp2
    go_ret2
    exact ⟨gb, rfl, AW.out.trans AZ.out, GG.out.to AZ.out⟩
  · refine region_cls E (by kernel_rfl) (by kernel_rfl) DD0 ?_
    repeat (go_big_quiet_step (first
      | (with_reducible rfl)
      | (go_at_call 7; exact calls_cls HU HU1 (CC.out _ (HU1.out _)))))
    refine wpQuiet_nil ?_
    intro z hwz
    obtain ⟨u0, hu⟩ := hwz
    have AZ : Hid (Ab W z) := by rw [hu]; exact HU1.out u0
    clear hu u0
    clear HU HU1 DD0 x2 x3
    clear E UU
    go_wp2
    go_ret2
    exact ⟨gb, rfl, AW.out.trans AZ.out, GG.out.to AZ.out⟩
end Go.Proofs.YtbhgfmoopmlnjaaDoor

namespace Go.Proofs.YtbhgfmoopmlnjaaDoor
open Go.RowKit Tf
attribute [local go_sem] run_bits run_from raw_feq raw_fne raw_flt raw_fgt run_neg
theorem run_min_f {P : Program} (w : World) (ts : Array TypeId) (t : TypeId) {a b : Nat} (ha : a ≤ 9218868437227405312) (hb : b ≤ 9218868437227405312) :
    (Builtin.min_ ts t #[.float .f64 a, .float .f64 b]).run P w = .ok (.float .f64 (min a b)) w := by
  have h : FloatKind.f64.format.order a b = _ := order_pp ha hb
  by_cases c : a < b
  · rw [if_pos c] at h
    simp [Builtin.min_, Builtin.min2, h]
    omega
  · rw [if_neg c] at h
    by_cases d : b < a
    · rw [if_pos d] at h
      simp [Builtin.min_, Builtin.min2, h]
      omega
    · rw [if_neg d] at h
      have e : a = b := by omega
      subst e
      simp [Builtin.min_, Builtin.min2, h]
theorem run_max_f {P : Program} (w : World) (ts : Array TypeId) (t : TypeId) {a b : Nat} (ha : a ≤ 9218868437227405312) (hb : b ≤ 9218868437227405312) :
    (Builtin.max_ ts t #[.float .f64 a, .float .f64 b]).run P w = .ok (.float .f64 (max a b)) w := by
  have h : FloatKind.f64.format.order a b = _ := order_pp ha hb
  by_cases c : a < b
  · rw [if_pos c] at h
    simp [Builtin.max_, Builtin.max2, h]
    omega
  · rw [if_neg c] at h
    by_cases d : b < a
    · rw [if_pos d] at h
      simp [Builtin.max_, Builtin.max2, h]
      omega
    · rw [if_neg d] at h
      have e : a = b := by omega
      subst e
      simp [Builtin.max_, Builtin.max2, h]
theorem plain_at (a b : Nat) (w : World) : Calls Tryd.prog 51 #[.float .f64 a, .float .f64 b] w fun e w' => e = .returned (.float .f64 0) ∧ w' = w := by
  go_enter Tryd.func51, Tryd.ntmps51
  go_wp2
  go_ret
  exact ⟨rfl, rfl⟩
theorem minmod_at (a b : Nat) (w : World) (ha : a ≤ 9218868437227405312) (hb : b ≤ 9218868437227405312) : Calls Tryd.prog 52 #[.float .f64 a, .float .f64 b] w fun e w' => e = .returned (.float .f64 (min a b)) ∧ w' = w := by
  have h : ∀ ts t, (Builtin.min_ ts t #[.float .f64 a, .float .f64 b]).run Tryd.prog w = .ok (.float .f64 (min a b)) w := fun ts t => run_min_f w ts t ha hb
  generalize e : min a b = m at h ⊢
  clear e ha hb
  go_enter Tryd.func52, Tryd.ntmps52
  go_wp2
  go_ret
  exact ⟨rfl, rfl⟩
set_option maxHeartbeats 1000000 in
theorem superbee_at (a b : Nat) (w : World) (ha : ps a = true) (hb : ps b = true) : Calls Tryd.prog 53 #[.float .f64 a, .float .f64 b] w fun e w' => e = .returned (.float .f64 (sbee a b)) ∧ w' = w := by
  obtain ⟨a0, a1⟩ := ps_iff.1 ha
  obtain ⟨b0, b1⟩ := ps_iff.1 hb
  have fa := (d2_facts a1).1
  have fb := (d2_facts b1).1
  have h1 : ∀ t, (binOp .mul t (.float .f64 4611686018427387904) (.float .f64 a)).run Tryd.prog w = .ok (.float .f64 (mlB 4611686018427387904 a)) w := fun t => run_float_arith w .mul t .f64 _ _ _ (mul_pp (by decide) a1 (by decide) a0)
  have h2 : ∀ t, (binOp .mul t (.float .f64 4611686018427387904) (.float .f64 b)).run Tryd.prog w = .ok (.float .f64 (mlB 4611686018427387904 b)) w := fun t => run_float_arith w .mul t .f64 _ _ _ (mul_pp (by decide) b1 (by decide) b0)
  have h3 : ∀ ts t, (Builtin.min_ ts t #[.float .f64 (mlB 4611686018427387904 a), .float .f64 b]).run Tryd.prog w = .ok (.float .f64 (min (mlB 4611686018427387904 a) b)) w := fun ts t => run_min_f w ts t fa b1
  have h4 : ∀ ts t, (Builtin.min_ ts t #[.float .f64 a, .float .f64 (mlB 4611686018427387904 b)]).run Tryd.prog w = .ok (.float .f64 (min a (mlB 4611686018427387904 b))) w := fun ts t => run_min_f w ts t a1 fb
  have h5 : ∀ ts t, (Builtin.max_ ts t #[.float .f64 (min (mlB 4611686018427387904 a) b), .float .f64 (min a (mlB 4611686018427387904 b))]).run Tryd.prog w = .ok (.float .f64 (sbee a b)) w := fun ts t => run_max_f w ts t (by omega) (by omega)
  generalize mlB 4611686018427387904 a = p at *
  generalize mlB 4611686018427387904 b = q at *
  generalize min p b = u at *
  generalize min a q = v at *
  generalize sbee a b = s at *
  clear a0 a1 b0 b1 fa fb ha hb
  go_enter Tryd.func53, Tryd.ntmps53
  go_wp2
  go_ret
  exact ⟨rfl, rfl⟩
set_option maxHeartbeats 1000000 in
theorem leer_at (a b : Nat) (w : World) (ha : ps a = true) (hb : ps b = true) : Calls Tryd.prog 54 #[.float .f64 a, .float .f64 b] w fun e w' => ∃ r, e = .returned (.float .f64 r) ∧ (∃ n, w' = w.drewN n) ∧ IsC r (lr a b) := by
  obtain ⟨a0, a1⟩ := ps_iff.1 ha
  obtain ⟨b0, b1⟩ := ps_iff.1 hb
  have fa := d2_facts a1
  have L := leer_nn a1 b1 a0 b0
  have h1 : ∀ t, (binOp .mul t (.float .f64 4611686018427387904) (.float .f64 a)).run Tryd.prog w = .ok (.float .f64 (mlB 4611686018427387904 a)) w := fun t => run_float_arith w .mul t .f64 _ _ _ (mul_pp (by decide) a1 (by decide) a0)
  have h2 : ∀ t, (binOp .mul t (.float .f64 (mlB 4611686018427387904 a)) (.float .f64 b)).run Tryd.prog w = .ok (.float .f64 (mlB (mlB 4611686018427387904 a) b)) w := fun t => run_float_arith w .mul t .f64 _ _ _ (mul_pp fa.1 b1 (by omega) b0)
  have h3 : ∀ t, (binOp .add t (.float .f64 a) (.float .f64 b)).run Tryd.prog w = .ok (.float .f64 (plB a b)) w := fun t => run_float_arith w .add t .f64 _ _ _ (add_pp a1 b1)
  obtain ⟨r, n, h4, hc⟩ := div_any (P := Tryd.prog) w (mlB (mlB 4611686018427387904 a) b) (plB a b)
  have hc : IsC r (leer a b) := hc
  obtain ⟨k1, k2⟩ := lr_le_of hc L
  have HL := lr_le a b
  by_cases c : leer a b < 9218868437227405312
  · have e : lr a b = leer a b := by unfold lr; rw [if_pos c]
    rw [decide_eq_true c] at k1
    have HC : Hid (IsC r (lr a b)) := by rw [e]; exact hc
    generalize mlB (mlB 4611686018427387904 a) b = q at *
    generalize mlB 4611686018427387904 a = p at *
    generalize plB a b = s at *
    clear e k2 c L fa a0 a1 b0 b1 ha hb HL
    clear hc
    go_enter Tryd.func54, Tryd.ntmps54
    go_wp2
    go_ret
    exact ⟨r, rfl, ⟨n, rfl⟩, HC.out⟩
  · have e : lr a b = 0 := by unfold lr; rw [if_neg c]
    rw [decide_eq_false c] at k1
    have HC : Hid (IsC 0 (lr a b)) := by rw [e]; exact ⟨by decide, by decide⟩
    generalize mlB (mlB 4611686018427387904 a) b = q at *
    generalize mlB 4611686018427387904 a = p at *
    generalize plB a b = s at *
    clear e k2 c L fa a0 a1 b0 b1 ha hb HL
    clear hc
    go_enter Tryd.func54, Tryd.ntmps54
    go_wp2
    go_ret
    exact ⟨0, rfl, ⟨n, rfl⟩, HC.out⟩
theorem run_store_func {P : Program} {w : World} {a : Addr} {m : Mode} (f : Fn) (x y : Array Value) : (store a (.func f x y) m).run P w = stored P w a (.func f x y) m := run_store P w a _ m rfl
attribute [local go_sem] run_store_func
set_option maxHeartbeats 1000000 in
theorem limiters_at (w : World) : Calls Tryd.prog 34 #[] w fun e w' => e = .returned (.agg #[.func (.func 51) #[] #[], .func (.func 52) #[] #[], .func (.func 53) #[] #[], .func (.func 54) #[] #[]]) ∧ Below w.heap.size w w' := by
  go_enter Tryd.func34, Tryd.ntmps34
  go_wp2
  refine bodyPost_ret ?_ rfl ⟨rfl, ?_⟩
  · exact results_cell_row Tryd.results34 _ _ w.heap.size _ _ (0, 0) _ rfl (heap_alloc_new w _) Tryd.underlying72 rfl (by kernel_rfl)
  · exact bl1 w _
set_option maxHeartbeats 1000000 in
theorem valid_at (k : Int) (w : World) : Calls Tryd.prog 18 #[.int .i64 k] w fun e w' => e = .returned (.bool (decide (0 ≤ k ∧ k ≤ 3))) ∧ Below w.heap.size w w' := by
  have L := hid (limiters_at w)
  by_cases c : 0 ≤ k
  · have e : decide (0 ≤ k ∧ k ≤ 3) = decide (k < 4) := by by_cases d : k < 4 <;> simp [d] <;> omega
    rw [e]
    clear e
    go_enter Tryd.func18, Tryd.ntmps18
    go_wp2_with fail
    refine L.out.mono ?_
    rintro e w1 ⟨rfl, b1⟩
    go_wp2
    go_ret
    exact ⟨rfl, b1⟩
  · have e : decide (0 ≤ k ∧ k ≤ 3) = false := decide_eq_false (by omega)
    rw [e]
    clear e
    go_enter Tryd.func18, Tryd.ntmps18
    go_wp2
    go_ret
    exact ⟨rfl, Below.refl _ _⟩
end Go.Proofs.YtbhgfmoopmlnjaaDoor

namespace Go.Proofs.YtbhgfmoopmlnjaaDoor
open Go.RowKit Tf
attribute [local go_sem] run_bits run_from raw_feq raw_fne raw_flt raw_fgt run_neg
theorem canon_op2 {r x : Nat} (h : IsC r x) (hx : x ≤ 9218868437227405312) : canonB (negB r) = op x := by
  obtain ⟨h1, h2⟩ := h
  by_cases z : mg r = 0
  · have n : isN r = false := isN_false.2 (by omega)
    have e : x = 0 := by rw [← h2]; unfold canonB; rw [n, z]; rfl
    subst e
    have m : mg (negB r) = 0 := by rw [mg_negB]; exact z
    have n2 : isN (negB r) = false := isN_false.2 (by omega)
    unfold canonB
    rw [n2, m]
    rfl
  · have e : r = x := by
      unfold canonB at h2
      rw [if_neg z] at h2
      split at h2
      · rw [← h2] at hx; unfold quiet at hx; omega
      · exact h2
    subst e
    exact canon_op hx
theorem IsC.refl {x : Nat} (h : x ≤ 9218868437227405312) : IsC x x := ⟨by omega, canon_nn h⟩
/-- what a limiter says of two that are above nothing -/
def Lim (f : Nat) (k : Int) : Prop := ∀ a b w, ps a = true → ps b = true → Calls Tryd.prog f #[.float .f64 a, .float .f64 b] w fun e w' => ∃ r, e = .returned (.float .f64 r) ∧ (∃ n, w' = w.drewN n) ∧ IsC r (lm k a b)
theorem lim0 : Lim 51 0 := by
  intro a b w ha hb
  refine (plain_at a b w).mono ?_
  rintro e w' ⟨rfl, rfl⟩
  exact ⟨0, rfl, ⟨0, rfl⟩, IsC.refl (by decide)⟩
theorem lim1 : Lim 52 1 := by
  intro a b w ha hb
  have a1 := ps_iff.1 ha
  have b1 := ps_iff.1 hb
  refine (minmod_at a b w a1.2 b1.2).mono ?_
  rintro e w' ⟨rfl, rfl⟩
  exact ⟨_, rfl, ⟨0, rfl⟩, IsC.refl (lm_le 1 a1.2 b1.2)⟩
theorem lim2 : Lim 53 2 := by
  intro a b w ha hb
  have a1 := ps_iff.1 ha
  have b1 := ps_iff.1 hb
  refine (superbee_at a b w ha hb).mono ?_
  rintro e w' ⟨rfl, rfl⟩
  exact ⟨_, rfl, ⟨0, rfl⟩, IsC.refl (lm_le 2 a1.2 b1.2)⟩
theorem lim3 : Lim 54 3 := by
  intro a b w ha hb
  refine (leer_at a b w ha hb).mono ?_
  rintro e w' ⟨r, rfl, n, h⟩
  exact ⟨r, rfl, n, h⟩
set_option maxHeartbeats 2000000 in
theorem slope_p0 (a b : Nat) (w : World) (ha : a < 18446744073709551616) (hb : b < 18446744073709551616) (pa : ps a = true) (pb : ps b = true) : Calls Tryd.prog 48 #[.int .i64 0, .float .f64 a, .float .f64 b] w fun e w' => e = .returned (.float .f64 (lm 0 a b)) ∧ Below w.heap.size w w' := by
  have V := hid (valid_at 0 w)
  have L := hid limiters_at
  have IX : ∀ w : World, (Instr.index 72 (.agg #[.func (.func 51) #[] #[], .func (.func 52) #[] #[], .func (.func 53) #[] #[], .func (.func 54) #[] #[]]) (.int .i64 0)).run Tryd.prog w = .ok (.func (.func 51) #[] #[]) w := fun _ => by kernel_rfl
  have G := hid lim0
  have ga : fgt a 0 = true := by rw [fgt_ps ha]; exact pa
  have gb : fgt b 0 = true := by rw [fgt_ps hb]; exact pb
  have PA := hid pa
  have PB := hid pb
  clear pa pb ha hb
  go_enter Tryd.func48, Tryd.ntmps48
  go_wp2_with fail
  refine V.out.mono ?_
  rintro e w1 ⟨rfl, b1⟩
  have B1 := hid b1
  clear b1
  go_wp2_with fail
  refine (L.out _).mono ?_
  rintro e w2 ⟨rfl, b2⟩
  have B2 := hid b2
  clear b2
  go_wp2_with fail
  refine (G.out a b _ PA.out PB.out).mono ?_
  rintro e w3 ⟨r, rfl, ⟨n, rfl⟩, hr⟩
  have C := hid (canon_any r (w2.drewN n) hr.1)
  have HR := hid hr.2
  clear hr
  go_wp2_with fail
  refine C.out.mono ?_
  rintro e w4 ⟨rfl, rfl⟩
  go_wp2
  go_ret
  exact ⟨ret_flt HR.out, Ab.drewN (Ab.trans B1.out B2.out) n⟩
set_option maxHeartbeats 2000000 in
theorem slope_m0 (a b p q : Nat) (w : World) (ga : flt a 0 = true) (gb : flt b 0 = true) (ga2 : fgt a 0 = false) (na : Op.negFloat .f64 a = p) (nb : Op.negFloat .f64 b = q) (P : Hid (ps p = true)) (Q : Hid (ps q = true)) : Calls Tryd.prog 48 #[.int .i64 0, .float .f64 a, .float .f64 b] w fun e w' => e = .returned (.float .f64 (op (lm 0 p q))) ∧ Below w.heap.size w w' := by
  have V := hid (valid_at 0 w)
  have L := hid limiters_at
  have IX : ∀ w : World, (Instr.index 72 (.agg #[.func (.func 51) #[] #[], .func (.func 52) #[] #[], .func (.func 53) #[] #[], .func (.func 54) #[] #[]]) (.int .i64 0)).run Tryd.prog w = .ok (.func (.func 51) #[] #[]) w := fun _ => by kernel_rfl
  have G := hid lim0
  go_enter Tryd.func48, Tryd.ntmps48
  go_wp2_with fail
  refine V.out.mono ?_
  rintro e w1 ⟨rfl, b1⟩
  have B1 := hid b1
  clear b1
  go_wp2_with fail
  refine (L.out _).mono ?_
  rintro e w2 ⟨rfl, b2⟩
  have B2 := hid b2
  clear b2
  go_wp2_with fail
  refine (G.out p q _ P.out Q.out).mono ?_
  rintro e w3 ⟨r, rfl, ⟨n, rfl⟩, hr⟩
  have E : canonB (Op.negFloat .f64 r) = op (lm 0 p q) := by rw [negFloat_eq r hr.1]; exact canon_op2 hr (lm_le 0 (ps_iff.1 P.out).2 (ps_iff.1 Q.out).2)
  have C := canon_any (Op.negFloat .f64 r) (w2.drewN n) (by rw [negFloat_eq r hr.1]; exact negB_lt hr.1)
  rw [E] at C
  have C := hid C
  clear hr E
  go_wp2_with fail
  refine C.out.mono ?_
  rintro e w4 ⟨rfl, rfl⟩
  go_wp2
  go_ret
  exact ⟨rfl, Ab.drewN (Ab.trans B1.out B2.out) n⟩
theorem slope_n0 (a b : Nat) (w : World) (ha : a < 18446744073709551616) (hb : b < 18446744073709551616) (pa : ns a = true) (pb : ns b = true) : Calls Tryd.prog 48 #[.int .i64 0, .float .f64 a, .float .f64 b] w fun e w' => e = .returned (.float .f64 (op (lm 0 (a - 9223372036854775808) (b - 9223372036854775808)))) ∧ Below w.heap.size w w' := by
  have a1 := ns_iff.1 pa
  have b1 := ns_iff.1 pb
  exact slope_m0 a b _ _ w (by rw [flt_ns ha]; exact pa) (by rw [flt_ns hb]; exact pb) (by rw [fgt_ps ha]; exact ps_no.2 (by omega)) (by rw [negFloat_eq a ha, neg_ns a1.1]) (by rw [negFloat_eq b hb, neg_ns b1.1]) (ps_iff.2 ⟨by omega, by omega⟩) (ps_iff.2 ⟨by omega, by omega⟩)
set_option maxHeartbeats 2000000 in
theorem slope_z0 (a b : Nat) (w : World) (ha : a < 18446744073709551616) (hb : b < 18446744073709551616) (pa : (ps a && ps b) = false) (pb : (ns a && ns b) = false) : Calls Tryd.prog 48 #[.int .i64 0, .float .f64 a, .float .f64 b] w fun e w' => e = .returned (.float .f64 0) ∧ Below w.heap.size w w' := by
  have V := hid (valid_at 0 w)
  have L := hid limiters_at
  have IX : ∀ w : World, (Instr.index 72 (.agg #[.func (.func 51) #[] #[], .func (.func 52) #[] #[], .func (.func 53) #[] #[], .func (.func 54) #[] #[]]) (.int .i64 0)).run Tryd.prog w = .ok (.func (.func 51) #[] #[]) w := fun _ => by kernel_rfl
  rw [← fgt_ps ha, ← fgt_ps hb] at pa
  rw [← flt_ns ha, ← flt_ns hb] at pb
  clear ha hb
  cases g1 : fgt a 0 <;> cases g2 : flt a 0 <;> rw [g1] at pa <;> rw [g2] at pb <;> (try rw [Bool.true_and] at pa) <;> (try rw [Bool.true_and] at pb) <;> (
    go_enter Tryd.func48, Tryd.ntmps48
    go_wp2_with fail
    refine V.out.mono ?_
    rintro e w1 ⟨rfl, b1⟩
    have B1 := hid b1
    clear b1
    go_wp2_with fail
    refine (L.out _).mono ?_
    rintro e w2 ⟨rfl, b2⟩
    have B2 := hid b2
    clear b2
    go_wp2
    go_ret
    exact ⟨rfl, Ab.trans B1.out B2.out⟩)
set_option maxHeartbeats 2000000 in
theorem slope_p1 (a b : Nat) (w : World) (ha : a < 18446744073709551616) (hb : b < 18446744073709551616) (pa : ps a = true) (pb : ps b = true) : Calls Tryd.prog 48 #[.int .i64 1, .float .f64 a, .float .f64 b] w fun e w' => e = .returned (.float .f64 (lm 1 a b)) ∧ Below w.heap.size w w' := by
  have V := hid (valid_at 1 w)
  have L := hid limiters_at
  have IX : ∀ w : World, (Instr.index 72 (.agg #[.func (.func 51) #[] #[], .func (.func 52) #[] #[], .func (.func 53) #[] #[], .func (.func 54) #[] #[]]) (.int .i64 1)).run Tryd.prog w = .ok (.func (.func 52) #[] #[]) w := fun _ => by kernel_rfl
  have G := hid lim1
  have ga : fgt a 0 = true := by rw [fgt_ps ha]; exact pa
  have gb : fgt b 0 = true := by rw [fgt_ps hb]; exact pb
  have PA := hid pa
  have PB := hid pb
  clear pa pb ha hb
  go_enter Tryd.func48, Tryd.ntmps48
  go_wp2_with fail
  refine V.out.mono ?_
  rintro e w1 ⟨rfl, b1⟩
  have B1 := hid b1
  clear b1
  go_wp2_with fail
  refine (L.out _).mono ?_
  rintro e w2 ⟨rfl, b2⟩
  have B2 := hid b2
  clear b2
  go_wp2_with fail
  refine (G.out a b _ PA.out PB.out).mono ?_
  rintro e w3 ⟨r, rfl, ⟨n, rfl⟩, hr⟩
  have C := hid (canon_any r (w2.drewN n) hr.1)
  have HR := hid hr.2
  clear hr
  go_wp2_with fail
  refine C.out.mono ?_
  rintro e w4 ⟨rfl, rfl⟩
  go_wp2
  go_ret
  exact ⟨ret_flt HR.out, Ab.drewN (Ab.trans B1.out B2.out) n⟩
set_option maxHeartbeats 2000000 in
theorem slope_m1 (a b p q : Nat) (w : World) (ga : flt a 0 = true) (gb : flt b 0 = true) (ga2 : fgt a 0 = false) (na : Op.negFloat .f64 a = p) (nb : Op.negFloat .f64 b = q) (P : Hid (ps p = true)) (Q : Hid (ps q = true)) : Calls Tryd.prog 48 #[.int .i64 1, .float .f64 a, .float .f64 b] w fun e w' => e = .returned (.float .f64 (op (lm 1 p q))) ∧ Below w.heap.size w w' := by
  have V := hid (valid_at 1 w)
  have L := hid limiters_at
  have IX : ∀ w : World, (Instr.index 72 (.agg #[.func (.func 51) #[] #[], .func (.func 52) #[] #[], .func (.func 53) #[] #[], .func (.func 54) #[] #[]]) (.int .i64 1)).run Tryd.prog w = .ok (.func (.func 52) #[] #[]) w := fun _ => by kernel_rfl
  have G := hid lim1
  go_enter Tryd.func48, Tryd.ntmps48
  go_wp2_with fail
  refine V.out.mono ?_
  rintro e w1 ⟨rfl, b1⟩
  have B1 := hid b1
  clear b1
  go_wp2_with fail
  refine (L.out _).mono ?_
  rintro e w2 ⟨rfl, b2⟩
  have B2 := hid b2
  clear b2
  go_wp2_with fail
  refine (G.out p q _ P.out Q.out).mono ?_
  rintro e w3 ⟨r, rfl, ⟨n, rfl⟩, hr⟩
  have E : canonB (Op.negFloat .f64 r) = op (lm 1 p q) := by rw [negFloat_eq r hr.1]; exact canon_op2 hr (lm_le 1 (ps_iff.1 P.out).2 (ps_iff.1 Q.out).2)
  have C := canon_any (Op.negFloat .f64 r) (w2.drewN n) (by rw [negFloat_eq r hr.1]; exact negB_lt hr.1)
  rw [E] at C
  have C := hid C
  clear hr E
  go_wp2_with fail
  refine C.out.mono ?_
  rintro e w4 ⟨rfl, rfl⟩
  go_wp2
  go_ret
  exact ⟨rfl, Ab.drewN (Ab.trans B1.out B2.out) n⟩
theorem slope_n1 (a b : Nat) (w : World) (ha : a < 18446744073709551616) (hb : b < 18446744073709551616) (pa : ns a = true) (pb : ns b = true) : Calls Tryd.prog 48 #[.int .i64 1, .float .f64 a, .float .f64 b] w fun e w' => e = .returned (.float .f64 (op (lm 1 (a - 9223372036854775808) (b - 9223372036854775808)))) ∧ Below w.heap.size w w' := by
  have a1 := ns_iff.1 pa
  have b1 := ns_iff.1 pb
  exact slope_m1 a b _ _ w (by rw [flt_ns ha]; exact pa) (by rw [flt_ns hb]; exact pb) (by rw [fgt_ps ha]; exact ps_no.2 (by omega)) (by rw [negFloat_eq a ha, neg_ns a1.1]) (by rw [negFloat_eq b hb, neg_ns b1.1]) (ps_iff.2 ⟨by omega, by omega⟩) (ps_iff.2 ⟨by omega, by omega⟩)
set_option maxHeartbeats 2000000 in
theorem slope_z1 (a b : Nat) (w : World) (ha : a < 18446744073709551616) (hb : b < 18446744073709551616) (pa : (ps a && ps b) = false) (pb : (ns a && ns b) = false) : Calls Tryd.prog 48 #[.int .i64 1, .float .f64 a, .float .f64 b] w fun e w' => e = .returned (.float .f64 0) ∧ Below w.heap.size w w' := by
  have V := hid (valid_at 1 w)
  have L := hid limiters_at
  have IX : ∀ w : World, (Instr.index 72 (.agg #[.func (.func 51) #[] #[], .func (.func 52) #[] #[], .func (.func 53) #[] #[], .func (.func 54) #[] #[]]) (.int .i64 1)).run Tryd.prog w = .ok (.func (.func 52) #[] #[]) w := fun _ => by kernel_rfl
  rw [← fgt_ps ha, ← fgt_ps hb] at pa
  rw [← flt_ns ha, ← flt_ns hb] at pb
  clear ha hb
  cases g1 : fgt a 0 <;> cases g2 : flt a 0 <;> rw [g1] at pa <;> rw [g2] at pb <;> (try rw [Bool.true_and] at pa) <;> (try rw [Bool.true_and] at pb) <;> (
    go_enter Tryd.func48, Tryd.ntmps48
    go_wp2_with fail
    refine V.out.mono ?_
    rintro e w1 ⟨rfl, b1⟩
    have B1 := hid b1
    clear b1
    go_wp2_with fail
    refine (L.out _).mono ?_
    rintro e w2 ⟨rfl, b2⟩
    have B2 := hid b2
    clear b2
    go_wp2
    go_ret
    exact ⟨rfl, Ab.trans B1.out B2.out⟩)
set_option maxHeartbeats 2000000 in
theorem slope_p2 (a b : Nat) (w : World) (ha : a < 18446744073709551616) (hb : b < 18446744073709551616) (pa : ps a = true) (pb : ps b = true) : Calls Tryd.prog 48 #[.int .i64 2, .float .f64 a, .float .f64 b] w fun e w' => e = .returned (.float .f64 (lm 2 a b)) ∧ Below w.heap.size w w' := by
  have V := hid (valid_at 2 w)
  have L := hid limiters_at
  have IX : ∀ w : World, (Instr.index 72 (.agg #[.func (.func 51) #[] #[], .func (.func 52) #[] #[], .func (.func 53) #[] #[], .func (.func 54) #[] #[]]) (.int .i64 2)).run Tryd.prog w = .ok (.func (.func 53) #[] #[]) w := fun _ => by kernel_rfl
  have G := hid lim2
  have ga : fgt a 0 = true := by rw [fgt_ps ha]; exact pa
  have gb : fgt b 0 = true := by rw [fgt_ps hb]; exact pb
  have PA := hid pa
  have PB := hid pb
  clear pa pb ha hb
  go_enter Tryd.func48, Tryd.ntmps48
  go_wp2_with fail
  refine V.out.mono ?_
  rintro e w1 ⟨rfl, b1⟩
  have B1 := hid b1
  clear b1
  go_wp2_with fail
  refine (L.out _).mono ?_
  rintro e w2 ⟨rfl, b2⟩
  have B2 := hid b2
  clear b2
  go_wp2_with fail
  refine (G.out a b _ PA.out PB.out).mono ?_
  rintro e w3 ⟨r, rfl, ⟨n, rfl⟩, hr⟩
  have C := hid (canon_any r (w2.drewN n) hr.1)
  have HR := hid hr.2
  clear hr
  go_wp2_with fail
  refine C.out.mono ?_
  rintro e w4 ⟨rfl, rfl⟩
  go_wp2
  go_ret
  exact ⟨ret_flt HR.out, Ab.drewN (Ab.trans B1.out B2.out) n⟩
set_option maxHeartbeats 2000000 in
theorem slope_m2 (a b p q : Nat) (w : World) (ga : flt a 0 = true) (gb : flt b 0 = true) (ga2 : fgt a 0 = false) (na : Op.negFloat .f64 a = p) (nb : Op.negFloat .f64 b = q) (P : Hid (ps p = true)) (Q : Hid (ps q = true)) : Calls Tryd.prog 48 #[.int .i64 2, .float .f64 a, .float .f64 b] w fun e w' => e = .returned (.float .f64 (op (lm 2 p q))) ∧ Below w.heap.size w w' := by
  have V := hid (valid_at 2 w)
  have L := hid limiters_at
  have IX : ∀ w : World, (Instr.index 72 (.agg #[.func (.func 51) #[] #[], .func (.func 52) #[] #[], .func (.func 53) #[] #[], .func (.func 54) #[] #[]]) (.int .i64 2)).run Tryd.prog w = .ok (.func (.func 53) #[] #[]) w := fun _ => by kernel_rfl
  have G := hid lim2
  go_enter Tryd.func48, Tryd.ntmps48
  go_wp2_with fail
  refine V.out.mono ?_
  rintro e w1 ⟨rfl, b1⟩
  have B1 := hid b1
  clear b1
  go_wp2_with fail
  refine (L.out _).mono ?_
  rintro e w2 ⟨rfl, b2⟩
  have B2 := hid b2
  clear b2
  go_wp2_with fail
  refine (G.out p q _ P.out Q.out).mono ?_
  rintro e w3 ⟨r, rfl, ⟨n, rfl⟩, hr⟩
  have E : canonB (Op.negFloat .f64 r) = op (lm 2 p q) := by rw [negFloat_eq r hr.1]; exact canon_op2 hr (lm_le 2 (ps_iff.1 P.out).2 (ps_iff.1 Q.out).2)
  have C := canon_any (Op.negFloat .f64 r) (w2.drewN n) (by rw [negFloat_eq r hr.1]; exact negB_lt hr.1)
  rw [E] at C
  have C := hid C
  clear hr E
  go_wp2_with fail
  refine C.out.mono ?_
  rintro e w4 ⟨rfl, rfl⟩
  go_wp2
  go_ret
  exact ⟨rfl, Ab.drewN (Ab.trans B1.out B2.out) n⟩
theorem slope_n2 (a b : Nat) (w : World) (ha : a < 18446744073709551616) (hb : b < 18446744073709551616) (pa : ns a = true) (pb : ns b = true) : Calls Tryd.prog 48 #[.int .i64 2, .float .f64 a, .float .f64 b] w fun e w' => e = .returned (.float .f64 (op (lm 2 (a - 9223372036854775808) (b - 9223372036854775808)))) ∧ Below w.heap.size w w' := by
  have a1 := ns_iff.1 pa
  have b1 := ns_iff.1 pb
  exact slope_m2 a b _ _ w (by rw [flt_ns ha]; exact pa) (by rw [flt_ns hb]; exact pb) (by rw [fgt_ps ha]; exact ps_no.2 (by omega)) (by rw [negFloat_eq a ha, neg_ns a1.1]) (by rw [negFloat_eq b hb, neg_ns b1.1]) (ps_iff.2 ⟨by omega, by omega⟩) (ps_iff.2 ⟨by omega, by omega⟩)
set_option maxHeartbeats 2000000 in
theorem slope_z2 (a b : Nat) (w : World) (ha : a < 18446744073709551616) (hb : b < 18446744073709551616) (pa : (ps a && ps b) = false) (pb : (ns a && ns b) = false) : Calls Tryd.prog 48 #[.int .i64 2, .float .f64 a, .float .f64 b] w fun e w' => e = .returned (.float .f64 0) ∧ Below w.heap.size w w' := by
  have V := hid (valid_at 2 w)
  have L := hid limiters_at
  have IX : ∀ w : World, (Instr.index 72 (.agg #[.func (.func 51) #[] #[], .func (.func 52) #[] #[], .func (.func 53) #[] #[], .func (.func 54) #[] #[]]) (.int .i64 2)).run Tryd.prog w = .ok (.func (.func 53) #[] #[]) w := fun _ => by kernel_rfl
  rw [← fgt_ps ha, ← fgt_ps hb] at pa
  rw [← flt_ns ha, ← flt_ns hb] at pb
  clear ha hb
  cases g1 : fgt a 0 <;> cases g2 : flt a 0 <;> rw [g1] at pa <;> rw [g2] at pb <;> (try rw [Bool.true_and] at pa) <;> (try rw [Bool.true_and] at pb) <;> (
    go_enter Tryd.func48, Tryd.ntmps48
    go_wp2_with fail
    refine V.out.mono ?_
    rintro e w1 ⟨rfl, b1⟩
    have B1 := hid b1
    clear b1
    go_wp2_with fail
    refine (L.out _).mono ?_
    rintro e w2 ⟨rfl, b2⟩
    have B2 := hid b2
    clear b2
    go_wp2
    go_ret
    exact ⟨rfl, Ab.trans B1.out B2.out⟩)
set_option maxHeartbeats 2000000 in
theorem slope_p3 (a b : Nat) (w : World) (ha : a < 18446744073709551616) (hb : b < 18446744073709551616) (pa : ps a = true) (pb : ps b = true) : Calls Tryd.prog 48 #[.int .i64 3, .float .f64 a, .float .f64 b] w fun e w' => e = .returned (.float .f64 (lm 3 a b)) ∧ Below w.heap.size w w' := by
  have V := hid (valid_at 3 w)
  have L := hid limiters_at
  have IX : ∀ w : World, (Instr.index 72 (.agg #[.func (.func 51) #[] #[], .func (.func 52) #[] #[], .func (.func 53) #[] #[], .func (.func 54) #[] #[]]) (.int .i64 3)).run Tryd.prog w = .ok (.func (.func 54) #[] #[]) w := fun _ => by kernel_rfl
  have G := hid lim3
  have ga : fgt a 0 = true := by rw [fgt_ps ha]; exact pa
  have gb : fgt b 0 = true := by rw [fgt_ps hb]; exact pb
  have PA := hid pa
  have PB := hid pb
  clear pa pb ha hb
  go_enter Tryd.func48, Tryd.ntmps48
  go_wp2_with fail
  refine V.out.mono ?_
  rintro e w1 ⟨rfl, b1⟩
  have B1 := hid b1
  clear b1
  go_wp2_with fail
  refine (L.out _).mono ?_
  rintro e w2 ⟨rfl, b2⟩
  have B2 := hid b2
  clear b2
  go_wp2_with fail
  refine (G.out a b _ PA.out PB.out).mono ?_
  rintro e w3 ⟨r, rfl, ⟨n, rfl⟩, hr⟩
  have C := hid (canon_any r (w2.drewN n) hr.1)
  have HR := hid hr.2
  clear hr
  go_wp2_with fail
  refine C.out.mono ?_
  rintro e w4 ⟨rfl, rfl⟩
  go_wp2
  go_ret
  exact ⟨ret_flt HR.out, Ab.drewN (Ab.trans B1.out B2.out) n⟩
set_option maxHeartbeats 2000000 in
theorem slope_m3 (a b p q : Nat) (w : World) (ga : flt a 0 = true) (gb : flt b 0 = true) (ga2 : fgt a 0 = false) (na : Op.negFloat .f64 a = p) (nb : Op.negFloat .f64 b = q) (P : Hid (ps p = true)) (Q : Hid (ps q = true)) : Calls Tryd.prog 48 #[.int .i64 3, .float .f64 a, .float .f64 b] w fun e w' => e = .returned (.float .f64 (op (lm 3 p q))) ∧ Below w.heap.size w w' := by
  have V := hid (valid_at 3 w)
  have L := hid limiters_at
  have IX : ∀ w : World, (Instr.index 72 (.agg #[.func (.func 51) #[] #[], .func (.func 52) #[] #[], .func (.func 53) #[] #[], .func (.func 54) #[] #[]]) (.int .i64 3)).run Tryd.prog w = .ok (.func (.func 54) #[] #[]) w := fun _ => by kernel_rfl
  have G := hid lim3
  go_enter Tryd.func48, Tryd.ntmps48
  go_wp2_with fail
  refine V.out.mono ?_
  rintro e w1 ⟨rfl, b1⟩
  have B1 := hid b1
  clear b1
  go_wp2_with fail
  refine (L.out _).mono ?_
  rintro e w2 ⟨rfl, b2⟩
  have B2 := hid b2
  clear b2
  go_wp2_with fail
  refine (G.out p q _ P.out Q.out).mono ?_
  rintro e w3 ⟨r, rfl, ⟨n, rfl⟩, hr⟩
  have E : canonB (Op.negFloat .f64 r) = op (lm 3 p q) := by rw [negFloat_eq r hr.1]; exact canon_op2 hr (lm_le 3 (ps_iff.1 P.out).2 (ps_iff.1 Q.out).2)
  have C := canon_any (Op.negFloat .f64 r) (w2.drewN n) (by rw [negFloat_eq r hr.1]; exact negB_lt hr.1)
  rw [E] at C
  have C := hid C
  clear hr E
  go_wp2_with fail
  refine C.out.mono ?_
  rintro e w4 ⟨rfl, rfl⟩
  go_wp2
  go_ret
  exact ⟨rfl, Ab.drewN (Ab.trans B1.out B2.out) n⟩
theorem slope_n3 (a b : Nat) (w : World) (ha : a < 18446744073709551616) (hb : b < 18446744073709551616) (pa : ns a = true) (pb : ns b = true) : Calls Tryd.prog 48 #[.int .i64 3, .float .f64 a, .float .f64 b] w fun e w' => e = .returned (.float .f64 (op (lm 3 (a - 9223372036854775808) (b - 9223372036854775808)))) ∧ Below w.heap.size w w' := by
  have a1 := ns_iff.1 pa
  have b1 := ns_iff.1 pb
  exact slope_m3 a b _ _ w (by rw [flt_ns ha]; exact pa) (by rw [flt_ns hb]; exact pb) (by rw [fgt_ps ha]; exact ps_no.2 (by omega)) (by rw [negFloat_eq a ha, neg_ns a1.1]) (by rw [negFloat_eq b hb, neg_ns b1.1]) (ps_iff.2 ⟨by omega, by omega⟩) (ps_iff.2 ⟨by omega, by omega⟩)
set_option maxHeartbeats 2000000 in
theorem slope_z3 (a b : Nat) (w : World) (ha : a < 18446744073709551616) (hb : b < 18446744073709551616) (pa : (ps a && ps b) = false) (pb : (ns a && ns b) = false) : Calls Tryd.prog 48 #[.int .i64 3, .float .f64 a, .float .f64 b] w fun e w' => e = .returned (.float .f64 0) ∧ Below w.heap.size w w' := by
  have V := hid (valid_at 3 w)
  have L := hid limiters_at
  have IX : ∀ w : World, (Instr.index 72 (.agg #[.func (.func 51) #[] #[], .func (.func 52) #[] #[], .func (.func 53) #[] #[], .func (.func 54) #[] #[]]) (.int .i64 3)).run Tryd.prog w = .ok (.func (.func 54) #[] #[]) w := fun _ => by kernel_rfl
  rw [← fgt_ps ha, ← fgt_ps hb] at pa
  rw [← flt_ns ha, ← flt_ns hb] at pb
  clear ha hb
  cases g1 : fgt a 0 <;> cases g2 : flt a 0 <;> rw [g1] at pa <;> rw [g2] at pb <;> (try rw [Bool.true_and] at pa) <;> (try rw [Bool.true_and] at pb) <;> (
    go_enter Tryd.func48, Tryd.ntmps48
    go_wp2_with fail
    refine V.out.mono ?_
    rintro e w1 ⟨rfl, b1⟩
    have B1 := hid b1
    clear b1
    go_wp2_with fail
    refine (L.out _).mono ?_
    rintro e w2 ⟨rfl, b2⟩
    have B2 := hid b2
    clear b2
    go_wp2
    go_ret
    exact ⟨rfl, Ab.trans B1.out B2.out⟩)
set_option maxHeartbeats 2000000 in
theorem slope_i (k : Int) (a b : Nat) (w : World) (hk : decide (0 ≤ k ∧ k ≤ 3) = false) : Calls Tryd.prog 48 #[.int .i64 k, .float .f64 a, .float .f64 b] w fun e w' => e = .returned (.float .f64 0) ∧ Below w.heap.size w w' := by
  have V := valid_at k w
  rw [hk] at V
  have V := hid V
  clear hk
  go_enter Tryd.func48, Tryd.ntmps48
  go_wp2_with fail
  refine V.out.mono ?_
  rintro e w1 ⟨rfl, b1⟩
  have B1 := hid b1
  clear b1
  go_wp2
  go_ret
  exact ⟨rfl, B1.out⟩
theorem slope_at (k : Int) (a b : Nat) (w : World) (ha : a < 18446744073709551616) (hb : b < 18446744073709551616) : Calls Tryd.prog 48 #[.int .i64 k, .float .f64 a, .float .f64 b] w fun e w' => e = .returned (.float .f64 (slp k a b)) ∧ Below w.heap.size w w' := by
  by_cases hk : 0 ≤ k ∧ k ≤ 3
  · have hk : k = 0 ∨ k = 1 ∨ k = 2 ∨ k = 3 := by omega
    unfold slp
    cases p : (ps a && ps b)
    · cases n : (ns a && ns b)
      · rw [if_neg (by decide), if_neg (by decide)]
        rcases hk with rfl | rfl | rfl | rfl
        · exact slope_z0 a b w ha hb p n
        · exact slope_z1 a b w ha hb p n
        · exact slope_z2 a b w ha hb p n
        · exact slope_z3 a b w ha hb p n
      · rw [if_neg (by decide), if_pos rfl]
        rw [Bool.and_eq_true] at n
        rcases hk with rfl | rfl | rfl | rfl
        · exact slope_n0 a b w ha hb n.1 n.2
        · exact slope_n1 a b w ha hb n.1 n.2
        · exact slope_n2 a b w ha hb n.1 n.2
        · exact slope_n3 a b w ha hb n.1 n.2
    · rw [if_pos rfl]
      rw [Bool.and_eq_true] at p
      rcases hk with rfl | rfl | rfl | rfl
      · exact slope_p0 a b w ha hb p.1 p.2
      · exact slope_p1 a b w ha hb p.1 p.2
      · exact slope_p2 a b w ha hb p.1 p.2
      · exact slope_p3 a b w ha hb p.1 p.2
  · have e : slp k a b = 0 := by
      have h : ∀ x y, lm k x y = 0 := fun x y => by
        unfold lm
        rw [if_neg (by omega), if_neg (by omega), if_neg (by omega)]
      unfold slp op
      rw [h, h]
      simp
    rw [e]
    exact slope_i k a b w (decide_eq_false hk)
end Go.Proofs.YtbhgfmoopmlnjaaDoor

namespace Go.Proofs.YtbhgfmoopmlnjaaDoor
open Go.RowKit Tf Cu Go.Deep
theorem three_of (W : World) (A B C : Obj) : (((W.alloc A).alloc B).alloc C).heap[W.heap.size]? = some A ∧ (((W.alloc A).alloc B).alloc C).heap[W.heap.size + 1]? = some B ∧ (((W.alloc A).alloc B).alloc C).heap[W.heap.size + 1 + 1]? = some C := by
  have q0 := heap_alloc_new W A
  have q1 := heap_alloc_new (W.alloc A) B
  have q2 := heap_alloc_new ((W.alloc A).alloc B) C
  rw [size1] at q1
  rw [size1, size1] at q2
  exact ⟨Ab.heap (bl1 _ _) (Ab.heap (bl1 _ _) q0), Ab.heap (bl1 _ _) q1, q2⟩
/-- a sea of the call's own in block g, its lists in blocks bB and bW: fb and fw lie there -/
def OwnSea (W : World) (g bB bW M : Nat) (r : Array Value) (fb : Nat → Nat) (fw : Nat → Int) (v : World) : Prop :=
  Ab W v ∧ v.heap[g]? = some (.cells r 25) ∧ v.rowIs bB 33 M (fun i => .float .f64 (fb i)) ∧ v.rowIs bW 2 M (fun i => .int .i64 (fw i))
theorem OwnSea.to {W : World} {g bB bW M : Nat} {r : Array Value} {fb : Nat → Nat} {fw : Nat → Int} {v v' : World} (h : OwnSea W g bB bW M r fb fw v) (a : Ab v v') : OwnSea W g bB bW M r fb fw v' :=
  ⟨h.1.trans a, a.heap h.2.1, rowIs.ab h.2.2.1 a, rowIs.ab h.2.2.2 a⟩
end Go.Proofs.YtbhgfmoopmlnjaaDoor

namespace Go.Proofs.YtbhgfmoopmlnjaaDoor
open Go.RowKit Tf Cu Go.Deep
attribute [local go_sem] run_bits run_from raw_feq raw_fne raw_flt raw_fgt run_neg run_store_float
set_option maxRecDepth 100000 in
set_option maxHeartbeats 4000000 in
theorem all12_at (pa pb : Option Addr) (len ca cb : Nat) (xs : Nat → Nat) (w : World) (hl : len ≤ 281474976710656) (hA : IsFl w pa len xs) (hB : IsFl w pb len xs) :
    Calls Tryd.prog 11 #[.slice pa len ca, .slice pb len cb] w fun e w' => e = .returned (.bool true) ∧ Below w.heap.size w w' := by
  have SS : Hid (∀ (x : Nat) (v : World), Calls Tryd.prog 12 #[.float .f64 x, .float .f64 x] v fun e w' => e = .returned (.bool true) ∧ Below v.heap.size v w') := fun x v => by
    have h := rawSame_any x x v
    rw [show sameB x x = true by unfold sameB; exact decide_eq_true rfl] at h
    exact h.mono fun _ _ ⟨he, hw⟩ => ⟨he, by rw [hw]; exact Below.refl _ _⟩
  have HA := hid hA
  have HB := hid hB
  have HL := hid hl
  clear hA hB hl
  go_enter Tryd.func11, Tryd.ntmps11
  go_wp2
  go_loopw [5] (fun iv wr => ∃ c : Nat, c ≤ len ∧ iv = .int .i64 (c : Nat) ∧ Ab w wr) (fun iv _ => len - (intOf iv).toNat)
  case atStart => exact ⟨0, by omega, rfl, Ab.refl w⟩
  case round =>
    obtain ⟨c, hc, rfl, ar⟩ := hrel
    have AR := hid ar
    clear ar
    by_cases h : c < len
    · have HC := hid h
      obtain ⟨x, hx⟩ : ∃ x, xs c = x := ⟨_, rfl⟩
      obtain ⟨-, b1, o1, e1, l1, c1⟩ := HA.out c h
      obtain ⟨-, b2, o2, e2, l2, c2⟩ := HB.out c h
      rw [hx] at c1 c2
      have C1 := hid c1
      have C2 := hid c2
      have L1 := hid l1
      have L2 := hid l2
      have hcI : (c : Int) < len := by omega
      have hcB : (c : Int) ≤ 281474976710656 := by have := HL.out; omega
      clear c1 c2 l1 l2 hx h
      subst e1 e2
      go_upto_region 6 with fail
      obtain ⟨UU, E, hF1, hF2⟩ := cls wr
      have HU := hid hF2
      have HU1 := hid hF1
      have x1 : ∀ u, (E u).cell? ⟨b1, o1 + c, none⟩ = some (.float .f64 x) := fun u => (Below.cell (AR.out.trans (hF1 u)) L1.out).trans C1.out
      have x2 : ∀ u, (E u).cell? ⟨b2, o2 + c, none⟩ = some (.float .f64 x) := fun u => (Below.cell (AR.out.trans (hF1 u)) L2.out).trans C2.out
      have DD0 := HU.out _ (Ab.refl wr).drew
      clear hF1 hF2
      refine region_cls E (by kernel_rfl) (by kernel_rfl) DD0 ?_
      repeat (go_big_quiet_step (first
        | (with_reducible rfl)
        | (go_at_call 12; exact calls_cls HU HU1 (SS.out _ _))))
      refine wpQuiet_nil ?_
      intro z hwz
      obtain ⟨u0, hu⟩ := hwz
      have AZ : Hid (Ab w z) := by rw [hu]; exact AR.out.trans (HU1.out u0)
      clear hu u0
      clear HU HU1 DD0 x1 x2
      clear E UU
      go_wp2
      go_roundw
      case rel => exact ⟨c + 1, by have := HC.out; omega, by simp, AZ.out⟩
      case measure => simp [intOf]; have := HC.out; omega
    · have e : len = c := by omega
      subst e
      go_wp2
      go_ret
      exact ⟨rfl, AR.out⟩
theorem madeCells_size (z : Value) (n : Nat) : (madeCells #[z] n).size = n := by
  obtain ⟨c, h1, h2⟩ := World.rowIs_made default z n 0
  have e := heap_alloc_new (default : World) (Obj.cells (madeCells #[z] n) 0)
  rw [e] at h1
  injection h1 with h1
  injection h1 with h1
  rw [h1]
  exact h2.1
theorem copy12 (pa : Option Addr) (len ca : Nat) (xs : Nat → Nat) (w : World) (hA : IsFl w pa len xs) :
    ∃ v', (Builtin.copy_ #[22, 22] 3 #[.slice (some ⟨w.heap.size, 0, none⟩) len len, .slice pa len ca]).run Tryd.prog (w.alloc (Obj.cells (madeCells #[.float .f64 0] len) 33)) = .ok (goInt len) v' ∧ Below w.heap.size w v' ∧ v'.rowIs w.heap.size 33 len (fun i => .float .f64 (xs i)) := by
  have hs : (Tryd.prog.info? 33).map (·.size) = some 1 := by kernel_rfl
  by_cases c : len = 0
  · subst c
    exact ⟨_, run_copy_none _ _ _ _ 33 _ _ _ _ _ _ Tryd.underlying22 hs (by simp), bl1 _ _, (World.rowIs_made _ _ _ _).congr (fun i hi => by omega)⟩
  · obtain ⟨-, b, o, rfl, -, -⟩ := hA 0 (by omega)
    have sz := madeCells_size (.float .f64 0) len
    refine ⟨_, (run_copy_row Tryd.prog (w.alloc (Obj.cells (madeCells #[.float .f64 0] len) 33)) _ _ _ 33 w.heap.size 0 len len ⟨b, o, none⟩ len ca (madeCells #[.float .f64 0] len) 33 ((List.range len).map (fun i => .float .f64 (xs i))) Tryd.underlying22 hs (heap_alloc_new _ _) (by simp) ?_ (by simp [sz]) (by simp [Value.oneCell'])).trans (by simp; rfl), ?_, ?_⟩
    · intro j v hj
      obtain ⟨hj1, hj2⟩ := List.getElem?_eq_some_iff.1 hj
      simp at hj1 hj2
      have h := hA.at0 hj1
      rw [add_off12, (bl1 w _).cell (p := ⟨b, o + j, none⟩) h.2.1, h.2.2, ← hj2]
    · exact below_setRow (bl1 _ _) (Nat.le_refl _) _
    · refine ⟨_, setRow_heap _ _ _ _ _ _ (heap_alloc_new _ _), ?_⟩
      have e : (madeCells #[Value.float .f64 0] len).toList.drop len = [] := by simp [sz]
      rw [e, List.append_nil]
      refine ⟨by simp, fun i hi => ?_⟩
      simp [hi]
set_option maxRecDepth 100000 in
set_option maxHeartbeats 4000000 in
theorem copied12_at (pa : Option Addr) (len ca : Nat) (xs : Nat → Nat) (w : World) (hl : len ≤ 4294967296) (hA : IsFl w pa len xs) :
    Calls Tryd.prog 9 #[.slice pa len ca] w fun e w' => ∃ b, e = .returned (.slice (some ⟨b, 0, none⟩) len len) ∧ Below w.heap.size w w' ∧ w'.rowIs b 33 len (fun i => .float .f64 (xs i)) ∧ w.heap.size ≤ b := by
  have M1 : ∀ v : World, (Instr.makeSlice 22 (.int .i64 (len : Nat)) (.int .i64 (len : Nat))).run Tryd.prog v = .ok (.slice (some ⟨v.heap.size, 0, none⟩) len len) (v.alloc (Obj.cells (madeCells #[.float .f64 0] len) 33)) := fun v =>
    run_make_row' (P := Tryd.prog) 22 33 (.float .f64 0) 8 Tryd.underlying22 infoF64 rfl .i64 .i64 len (by omega) (by omega) v
  have HA := hid hA
  clear hA hl
  go_enter Tryd.func9, Tryd.ntmps9
  obtain ⟨v', CP, bv, rv⟩ := copy12 pa len ca xs w HA.out
  have BV := hid bv
  have RV := hid rv
  clear bv rv HA
  go_wp2
  go_ret
  exact ⟨_, rfl, BV.out, RV.out, Nat.le_refl _⟩
end Go.Proofs.YtbhgfmoopmlnjaaDoor
