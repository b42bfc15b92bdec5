/-
  Some of the texts of this proof, one behind the other.
-/
import Derived.Lib.SliceRun
import Derived.Test.YtdigecacmibkpaaGreatDoorSa13
namespace Go.Proofs.YtdigecacmibkpaaGreatDoor
open Go.RowKit Tf Cu Go.Deep
attribute [local go_sem] run_bits run_from raw_feq raw_fne raw_flt raw_fgt run_neg run_store_float
namespace Ss
theorem eqL_comm {α : Type} [DecidableEq α] (n m : Nat) (f g : Nat → α) : eqL n m f g = eqL m n g f := by
  unfold eqL
  apply decide_eq_decide.2
  constructor
  · rintro ⟨rfl, h⟩
    exact ⟨rfl, fun i hi => (h i hi).symm⟩
  · rintro ⟨rfl, h⟩
    exact ⟨rfl, fun i hi => (h i hi).symm⟩
theorem eqL_self {α : Type} [DecidableEq α] (n : Nat) (f : Nat → α) : eqL n n f f = true := by
  unfold eqL
  exact decide_eq_true ⟨rfl, fun _ _ => rfl⟩
theorem eqS_comm (lb lw lt ls : Nat) (B : Nat → Nat) (W T : Nat → Int) (S : Nat → Nat) (sky st : Int) (lb' lw' lt' ls' : Nat) (B' : Nat → Nat) (W' T' : Nat → Int) (S' : Nat → Nat) (sky' st' : Int) :
    eqS lb' lw' lt' ls' B' W' T' S' sky' st' lb lw lt ls B W T S sky st = eqS lb lw lt ls B W T S sky st lb' lw' lt' ls' B' W' T' S' sky' st' := by
  unfold eqS
  rw [eqL_comm lb' lb, eqL_comm lw' lw, eqL_comm lt' lt, eqL_comm ls' ls, decide_eq_decide.2 (show sky' = sky ↔ sky = sky' from eq_comm), decide_eq_decide.2 (show st' = st ↔ st = st' from eq_comm)]
theorem eqS_self (lb lw lt ls : Nat) (B : Nat → Nat) (W T : Nat → Int) (S : Nat → Nat) (sky st : Int) : eqS lb lw lt ls B W T S sky st lb lw lt ls B W T S sky st = true := by
  unfold eqS
  rw [eqL_self, eqL_self, eqL_self, eqL_self]
  simp
theorem dj_ty {t t' : TypeId} {M M' : Nat} {v u : Value} {l l' : List Value} {w : World} (h : OV t M v l w) (k : OV t' M' u l' w) (ne : t ≠ t') : Dj v u := fun b h1 h2 => by
  rcases h.2 with ⟨rfl, _⟩ | ⟨g, cap, cur, rfl, _, hg, _⟩
  · cases h1
  · rcases k.2 with ⟨rfl, _⟩ | ⟨g', cap', cur', rfl, _, hg', _⟩
    · cases h2
    · simp only [Value.ownBlock, Option.some.injEq] at h1 h2
      subst h1
      subst h2
      rw [hg] at hg'
      injection hg' with e
      injection e with _ e2
      exact ne e2
theorem ovF {M n : Nat} {f : Nat → Nat} {v : Value} {w : World} (h : OwnG M v ((List.range n).map f) w) : OV 22 M v (((List.range n).map f).map (Value.float .f64)) w := by
  unfold OV
  rw [List.length_map]
  exact h
theorem ovI {M n : Nat} {f : Nat → Int} {v : Value} {w : World} (h : Sh.Own M v ((List.range n).map f) w) : OV 2 M v (((List.range n).map f).map (Value.int .i64)) w := by
  unfold OV
  rw [List.length_map]
  exact h
theorem own_k20 {M : Nat} {v : Value} {lb lw lt ls : Nat} {B : Nat → Nat} {W T : Nat → Int} {S : Nat → Nat} {sky st : Int} {w : World} (h : OwnS M v lb lw lt ls B W T S sky st w) (hB : ∀ i, i < lb → B i < 18446744073709551616) (hW : ∀ i, i < lw → Sh.W64 (W i)) (hT : ∀ i, i < lt → Sh.W64 (T i)) (hS : ∀ i, i < ls → S i < 18446744073709551616) :
    ∃ p1 c1 p2 c2 p3 c3 p4 c4, v = .agg #[.slice p1 lb c1, .slice p2 lw c2, .slice p3 lt c3, .slice p4 ls c4, .int .i64 sky, .int .i64 st] ∧ (IsFl w p1 lb B ∧ Sh.IsI w p2 lw W ∧ Sh.IsI w p3 lt T ∧ IsFl w p4 ls S) ∧ (OV 22 M (.slice p1 lb c1) (((List.range lb).map B).map (Value.float .f64)) w ∧ OV 2 M (.slice p2 lw c2) (((List.range lw).map W).map (Value.int .i64)) w ∧ OV 2 M (.slice p3 lt c3) (((List.range lt).map T).map (Value.int .i64)) w ∧ OV 22 M (.slice p4 ls c4) (((List.range ls).map S).map (Value.float .f64)) w) ∧ (Dj (.slice p1 lb c1) (.slice p2 lw c2) ∧ Dj (.slice p1 lb c1) (.slice p3 lt c3) ∧ Dj (.slice p1 lb c1) (.slice p4 ls c4) ∧ Dj (.slice p2 lw c2) (.slice p3 lt c3) ∧ Dj (.slice p2 lw c2) (.slice p4 ls c4) ∧ Dj (.slice p3 lt c3) (.slice p4 ls c4)) := by
  obtain ⟨p1, c1, p2, c2, p3, c3, p4, c4, rfl, i1, i2, i3, i4, o2, o3, o1, o4, d14⟩ := own_sea h hB hW hT hS
  have d23 : Dj (.slice p2 lw c2) (.slice p3 lt c3) := by
    obtain ⟨v1, v2, v3, v4, e, -, -, -, -, -, d⟩ := h
    simp only [Value.agg.injEq, Array.mk.injEq, List.cons.injEq] at e
    rw [e.2.1, e.2.2.1]
    exact d
  exact ⟨p1, c1, p2, c2, p3, c3, p4, c4, rfl, ⟨i1, i2, i3, i4⟩, ⟨ovF o1, ovI o2, ovI o3, ovF o4⟩, dj_ty (ovF o1) (ovI o2) (by decide), dj_ty (ovF o1) (ovI o3) (by decide), d14, d23, dj_ty (ovI o2) (ovF o4) (by decide), dj_ty (ovI o3) (ovF o4) (by decide)⟩
theorem allF_map {l : List Nat} : AllF (l.map (Value.float .f64)) := fun i hi => by simp
theorem allI_map {l : List Int} : AllI (l.map (Value.int .i64)) := fun i hi => by simp
theorem ov_not {t : TypeId} {M N : Nat} {p : Option Addr} {n c : Nat} {l : List Value} {w : World} {P : Nat → Prop} (h : OV t M (.slice p n c) l w) (hP : ∀ k, P k → k < N) (hN : N ≤ M) : ∀ b o, p = some ⟨b, o, none⟩ → ¬ P b := fun b o e q => by
  subst e
  have := (h.blk (k := b) rfl).1
  have := hP b q
  omega
set_option maxRecDepth 100000 in
set_option maxHeartbeats 16000000 in
theorem ssames_wa (pb : Option Addr) (lb cb : Nat) (pw : Option Addr) (lw cw : Nat) (pt : Option Addr) (lt ct : Nat) (ps : Option Addr) (ls cs : Nat) (sky st : Int) (pb' : Option Addr) (lb' cb' : Nat) (pw' : Option Addr) (lw' cw' : Nat) (pt' : Option Addr) (lt' ct' : Nat) (ps' : Option Addr) (ls' cs' : Nat) (sky' st' : Int) (w : World) (LV : Hid (∀ v, Ab w v → Calls Tryz.prog 9 #[] v fun e w' => e = .returned (.bool true) ∧ Below v.heap.size v w'))
    (WA : Hid (∀ v, Calls Tryz.prog 12 #[.agg #[.slice pb lb cb, .slice pw lw cw, .slice pt lt ct, .slice ps ls cs, .int .i64 sky, .int .i64 st]] v fun e w' => e = .returned (.bool true) ∧ Below v.heap.size v w')) :
    Calls Tryz.prog 5 #[.agg #[.slice pb lb cb, .slice pw lw cw, .slice pt lt ct, .slice ps ls cs, .int .i64 sky, .int .i64 st], .agg #[.slice pb' lb' cb', .slice pw' lw' cw', .slice pt' lt' ct', .slice ps' ls' cs', .int .i64 sky', .int .i64 st']] w fun e w' => e = .returned (.bool true) ∧ Below w.heap.size w w' := by
  have A0 : Hid (Ab w ((w.alloc (.cells #[.slice pb lb cb, .slice pw lw cw, .slice pt lt ct, .slice ps ls cs, .int .i64 sky, .int .i64 st] 33)).alloc (.cells #[.slice pb' lb' cb', .slice pw' lw' cw', .slice pt' lt' ct', .slice ps' ls' cs', .int .i64 sky', .int .i64 st'] 33))) := bl2 _ _ _
  have R0 : Hid (((w.alloc (.cells #[.slice pb lb cb, .slice pw lw cw, .slice pt lt ct, .slice ps ls cs, .int .i64 sky, .int .i64 st] 33)).alloc (.cells #[.slice pb' lb' cb', .slice pw' lw' cw', .slice pt' lt' ct', .slice ps' ls' cs', .int .i64 sky', .int .i64 st'] 33)).heap[w.heap.size]? = some (.cells #[.slice pb lb cb, .slice pw lw cw, .slice pt lt ct, .slice ps ls cs, .int .i64 sky, .int .i64 st] 33)) := heap_alloc2_old _ _ _
  have Q0 : Hid (((w.alloc (.cells #[.slice pb lb cb, .slice pw lw cw, .slice pt lt ct, .slice ps ls cs, .int .i64 sky, .int .i64 st] 33)).alloc (.cells #[.slice pb' lb' cb', .slice pw' lw' cw', .slice pt' lt' ct', .slice ps' ls' cs', .int .i64 sky', .int .i64 st'] 33)).heap[w.heap.size + 1]? = some (.cells #[.slice pb' lb' cb', .slice pw' lw' cw', .slice pt' lt' ct', .slice ps' ls' cs', .int .i64 sky', .int .i64 st'] 33)) := heap_alloc2_new _ _ _
  go_enter Tryz.func5, Tryz.ntmps5
  go_upto_region 1 with fail
  generalize hW : World.alloc (World.alloc w _) _ = V0 at *
  obtain ⟨ga, hga⟩ : ∃ g, w.heap.size = g := ⟨_, rfl⟩
  obtain ⟨gr, hgr⟩ : ∃ g, w.heap.size + 1 = g := ⟨_, rfl⟩
  rw [hgr] at Q0 ⊢
  rw [hga] at R0 ⊢
  clear hga hgr hW
  go_wp2_with fail
  refine (LV.out _ A0.out).mono ?_
  rintro e9 v1 ⟨rfl, b1⟩
  have A1 : Hid (Ab w v1) := A0.out.trans b1
  have R1 := hid (Ab.heap b1 R0.out)
  have Q1 := hid (Ab.heap b1 Q0.out)
  clear b1
  have x0 := cell_of_row _ _ 0 _ _ _ R1.out
  have x1 := cell_of_row _ _ 1 _ _ _ R1.out
  have x2 := cell_of_row _ _ 2 _ _ _ R1.out
  have x3 := cell_of_row _ _ 3 _ _ _ R1.out
  have x4 := cell_of_row _ _ 4 _ _ _ R1.out
  have x5 := cell_of_row _ _ 5 _ _ _ R1.out
  have y0 := cell_of_row _ _ 0 _ _ _ Q1.out
  have y1 := cell_of_row _ _ 1 _ _ _ Q1.out
  have y2 := cell_of_row _ _ 2 _ _ _ Q1.out
  have y3 := cell_of_row _ _ 3 _ _ _ Q1.out
  have y4 := cell_of_row _ _ 4 _ _ _ Q1.out
  have y5 := cell_of_row _ _ 5 _ _ _ Q1.out
  go_wp2_with fail
  refine (WA.out _).mono ?_
  rintro e9 v2 ⟨rfl, b2⟩
  have A2 : Hid (Ab w v2) := A1.out.trans b2
  have R2 := hid (Ab.heap b2 R1.out)
  have Q2 := hid (Ab.heap b2 Q1.out)
  clear x0 y0 x1 y1 x2 y2 x3 y3 x4 y4 x5 y5 b2
  go_wp2
  go_ret
  exact ⟨rfl, A2.out⟩
set_option maxRecDepth 100000 in
set_option maxHeartbeats 16000000 in
theorem ssames_wb (pb : Option Addr) (lb cb : Nat) (pw : Option Addr) (lw cw : Nat) (pt : Option Addr) (lt ct : Nat) (ps : Option Addr) (ls cs : Nat) (sky st : Int) (pb' : Option Addr) (lb' cb' : Nat) (pw' : Option Addr) (lw' cw' : Nat) (pt' : Option Addr) (lt' ct' : Nat) (ps' : Option Addr) (ls' cs' : Nat) (sky' st' : Int) (w : World) (LV : Hid (∀ v, Ab w v → Calls Tryz.prog 9 #[] v fun e w' => e = .returned (.bool true) ∧ Below v.heap.size v w'))
    (WA : Hid (∀ v, Calls Tryz.prog 12 #[.agg #[.slice pb lb cb, .slice pw lw cw, .slice pt lt ct, .slice ps ls cs, .int .i64 sky, .int .i64 st]] v fun e w' => e = .returned (.bool false) ∧ Below v.heap.size v w'))
    (WB : Hid (∀ v, Calls Tryz.prog 12 #[.agg #[.slice pb' lb' cb', .slice pw' lw' cw', .slice pt' lt' ct', .slice ps' ls' cs', .int .i64 sky', .int .i64 st']] v fun e w' => e = .returned (.bool true) ∧ Below v.heap.size v w')) :
    Calls Tryz.prog 5 #[.agg #[.slice pb lb cb, .slice pw lw cw, .slice pt lt ct, .slice ps ls cs, .int .i64 sky, .int .i64 st], .agg #[.slice pb' lb' cb', .slice pw' lw' cw', .slice pt' lt' ct', .slice ps' ls' cs', .int .i64 sky', .int .i64 st']] w fun e w' => e = .returned (.bool true) ∧ Below w.heap.size w w' := by
  have A0 : Hid (Ab w ((w.alloc (.cells #[.slice pb lb cb, .slice pw lw cw, .slice pt lt ct, .slice ps ls cs, .int .i64 sky, .int .i64 st] 33)).alloc (.cells #[.slice pb' lb' cb', .slice pw' lw' cw', .slice pt' lt' ct', .slice ps' ls' cs', .int .i64 sky', .int .i64 st'] 33))) := bl2 _ _ _
  have R0 : Hid (((w.alloc (.cells #[.slice pb lb cb, .slice pw lw cw, .slice pt lt ct, .slice ps ls cs, .int .i64 sky, .int .i64 st] 33)).alloc (.cells #[.slice pb' lb' cb', .slice pw' lw' cw', .slice pt' lt' ct', .slice ps' ls' cs', .int .i64 sky', .int .i64 st'] 33)).heap[w.heap.size]? = some (.cells #[.slice pb lb cb, .slice pw lw cw, .slice pt lt ct, .slice ps ls cs, .int .i64 sky, .int .i64 st] 33)) := heap_alloc2_old _ _ _
  have Q0 : Hid (((w.alloc (.cells #[.slice pb lb cb, .slice pw lw cw, .slice pt lt ct, .slice ps ls cs, .int .i64 sky, .int .i64 st] 33)).alloc (.cells #[.slice pb' lb' cb', .slice pw' lw' cw', .slice pt' lt' ct', .slice ps' ls' cs', .int .i64 sky', .int .i64 st'] 33)).heap[w.heap.size + 1]? = some (.cells #[.slice pb' lb' cb', .slice pw' lw' cw', .slice pt' lt' ct', .slice ps' ls' cs', .int .i64 sky', .int .i64 st'] 33)) := heap_alloc2_new _ _ _
  go_enter Tryz.func5, Tryz.ntmps5
  go_upto_region 1 with fail
  generalize hW : World.alloc (World.alloc w _) _ = V0 at *
  obtain ⟨ga, hga⟩ : ∃ g, w.heap.size = g := ⟨_, rfl⟩
  obtain ⟨gr, hgr⟩ : ∃ g, w.heap.size + 1 = g := ⟨_, rfl⟩
  rw [hgr] at Q0 ⊢
  rw [hga] at R0 ⊢
  clear hga hgr hW
  go_wp2_with fail
  refine (LV.out _ A0.out).mono ?_
  rintro e9 v1 ⟨rfl, b1⟩
  have A1 : Hid (Ab w v1) := A0.out.trans b1
  have R1 := hid (Ab.heap b1 R0.out)
  have Q1 := hid (Ab.heap b1 Q0.out)
  clear b1
  have x0 := cell_of_row _ _ 0 _ _ _ R1.out
  have x1 := cell_of_row _ _ 1 _ _ _ R1.out
  have x2 := cell_of_row _ _ 2 _ _ _ R1.out
  have x3 := cell_of_row _ _ 3 _ _ _ R1.out
  have x4 := cell_of_row _ _ 4 _ _ _ R1.out
  have x5 := cell_of_row _ _ 5 _ _ _ R1.out
  have y0 := cell_of_row _ _ 0 _ _ _ Q1.out
  have y1 := cell_of_row _ _ 1 _ _ _ Q1.out
  have y2 := cell_of_row _ _ 2 _ _ _ Q1.out
  have y3 := cell_of_row _ _ 3 _ _ _ Q1.out
  have y4 := cell_of_row _ _ 4 _ _ _ Q1.out
  have y5 := cell_of_row _ _ 5 _ _ _ Q1.out
  go_wp2_with fail
  refine (WA.out _).mono ?_
  rintro e9 v2 ⟨rfl, b2⟩
  have A2 : Hid (Ab w v2) := A1.out.trans b2
  have R2 := hid (Ab.heap b2 R1.out)
  have Q2 := hid (Ab.heap b2 Q1.out)
  clear x0 y0 x1 y1 x2 y2 x3 y3 x4 y4 x5 y5 b2
  have x0 := cell_of_row _ _ 0 _ _ _ R2.out
  have x1 := cell_of_row _ _ 1 _ _ _ R2.out
  have x2 := cell_of_row _ _ 2 _ _ _ R2.out
  have x3 := cell_of_row _ _ 3 _ _ _ R2.out
  have x4 := cell_of_row _ _ 4 _ _ _ R2.out
  have x5 := cell_of_row _ _ 5 _ _ _ R2.out
  have y0 := cell_of_row _ _ 0 _ _ _ Q2.out
  have y1 := cell_of_row _ _ 1 _ _ _ Q2.out
  have y2 := cell_of_row _ _ 2 _ _ _ Q2.out
  have y3 := cell_of_row _ _ 3 _ _ _ Q2.out
  have y4 := cell_of_row _ _ 4 _ _ _ Q2.out
  have y5 := cell_of_row _ _ 5 _ _ _ Q2.out
  go_wp2_with fail
  refine (WB.out _).mono ?_
  rintro e9 v3 ⟨rfl, b3⟩
  have A3 : Hid (Ab w v3) := A2.out.trans b3
  have R3 := hid (Ab.heap b3 R2.out)
  have Q3 := hid (Ab.heap b3 Q2.out)
  clear x0 y0 x1 y1 x2 y2 x3 y3 x4 y4 x5 y5 b3
  go_wp2
  go_ret
  exact ⟨rfl, A3.out⟩
set_option maxRecDepth 100000 in
set_option maxHeartbeats 64000000 in
theorem ssames_go (pb : Option Addr) (lb cb : Nat) (B : Nat → Nat) (pw : Option Addr) (lw cw : Nat) (W : Nat → Int) (pt : Option Addr) (lt ct : Nat) (T : Nat → Int) (ps : Option Addr) (ls cs : Nat) (S : Nat → Nat) (sky st : Int) (pb' : Option Addr) (lb' cb' : Nat) (B' : Nat → Nat) (pw' : Option Addr) (lw' cw' : Nat) (W' : Nat → Int) (pt' : Option Addr) (lt' ct' : Nat) (T' : Nat → Int) (ps' : Option Addr) (ls' cs' : Nat) (S' : Nat → Nat) (sky' st' : Int) (ee : Bool) (w : World) (LV : Hid (∀ v, Ab w v → Calls Tryz.prog 9 #[] v fun e w' => e = .returned (.bool true) ∧ Below v.heap.size v w'))
    (WA : Hid (∀ v, Calls Tryz.prog 12 #[.agg #[.slice pb lb cb, .slice pw lw cw, .slice pt lt ct, .slice ps ls cs, .int .i64 sky, .int .i64 st]] v fun e w' => e = .returned (.bool false) ∧ Below v.heap.size v w'))
    (WB : Hid (∀ v, Calls Tryz.prog 12 #[.agg #[.slice pb' lb' cb', .slice pw' lw' cw', .slice pt' lt' ct', .slice ps' ls' cs', .int .i64 sky', .int .i64 st']] v fun e w' => e = .returned (.bool false) ∧ Below v.heap.size v w'))
    (S1 : Hid (∀ v, Ab w v → Calls Tryz.prog 15 #[.agg #[.slice pb lb cb, .slice pw lw cw, .slice pt lt ct, .slice ps ls cs, .int .i64 sky, .int .i64 st], .agg #[.slice pb' lb' cb', .slice pw' lw' cw', .slice pt' lt' ct', .slice ps' ls' cs', .int .i64 sky', .int .i64 st']] v fun e w' => e = .returned (.bool ee) ∧ Below v.heap.size v w'))
    (S2 : Hid (∀ v, Ab w v → Calls Tryz.prog 16 #[.agg #[.slice pb lb cb, .slice pw lw cw, .slice pt lt ct, .slice ps ls cs, .int .i64 sky, .int .i64 st], .agg #[.slice pb' lb' cb', .slice pw' lw' cw', .slice pt' lt' ct', .slice ps' ls' cs', .int .i64 sky', .int .i64 st']] v fun e w' => e = .returned (.bool ee) ∧ Below v.heap.size v w'))
    (S3 : Hid (∀ v, Ab w v → Calls Tryz.prog 15 #[.agg #[.slice pb' lb' cb', .slice pw' lw' cw', .slice pt' lt' ct', .slice ps' ls' cs', .int .i64 sky', .int .i64 st'], .agg #[.slice pb lb cb, .slice pw lw cw, .slice pt lt ct, .slice ps ls cs, .int .i64 sky, .int .i64 st]] v fun e w' => e = .returned (.bool ee) ∧ Below v.heap.size v w'))
    (S4 : Hid (∀ v, Ab w v → Calls Tryz.prog 15 #[.agg #[.slice pb lb cb, .slice pw lw cw, .slice pt lt ct, .slice ps ls cs, .int .i64 sky, .int .i64 st], .agg #[.slice pb lb cb, .slice pw lw cw, .slice pt lt ct, .slice ps ls cs, .int .i64 sky, .int .i64 st]] v fun e w' => e = .returned (.bool true) ∧ Below v.heap.size v w'))
    (HL : Hid (lb ≤ 131072 ∧ lw ≤ 131072 ∧ lt ≤ 131072 ∧ ls ≤ 131072)) (HL2 : Hid (lb' ≤ 131072 ∧ lw' ≤ 131072 ∧ lt' ≤ 131072 ∧ ls' ≤ 131072)) (SC : Hid SameC) (YC : Hid CopyC) (EE : Hid (eqS lb lw lt ls B W T S sky st lb' lw' lt' ls' B' W' T' S' sky' st' = ee))
    (I1 : Hid (IsFl w pb lb B)) (I2 : Hid (Sh.IsI w pw lw W)) (I3 : Hid (Sh.IsI w pt lt T)) (I4 : Hid (IsFl w ps ls S)) (J1 : Hid (IsFl w pb' lb' B')) (J2 : Hid (Sh.IsI w pw' lw' W')) (J3 : Hid (Sh.IsI w pt' lt' T')) (J4 : Hid (IsFl w ps' ls' S')) :
    Calls Tryz.prog 5 #[.agg #[.slice pb lb cb, .slice pw lw cw, .slice pt lt ct, .slice ps ls cs, .int .i64 sky, .int .i64 st], .agg #[.slice pb' lb' cb', .slice pw' lw' cw', .slice pt' lt' ct', .slice ps' ls' cs', .int .i64 sky', .int .i64 st']] w fun e w' => e = .returned (.bool true) ∧ Below w.heap.size w w' := by
  have n1 : (ee != ee) = false := by simp
  have n2 : (ee == ee) = true := by simp
  have A0 : Hid (Ab w ((w.alloc (.cells #[.slice pb lb cb, .slice pw lw cw, .slice pt lt ct, .slice ps ls cs, .int .i64 sky, .int .i64 st] 33)).alloc (.cells #[.slice pb' lb' cb', .slice pw' lw' cw', .slice pt' lt' ct', .slice ps' ls' cs', .int .i64 sky', .int .i64 st'] 33))) := bl2 _ _ _
  have R0 : Hid (((w.alloc (.cells #[.slice pb lb cb, .slice pw lw cw, .slice pt lt ct, .slice ps ls cs, .int .i64 sky, .int .i64 st] 33)).alloc (.cells #[.slice pb' lb' cb', .slice pw' lw' cw', .slice pt' lt' ct', .slice ps' ls' cs', .int .i64 sky', .int .i64 st'] 33)).heap[w.heap.size]? = some (.cells #[.slice pb lb cb, .slice pw lw cw, .slice pt lt ct, .slice ps ls cs, .int .i64 sky, .int .i64 st] 33)) := heap_alloc2_old _ _ _
  have Q0 : Hid (((w.alloc (.cells #[.slice pb lb cb, .slice pw lw cw, .slice pt lt ct, .slice ps ls cs, .int .i64 sky, .int .i64 st] 33)).alloc (.cells #[.slice pb' lb' cb', .slice pw' lw' cw', .slice pt' lt' ct', .slice ps' ls' cs', .int .i64 sky', .int .i64 st'] 33)).heap[w.heap.size + 1]? = some (.cells #[.slice pb' lb' cb', .slice pw' lw' cw', .slice pt' lt' ct', .slice ps' ls' cs', .int .i64 sky', .int .i64 st'] 33)) := heap_alloc2_new _ _ _
  go_enter Tryz.func5, Tryz.ntmps5
  go_upto_region 1 with fail
  generalize hW : World.alloc (World.alloc w _) _ = V0 at *
  obtain ⟨ga, hga⟩ : ∃ g, w.heap.size = g := ⟨_, rfl⟩
  obtain ⟨gr, hgr⟩ : ∃ g, w.heap.size + 1 = g := ⟨_, rfl⟩
  rw [hgr] at Q0 ⊢
  rw [hga] at R0 ⊢
  clear hga hgr hW
  go_wp2_with fail
  refine (LV.out _ A0.out).mono ?_
  rintro e9 v1 ⟨rfl, b1⟩
  have A1 : Hid (Ab w v1) := A0.out.trans b1
  have R1 := hid (Ab.heap b1 R0.out)
  have Q1 := hid (Ab.heap b1 Q0.out)
  clear b1
  have x0 := cell_of_row _ _ 0 _ _ _ R1.out
  have x1 := cell_of_row _ _ 1 _ _ _ R1.out
  have x2 := cell_of_row _ _ 2 _ _ _ R1.out
  have x3 := cell_of_row _ _ 3 _ _ _ R1.out
  have x4 := cell_of_row _ _ 4 _ _ _ R1.out
  have x5 := cell_of_row _ _ 5 _ _ _ R1.out
  have y0 := cell_of_row _ _ 0 _ _ _ Q1.out
  have y1 := cell_of_row _ _ 1 _ _ _ Q1.out
  have y2 := cell_of_row _ _ 2 _ _ _ Q1.out
  have y3 := cell_of_row _ _ 3 _ _ _ Q1.out
  have y4 := cell_of_row _ _ 4 _ _ _ Q1.out
  have y5 := cell_of_row _ _ 5 _ _ _ Q1.out
  go_wp2_with fail
  refine (WA.out _).mono ?_
  rintro e9 v2 ⟨rfl, b2⟩
  have A2 : Hid (Ab w v2) := A1.out.trans b2
  have R2 := hid (Ab.heap b2 R1.out)
  have Q2 := hid (Ab.heap b2 Q1.out)
  clear x0 y0 x1 y1 x2 y2 x3 y3 x4 y4 x5 y5 b2
  have x0 := cell_of_row _ _ 0 _ _ _ R2.out
  have x1 := cell_of_row _ _ 1 _ _ _ R2.out
  have x2 := cell_of_row _ _ 2 _ _ _ R2.out
  have x3 := cell_of_row _ _ 3 _ _ _ R2.out
  have x4 := cell_of_row _ _ 4 _ _ _ R2.out
  have x5 := cell_of_row _ _ 5 _ _ _ R2.out
  have y0 := cell_of_row _ _ 0 _ _ _ Q2.out
  have y1 := cell_of_row _ _ 1 _ _ _ Q2.out
  have y2 := cell_of_row _ _ 2 _ _ _ Q2.out
  have y3 := cell_of_row _ _ 3 _ _ _ Q2.out
  have y4 := cell_of_row _ _ 4 _ _ _ Q2.out
  have y5 := cell_of_row _ _ 5 _ _ _ Q2.out
  go_wp2_with fail
  refine (WB.out _).mono ?_
  rintro e9 v3 ⟨rfl, b3⟩
  have A3 : Hid (Ab w v3) := A2.out.trans b3
  have R3 := hid (Ab.heap b3 R2.out)
  have Q3 := hid (Ab.heap b3 Q2.out)
  clear x0 y0 x1 y1 x2 y2 x3 y3 x4 y4 x5 y5 b3
  have x0 := cell_of_row _ _ 0 _ _ _ R3.out
  have x1 := cell_of_row _ _ 1 _ _ _ R3.out
  have x2 := cell_of_row _ _ 2 _ _ _ R3.out
  have x3 := cell_of_row _ _ 3 _ _ _ R3.out
  have x4 := cell_of_row _ _ 4 _ _ _ R3.out
  have x5 := cell_of_row _ _ 5 _ _ _ R3.out
  have y0 := cell_of_row _ _ 0 _ _ _ Q3.out
  have y1 := cell_of_row _ _ 1 _ _ _ Q3.out
  have y2 := cell_of_row _ _ 2 _ _ _ Q3.out
  have y3 := cell_of_row _ _ 3 _ _ _ Q3.out
  have y4 := cell_of_row _ _ 4 _ _ _ Q3.out
  have y5 := cell_of_row _ _ 5 _ _ _ Q3.out
  go_wp2_with fail
  refine (S1.out _ A3.out).mono ?_
  rintro e9 v4 ⟨rfl, b4⟩
  have A4 : Hid (Ab w v4) := A3.out.trans b4
  have R4 := hid (Ab.heap b4 R3.out)
  have Q4 := hid (Ab.heap b4 Q3.out)
  clear x0 y0 x1 y1 x2 y2 x3 y3 x4 y4 x5 y5 b4
  have x0 := cell_of_row _ _ 0 _ _ _ R4.out
  have x1 := cell_of_row _ _ 1 _ _ _ R4.out
  have x2 := cell_of_row _ _ 2 _ _ _ R4.out
  have x3 := cell_of_row _ _ 3 _ _ _ R4.out
  have x4 := cell_of_row _ _ 4 _ _ _ R4.out
  have x5 := cell_of_row _ _ 5 _ _ _ R4.out
  have y0 := cell_of_row _ _ 0 _ _ _ Q4.out
  have y1 := cell_of_row _ _ 1 _ _ _ Q4.out
  have y2 := cell_of_row _ _ 2 _ _ _ Q4.out
  have y3 := cell_of_row _ _ 3 _ _ _ Q4.out
  have y4 := cell_of_row _ _ 4 _ _ _ Q4.out
  have y5 := cell_of_row _ _ 5 _ _ _ Q4.out
  go_wp2_with fail
  refine (S2.out _ A4.out).mono ?_
  rintro e9 v5 ⟨rfl, b5⟩
  have A5 : Hid (Ab w v5) := A4.out.trans b5
  have R5 := hid (Ab.heap b5 R4.out)
  have Q5 := hid (Ab.heap b5 Q4.out)
  clear x0 y0 x1 y1 x2 y2 x3 y3 x4 y4 x5 y5 b5
  have x0 := cell_of_row _ _ 0 _ _ _ R5.out
  have x1 := cell_of_row _ _ 1 _ _ _ R5.out
  have x2 := cell_of_row _ _ 2 _ _ _ R5.out
  have x3 := cell_of_row _ _ 3 _ _ _ R5.out
  have x4 := cell_of_row _ _ 4 _ _ _ R5.out
  have x5 := cell_of_row _ _ 5 _ _ _ R5.out
  have y0 := cell_of_row _ _ 0 _ _ _ Q5.out
  have y1 := cell_of_row _ _ 1 _ _ _ Q5.out
  have y2 := cell_of_row _ _ 2 _ _ _ Q5.out
  have y3 := cell_of_row _ _ 3 _ _ _ Q5.out
  have y4 := cell_of_row _ _ 4 _ _ _ Q5.out
  have y5 := cell_of_row _ _ 5 _ _ _ Q5.out
  go_wp2_with fail
  refine (S3.out _ A5.out).mono ?_
  rintro e9 v6 ⟨rfl, b6⟩
  have A6 : Hid (Ab w v6) := A5.out.trans b6
  have R6 := hid (Ab.heap b6 R5.out)
  have Q6 := hid (Ab.heap b6 Q5.out)
  clear x0 y0 x1 y1 x2 y2 x3 y3 x4 y4 x5 y5 b6
  have x0 := cell_of_row _ _ 0 _ _ _ R6.out
  have x1 := cell_of_row _ _ 1 _ _ _ R6.out
  have x2 := cell_of_row _ _ 2 _ _ _ R6.out
  have x3 := cell_of_row _ _ 3 _ _ _ R6.out
  have x4 := cell_of_row _ _ 4 _ _ _ R6.out
  have x5 := cell_of_row _ _ 5 _ _ _ R6.out
  have y0 := cell_of_row _ _ 0 _ _ _ Q6.out
  have y1 := cell_of_row _ _ 1 _ _ _ Q6.out
  have y2 := cell_of_row _ _ 2 _ _ _ Q6.out
  have y3 := cell_of_row _ _ 3 _ _ _ Q6.out
  have y4 := cell_of_row _ _ 4 _ _ _ Q6.out
  have y5 := cell_of_row _ _ 5 _ _ _ Q6.out
  go_wp2_with fail
  refine (S4.out _ A6.out).mono ?_
  rintro e9 v7 ⟨rfl, b7⟩
  have A7 : Hid (Ab w v7) := A6.out.trans b7
  have R7 := hid (Ab.heap b7 R6.out)
  have Q7 := hid (Ab.heap b7 Q6.out)
  clear x0 y0 x1 y1 x2 y2 x3 y3 x4 y4 x5 y5 b7
  have x0 := cell_of_row _ _ 0 _ _ _ R7.out
  have x1 := cell_of_row _ _ 1 _ _ _ R7.out
  have x2 := cell_of_row _ _ 2 _ _ _ R7.out
  have x3 := cell_of_row _ _ 3 _ _ _ R7.out
  have x4 := cell_of_row _ _ 4 _ _ _ R7.out
  have x5 := cell_of_row _ _ 5 _ _ _ R7.out
  have y0 := cell_of_row _ _ 0 _ _ _ Q7.out
  have y1 := cell_of_row _ _ 1 _ _ _ Q7.out
  have y2 := cell_of_row _ _ 2 _ _ _ Q7.out
  have y3 := cell_of_row _ _ 3 _ _ _ Q7.out
  have y4 := cell_of_row _ _ 4 _ _ _ Q7.out
  have y5 := cell_of_row _ _ 5 _ _ _ Q7.out
  go_wp2_with fail
  refine (YC.out pb lb cb B pw lw cw W pt lt ct T ps ls cs S sky st v7 HL.out (I1.out.below A7.out) (I2.out.below A7.out) (I3.out.below A7.out) (I4.out.below A7.out)).mono ?_
  rintro e9 v8 ⟨vv, rfl, b8, os⟩
  obtain ⟨p1, c1, p2, c2, p3, c3, p4, c4, rfl, k8, o8, dj8⟩ := own_k20 os (fun i hi => (I1.out i hi).1) (fun i hi => (I2.out i hi).1) (fun i hi => (I3.out i hi).1) (fun i hi => (I4.out i hi).1)
  have B8 : Hid (Ab v7 (v8.alloc (.cells #[.slice p1 lb c1, .slice p2 lw c2, .slice p3 lt c3, .slice p4 ls c4, .int .i64 sky, .int .i64 st] 33))) := (show Ab v7 v8 from b8).trans (bl1 _ _)
  have Z8 : Hid ((v8.alloc (.cells #[.slice p1 lb c1, .slice p2 lw c2, .slice p3 lt c3, .slice p4 ls c4, .int .i64 sky, .int .i64 st] 33)).heap[v8.heap.size]? = some (.cells #[.slice p1 lb c1, .slice p2 lw c2, .slice p3 lt c3, .slice p4 ls c4, .int .i64 sky, .int .i64 st] 33)) := heap_alloc_new _ _
  have SZ8 : Hid ((v8.alloc (.cells #[.slice p1 lb c1, .slice p2 lw c2, .slice p3 lt c3, .slice p4 ls c4, .int .i64 sky, .int .i64 st] 33)).heap.size = v8.heap.size + 1) := by show (v8.heap.push _).size = _; simp
  have K8 : Hid (IsFl (v8.alloc (.cells #[.slice p1 lb c1, .slice p2 lw c2, .slice p3 lt c3, .slice p4 ls c4, .int .i64 sky, .int .i64 st] 33)) p1 lb B ∧ Sh.IsI (v8.alloc (.cells #[.slice p1 lb c1, .slice p2 lw c2, .slice p3 lt c3, .slice p4 ls c4, .int .i64 sky, .int .i64 st] 33)) p2 lw W ∧ Sh.IsI (v8.alloc (.cells #[.slice p1 lb c1, .slice p2 lw c2, .slice p3 lt c3, .slice p4 ls c4, .int .i64 sky, .int .i64 st] 33)) p3 lt T ∧ IsFl (v8.alloc (.cells #[.slice p1 lb c1, .slice p2 lw c2, .slice p3 lt c3, .slice p4 ls c4, .int .i64 sky, .int .i64 st] 33)) p4 ls S) := ⟨k8.1.below (bl1 _ _), k8.2.1.below (bl1 _ _), k8.2.2.1.below (bl1 _ _), k8.2.2.2.below (bl1 _ _)⟩
  have O8 := hid o8
  have D8 := hid dj8
  have LE8 : Hid (v7.heap.size ≤ v8.heap.size) := Ab.size (show Ab v7 v8 from b8)
  clear b8 os k8 o8 dj8 x0 y0 x1 y1 x2 y2 x3 y3 x4 y4 x5 y5
  go_upto_region 8 with fail
  generalize hW : World.alloc v8 _ = V8 at *
  obtain ⟨gc, hgc⟩ : ∃ g, v8.heap.size = g := ⟨_, rfl⟩
  have G8 := hid hgc
  rw [hgc] at Z8 ⊢
  have U8 : Hid (Ab v8 V8) := by rw [← hW]; exact bl1 _ _
  clear hgc hW
  have A8 : Hid (Ab w V8) := A7.out.trans B8.out
  have R8 := hid (Ab.heap B8.out R7.out)
  have Q8 := hid (Ab.heap B8.out Q7.out)
  have x0 := cell_of_row _ _ 0 _ _ _ R8.out
  have x1 := cell_of_row _ _ 1 _ _ _ R8.out
  have x2 := cell_of_row _ _ 2 _ _ _ R8.out
  have x3 := cell_of_row _ _ 3 _ _ _ R8.out
  have x4 := cell_of_row _ _ 4 _ _ _ R8.out
  have x5 := cell_of_row _ _ 5 _ _ _ R8.out
  have y0 := cell_of_row _ _ 0 _ _ _ Q8.out
  have y1 := cell_of_row _ _ 1 _ _ _ Q8.out
  have y2 := cell_of_row _ _ 2 _ _ _ Q8.out
  have y3 := cell_of_row _ _ 3 _ _ _ Q8.out
  have y4 := cell_of_row _ _ 4 _ _ _ Q8.out
  have y5 := cell_of_row _ _ 5 _ _ _ Q8.out
  go_wp2_with fail
  refine (YC.out pb lb cb B pw lw cw W pt lt ct T ps ls cs S sky st V8 HL.out (I1.out.below A8.out) (I2.out.below A8.out) (I3.out.below A8.out) (I4.out.below A8.out)).mono ?_
  rintro e9 v9 ⟨vv, rfl, b9, os⟩
  obtain ⟨q1, d1, q2, d2, q3, d3, q4, d4, rfl, k9, o9, dj9⟩ := own_k20 os (fun i hi => (I1.out i hi).1) (fun i hi => (I2.out i hi).1) (fun i hi => (I3.out i hi).1) (fun i hi => (I4.out i hi).1)
  have B9 : Hid (Ab V8 (v9.alloc (.cells #[.slice q1 lb d1, .slice q2 lw d2, .slice q3 lt d3, .slice q4 ls d4, .int .i64 sky, .int .i64 st] 33))) := (show Ab V8 v9 from b9).trans (bl1 _ _)
  have Z9 : Hid ((v9.alloc (.cells #[.slice q1 lb d1, .slice q2 lw d2, .slice q3 lt d3, .slice q4 ls d4, .int .i64 sky, .int .i64 st] 33)).heap[v9.heap.size]? = some (.cells #[.slice q1 lb d1, .slice q2 lw d2, .slice q3 lt d3, .slice q4 ls d4, .int .i64 sky, .int .i64 st] 33)) := heap_alloc_new _ _
  have SZ9 : Hid ((v9.alloc (.cells #[.slice q1 lb d1, .slice q2 lw d2, .slice q3 lt d3, .slice q4 ls d4, .int .i64 sky, .int .i64 st] 33)).heap.size = v9.heap.size + 1) := by show (v9.heap.push _).size = _; simp
  have K9 : Hid (IsFl (v9.alloc (.cells #[.slice q1 lb d1, .slice q2 lw d2, .slice q3 lt d3, .slice q4 ls d4, .int .i64 sky, .int .i64 st] 33)) q1 lb B ∧ Sh.IsI (v9.alloc (.cells #[.slice q1 lb d1, .slice q2 lw d2, .slice q3 lt d3, .slice q4 ls d4, .int .i64 sky, .int .i64 st] 33)) q2 lw W ∧ Sh.IsI (v9.alloc (.cells #[.slice q1 lb d1, .slice q2 lw d2, .slice q3 lt d3, .slice q4 ls d4, .int .i64 sky, .int .i64 st] 33)) q3 lt T ∧ IsFl (v9.alloc (.cells #[.slice q1 lb d1, .slice q2 lw d2, .slice q3 lt d3, .slice q4 ls d4, .int .i64 sky, .int .i64 st] 33)) q4 ls S) := ⟨k9.1.below (bl1 _ _), k9.2.1.below (bl1 _ _), k9.2.2.1.below (bl1 _ _), k9.2.2.2.below (bl1 _ _)⟩
  have O9 := hid o9
  have D9 := hid dj9
  have LE9 : Hid (V8.heap.size ≤ v9.heap.size) := Ab.size (show Ab V8 v9 from b9)
  clear b9 os k9 o9 dj9 x0 y0 x1 y1 x2 y2 x3 y3 x4 y4 x5 y5
  go_upto_region 9 with fail
  generalize hW : World.alloc v9 _ = V9 at *
  obtain ⟨gd, hgd⟩ : ∃ g, v9.heap.size = g := ⟨_, rfl⟩
  have G9 := hid hgd
  rw [hgd] at Z9 ⊢
  have U9 : Hid (Ab v9 V9) := by rw [← hW]; exact bl1 _ _
  clear hgd hW
  have A9 : Hid (Ab w V9) := A8.out.trans B9.out
  have R9 := hid (Ab.heap B9.out R8.out)
  have Q9 := hid (Ab.heap B9.out Q8.out)
  have C9 := hid (Ab.heap B9.out Z8.out)
  have K98 : Hid (IsFl V9 p1 lb B ∧ Sh.IsI V9 p2 lw W ∧ Sh.IsI V9 p3 lt T ∧ IsFl V9 p4 ls S) := ⟨K8.out.1.below B9.out, K8.out.2.1.below B9.out, K8.out.2.2.1.below B9.out, K8.out.2.2.2.below B9.out⟩
  have x0 := cell_of_row _ _ 0 _ _ _ R9.out
  have x1 := cell_of_row _ _ 1 _ _ _ R9.out
  have x2 := cell_of_row _ _ 2 _ _ _ R9.out
  have x3 := cell_of_row _ _ 3 _ _ _ R9.out
  have x4 := cell_of_row _ _ 4 _ _ _ R9.out
  have x5 := cell_of_row _ _ 5 _ _ _ R9.out
  have y0 := cell_of_row _ _ 0 _ _ _ Q9.out
  have y1 := cell_of_row _ _ 1 _ _ _ Q9.out
  have y2 := cell_of_row _ _ 2 _ _ _ Q9.out
  have y3 := cell_of_row _ _ 3 _ _ _ Q9.out
  have y4 := cell_of_row _ _ 4 _ _ _ Q9.out
  have y5 := cell_of_row _ _ 5 _ _ _ Q9.out
  have z0 := cell_of_row _ _ 0 _ _ _ C9.out
  have z1 := cell_of_row _ _ 1 _ _ _ C9.out
  have z2 := cell_of_row _ _ 2 _ _ _ C9.out
  have z3 := cell_of_row _ _ 3 _ _ _ C9.out
  have z4 := cell_of_row _ _ 4 _ _ _ C9.out
  have z5 := cell_of_row _ _ 5 _ _ _ C9.out
  have E1 := hid (rsame_at pb lb cb B pw lw cw W pt lt ct T ps ls cs S sky st p1 lb c1 B p2 lw c2 W p3 lt c3 T p4 ls c4 S sky st V9 HL.out HL.out (I1.out.below A9.out) (I2.out.below A9.out) (I3.out.below A9.out) (I4.out.below A9.out) (K98.out.1.below (Ab.refl V9)) (K98.out.2.1.below (Ab.refl V9)) (K98.out.2.2.1.below (Ab.refl V9)) (K98.out.2.2.2.below (Ab.refl V9)))
  rw [eqS_self] at E1
  go_wp2_with fail
  refine E1.out.mono ?_
  rintro e9 v10 ⟨rfl, b10⟩
  have T10 : Hid (Ab V9 v10) := b10
  have A10 : Hid (Ab w v10) := A9.out.trans b10
  have R10 := hid (Ab.heap b10 R9.out)
  have Q10 := hid (Ab.heap b10 Q9.out)
  have C10 := hid (Ab.heap b10 C9.out)
  clear x0 y0 x1 y1 x2 y2 x3 y3 x4 y4 x5 y5 z0 z1 z2 z3 z4 z5 b10 E1
  have x0 := cell_of_row _ _ 0 _ _ _ R10.out
  have x1 := cell_of_row _ _ 1 _ _ _ R10.out
  have x2 := cell_of_row _ _ 2 _ _ _ R10.out
  have x3 := cell_of_row _ _ 3 _ _ _ R10.out
  have x4 := cell_of_row _ _ 4 _ _ _ R10.out
  have x5 := cell_of_row _ _ 5 _ _ _ R10.out
  have y0 := cell_of_row _ _ 0 _ _ _ Q10.out
  have y1 := cell_of_row _ _ 1 _ _ _ Q10.out
  have y2 := cell_of_row _ _ 2 _ _ _ Q10.out
  have y3 := cell_of_row _ _ 3 _ _ _ Q10.out
  have y4 := cell_of_row _ _ 4 _ _ _ Q10.out
  have y5 := cell_of_row _ _ 5 _ _ _ Q10.out
  have z0 := cell_of_row _ _ 0 _ _ _ C10.out
  have z1 := cell_of_row _ _ 1 _ _ _ C10.out
  have z2 := cell_of_row _ _ 2 _ _ _ C10.out
  have z3 := cell_of_row _ _ 3 _ _ _ C10.out
  have z4 := cell_of_row _ _ 4 _ _ _ C10.out
  have z5 := cell_of_row _ _ 5 _ _ _ C10.out
  have E1 := hid (SC.out p1 lb c1 B p2 lw c2 W p3 lt c3 T p4 ls c4 S sky st pb lb cb B pw lw cw W pt lt ct T ps ls cs S sky st v10 HL.out HL.out (K98.out.1.below T10.out) (K98.out.2.1.below T10.out) (K98.out.2.2.1.below T10.out) (K98.out.2.2.2.below T10.out) (I1.out.below A10.out) (I2.out.below A10.out) (I3.out.below A10.out) (I4.out.below A10.out))
  rw [eqS_self] at E1
  go_wp2_with fail
  refine E1.out.mono ?_
  rintro e9 v11 ⟨rfl, b11⟩
  have T11 : Hid (Ab V9 v11) := T10.out.trans b11
  have A11 : Hid (Ab w v11) := A10.out.trans b11
  have R11 := hid (Ab.heap b11 R10.out)
  have Q11 := hid (Ab.heap b11 Q10.out)
  have C11 := hid (Ab.heap b11 C10.out)
  clear x0 y0 x1 y1 x2 y2 x3 y3 x4 y4 x5 y5 z0 z1 z2 z3 z4 z5 b11 E1
  have x0 := cell_of_row _ _ 0 _ _ _ R11.out
  have x1 := cell_of_row _ _ 1 _ _ _ R11.out
  have x2 := cell_of_row _ _ 2 _ _ _ R11.out
  have x3 := cell_of_row _ _ 3 _ _ _ R11.out
  have x4 := cell_of_row _ _ 4 _ _ _ R11.out
  have x5 := cell_of_row _ _ 5 _ _ _ R11.out
  have y0 := cell_of_row _ _ 0 _ _ _ Q11.out
  have y1 := cell_of_row _ _ 1 _ _ _ Q11.out
  have y2 := cell_of_row _ _ 2 _ _ _ Q11.out
  have y3 := cell_of_row _ _ 3 _ _ _ Q11.out
  have y4 := cell_of_row _ _ 4 _ _ _ Q11.out
  have y5 := cell_of_row _ _ 5 _ _ _ Q11.out
  have z0 := cell_of_row _ _ 0 _ _ _ C11.out
  have z1 := cell_of_row _ _ 1 _ _ _ C11.out
  have z2 := cell_of_row _ _ 2 _ _ _ C11.out
  have z3 := cell_of_row _ _ 3 _ _ _ C11.out
  have z4 := cell_of_row _ _ 4 _ _ _ C11.out
  have z5 := cell_of_row _ _ 5 _ _ _ C11.out
  have E1 := hid (SC.out p1 lb c1 B p2 lw c2 W p3 lt c3 T p4 ls c4 S sky st pb' lb' cb' B' pw' lw' cw' W' pt' lt' ct' T' ps' ls' cs' S' sky' st' v11 HL.out HL2.out (K98.out.1.below T11.out) (K98.out.2.1.below T11.out) (K98.out.2.2.1.below T11.out) (K98.out.2.2.2.below T11.out) (J1.out.below A11.out) (J2.out.below A11.out) (J3.out.below A11.out) (J4.out.below A11.out))
  rw [EE.out] at E1
  go_wp2_with fail
  refine E1.out.mono ?_
  rintro e9 v12 ⟨rfl, b12⟩
  have T12 : Hid (Ab V9 v12) := T11.out.trans b12
  have A12 : Hid (Ab w v12) := A11.out.trans b12
  have R12 := hid (Ab.heap b12 R11.out)
  have C12 := hid (Ab.heap b12 C11.out)
  clear x0 y0 x1 y1 x2 y2 x3 y3 x4 y4 x5 y5 z0 z1 z2 z3 z4 z5 b12 E1
  have z0 := cell_of_row _ _ 0 _ _ _ C12.out
  have z1 := cell_of_row _ _ 1 _ _ _ C12.out
  have z2 := cell_of_row _ _ 2 _ _ _ C12.out
  have z3 := cell_of_row _ _ 3 _ _ _ C12.out
  have z4 := cell_of_row _ _ 4 _ _ _ C12.out
  have z5 := cell_of_row _ _ 5 _ _ _ C12.out
  have KK : Hid (K20 v12 v7.heap.size (fun k => v7.heap.size ≤ k ∧ k < v8.heap.size) (((List.range lb).map B).map (Value.float .f64)) (((List.range lw).map W).map (Value.int .i64)) (((List.range lt).map T).map (Value.int .i64)) (((List.range ls).map S).map (Value.float .f64)) (.slice p1 lb c1) (.slice p2 lw c2) (.slice p3 lt c3) (.slice p4 ls c4) v12) := by
    have ab : Ab v8 v12 := U8.out.trans (B9.out.trans T12.out)
    obtain ⟨o1, o2, o3, o4⟩ := O8.out
    exact ⟨Rv.AbQ.refl _ _, o1.to ab, o2.to ab, o3.to ab, o4.to ab, D8.out, fun k hk => .inl (o1.blk hk), fun k hk => .inl (o2.blk hk), fun k hk => .inl (o3.blk hk), fun k hk => .inl (o4.blk hk)⟩
  have SPO := hid (spoil_at p1 lb c1 p2 lw c2 p3 lt c3 p4 ls c4 sky st (((List.range lb).map B).map (Value.float .f64)) (((List.range lw).map W).map (Value.int .i64)) (((List.range lt).map T).map (Value.int .i64)) (((List.range ls).map S).map (Value.float .f64)) v7.heap.size (fun k => v7.heap.size ≤ k ∧ k < v8.heap.size) v12 HL.out (by have h1 := LE8.out; have h2 := Ab.size (U8.out.trans (B9.out.trans T12.out)); omega) (show _ ∧ _ from by simp) ⟨allF_map, allI_map, allI_map, allF_map⟩ KK.out (fun k hk => by have h2 := Ab.size (U8.out.trans (B9.out.trans T12.out)); omega))
  go_wp2_with fail
  refine SPO.out.mono ?_
  rintro e9 v13 ⟨rfl, aq⟩
  have AQ := hid aq
  clear aq SPO KK z0 z1 z2 z3 z4 z5
  have A13 : Hid (Ab w v13) := Rv.AbQ.ab AQ.out A12.out (fun k hk q => by have h := Ab.size A7.out; omega)
  have R13 := hid (Rv.AbQ.heap AQ.out R12.out (fun q => by have h := Rv.lt_of_get R7.out; omega))
  have DD : Hid (v8.heap.size ≤ V8.heap.size) := Ab.size U8.out
  have Z13 := hid (Rv.AbQ.heap AQ.out (Ab.heap T12.out Z9.out) (fun q => by have h1 := G9.out; have h2 := LE9.out; have h3 := DD.out; omega))
  have PN : Hid (∀ k, (v7.heap.size ≤ k ∧ k < v8.heap.size) → k < v8.heap.size) := fun k h => h.2
  have L1 := hid (Rv.AbQ.isFl AQ.out (K9.out.1.below T12.out) (ov_not O9.out.1 PN.out DD.out))
  have L2 := hid (Rv.AbQ.isI AQ.out (K9.out.2.1.below T12.out) (ov_not O9.out.2.1 PN.out DD.out))
  have L3 := hid (Rv.AbQ.isI AQ.out (K9.out.2.2.1.below T12.out) (ov_not O9.out.2.2.1 PN.out DD.out))
  have L4 := hid (Rv.AbQ.isFl AQ.out (K9.out.2.2.2.below T12.out) (ov_not O9.out.2.2.2 PN.out DD.out))
  have E1 := hid (rsame_at pb lb cb B pw lw cw W pt lt ct T ps ls cs S sky st q1 lb d1 B q2 lw d2 W q3 lt d3 T q4 ls d4 S sky st v13 HL.out HL.out (I1.out.below A13.out) (I2.out.below A13.out) (I3.out.below A13.out) (I4.out.below A13.out) L1.out L2.out L3.out L4.out)
  rw [eqS_self] at E1
  have x0 := cell_of_row _ _ 0 _ _ _ R13.out
  have x1 := cell_of_row _ _ 1 _ _ _ R13.out
  have x2 := cell_of_row _ _ 2 _ _ _ R13.out
  have x3 := cell_of_row _ _ 3 _ _ _ R13.out
  have x4 := cell_of_row _ _ 4 _ _ _ R13.out
  have x5 := cell_of_row _ _ 5 _ _ _ R13.out
  have z0 := cell_of_row _ _ 0 _ _ _ Z13.out
  have z1 := cell_of_row _ _ 1 _ _ _ Z13.out
  have z2 := cell_of_row _ _ 2 _ _ _ Z13.out
  have z3 := cell_of_row _ _ 3 _ _ _ Z13.out
  have z4 := cell_of_row _ _ 4 _ _ _ Z13.out
  have z5 := cell_of_row _ _ 5 _ _ _ Z13.out
  go_wp2_with fail
  refine E1.out.mono ?_
  rintro e9 v14 ⟨rfl, b14⟩
  have A14 : Hid (Ab w v14) := A13.out.trans b14
  clear b14 E1
  go_wp2
  go_ret
  exact ⟨rfl, A14.out⟩
/-- SEAS THAT ARE THE SAME ARE THE DOCUMENT'S, A COPY IS NEW -/
theorem ssames_at (PC : PlanC) (CC : CheckC) (SC : SameC) (YC : CopyC) (TC : TurnedC) (LC : LakeC) {pb : Option Addr} {lb cb : Nat} {B : Nat → Nat} {pw : Option Addr} {lw cw : Nat} {W : Nat → Int} {pt : Option Addr} {lt ct : Nat} {T : Nat → Int} {ps : Option Addr} {ls cs : Nat} {S : Nat → Nat} {sky st : Int} {pb' : Option Addr} {lb' cb' : Nat} {B' : Nat → Nat} {pw' : Option Addr} {lw' cw' : Nat} {W' : Nat → Int} {pt' : Option Addr} {lt' ct' : Nat} {T' : Nat → Int} {ps' : Option Addr} {ls' cs' : Nat} {S' : Nat → Nat} {sky' st' : Int} (w : World) (hF : Fr w) (hl : lb ≤ 281474976710656 ∧ lw ≤ 281474976710656 ∧ lt ≤ 281474976710656 ∧ ls ≤ 281474976710656) (hl' : lb' ≤ 281474976710656 ∧ lw' ≤ 281474976710656 ∧ lt' ≤ 281474976710656 ∧ ls' ≤ 281474976710656) (i1 : IsFl w pb lb B) (i2 : Sh.IsI w pw lw W) (i3 : Sh.IsI w pt lt T) (i4 : IsFl w ps ls S) (j1 : IsFl w pb' lb' B') (j2 : Sh.IsI w pw' lw' W') (j3 : Sh.IsI w pt' lt' T') (j4 : IsFl w ps' ls' S') :
    Calls Tryz.prog 5 #[.agg #[.slice pb lb cb, .slice pw lw cw, .slice pt lt ct, .slice ps ls cs, .int .i64 sky, .int .i64 st], .agg #[.slice pb' lb' cb', .slice pw' lw' cw', .slice pt' lt' ct', .slice ps' ls' cs', .int .i64 sky', .int .i64 st']] w fun e w' => e = .returned (.bool true) ∧ Below w.heap.size w w' := by
  have LV : Hid (∀ v, Ab w v → Calls Tryz.prog 9 #[] v fun e w' => e = .returned (.bool true) ∧ Below v.heap.size v w') := fun v a => awake20_at PC CC SC YC TC LC v (hF.to a)
  have WA := fun v => wide20_at pb lb cb pw lw cw pt lt ct ps ls cs sky st v hl
  have WB := fun v => wide20_at pb' lb' cb' pw' lw' cw' pt' lt' ct' ps' ls' cs' sky' st' v hl'
  by_cases h : 131072 < lb + lw + lt + ls
  · rw [decide_eq_true h] at WA
    exact ssames_wa pb lb cb pw lw cw pt lt ct ps ls cs sky st pb' lb' cb' pw' lw' cw' pt' lt' ct' ps' ls' cs' sky' st' w LV WA
  · rw [decide_eq_false h] at WA
    by_cases h' : 131072 < lb' + lw' + lt' + ls'
    · rw [decide_eq_true h'] at WB
      exact ssames_wb pb lb cb pw lw cw pt lt ct ps ls cs sky st pb' lb' cb' pw' lw' cw' pt' lt' ct' ps' ls' cs' sky' st' w LV WA WB
    · rw [decide_eq_false h'] at WB
      have le : (lb ≤ 131072 ∧ lw ≤ 131072 ∧ lt ≤ 131072 ∧ ls ≤ 131072) := by omega
      have le' : (lb' ≤ 131072 ∧ lw' ≤ 131072 ∧ lt' ≤ 131072 ∧ ls' ≤ 131072) := by omega
      refine ssames_go pb lb cb B pw lw cw W pt lt ct T ps ls cs S sky st pb' lb' cb' B' pw' lw' cw' W' pt' lt' ct' T' ps' ls' cs' S' sky' st' _ w LV WA WB (fun v a => ?_) (fun v a => ?_) (fun v a => ?_) (fun v a => ?_) le le' SC YC rfl i1 i2 i3 i4 j1 j2 j3 j4
      · exact SC _ _ _ _ _ _ _ _ _ _ _ _ _ _ _ _ _ _ _ _ _ _ _ _ _ _ _ _ _ _ _ _ _ _ _ _ v le le' (i1.below a) (i2.below a) (i3.below a) (i4.below a) (j1.below a) (j2.below a) (j3.below a) (j4.below a)
      · exact rsame_at _ _ _ _ _ _ _ _ _ _ _ _ _ _ _ _ _ _ _ _ _ _ _ _ _ _ _ _ _ _ _ _ _ _ _ _ v le le' (i1.below a) (i2.below a) (i3.below a) (i4.below a) (j1.below a) (j2.below a) (j3.below a) (j4.below a)
      · have q := SC pb' lb' cb' B' pw' lw' cw' W' pt' lt' ct' T' ps' ls' cs' S' sky' st' pb lb cb B pw lw cw W pt lt ct T ps ls cs S sky st v le' le (j1.below a) (j2.below a) (j3.below a) (j4.below a) (i1.below a) (i2.below a) (i3.below a) (i4.below a)
        rw [eqS_comm] at q
        exact q
      · have q := SC pb lb cb B pw lw cw W pt lt ct T ps ls cs S sky st pb lb cb B pw lw cw W pt lt ct T ps ls cs S sky st v le le (i1.below a) (i2.below a) (i3.below a) (i4.below a) (i1.below a) (i2.below a) (i3.below a) (i4.below a)
        rw [eqS_self] at q
        exact q
end Ss
end Go.Proofs.YtdigecacmibkpaaGreatDoor

namespace Go.Proofs.YtdigecacmibkpaaGreatDoor
open Go.RowKit Tf Cu Go.Deep
attribute [local go_sem] run_bits run_from raw_feq raw_fne raw_flt raw_fgt run_neg run_store_float
namespace Ss
set_option maxRecDepth 100000 in
set_option maxHeartbeats 16000000 in
theorem sameF_at (a b : Nat) (r : Bool) (w : World) (hr : decide (a = b) = r) :
    Calls Tryz.prog 41 #[.float .f64 a, .float .f64 b] w fun e w' => e = .returned (.bool r) ∧ w' = w := by
  by_cases h : a = b
  · have d1 : ((a : Int) == (b : Int)) = true := by simp [h]
    have R : Hid (r = true) := hr.symm.trans (decide_eq_true h)
    clear hr h
    go_enter Tryz.func41, Tryz.ntmps41
    go_wp2
    go_ret
    exact ⟨by rw [R.out]; rfl, rfl⟩
  · have d1 : ((a : Int) == (b : Int)) = false := by simp; omega
    have R : Hid (r = false) := hr.symm.trans (decide_eq_false h)
    clear hr h
    go_enter Tryz.func41, Tryz.ntmps41
    go_wp2
    go_ret
    exact ⟨by rw [R.out]; rfl, rfl⟩
set_option maxRecDepth 100000 in
set_option maxHeartbeats 16000000 in
theorem sameQ_at (a b : Int) (r : Bool) (w : World) (hr : decide (a = b) = r) :
    Calls Tryz.prog 43 #[.int .i64 a, .int .i64 b] w fun e w' => e = .returned (.bool r) ∧ w' = w := by
  by_cases h : a = b
  · have d1 : (a == b) = true := by simp [h]
    have R : Hid (r = true) := hr.symm.trans (decide_eq_true h)
    clear hr h
    go_enter Tryz.func43, Tryz.ntmps43
    go_wp2
    go_ret
    exact ⟨by rw [R.out]; rfl, rfl⟩
  · have d1 : (a == b) = false := by simp; omega
    have R : Hid (r = false) := hr.symm.trans (decide_eq_false h)
    clear hr h
    go_enter Tryz.func43, Tryz.ntmps43
    go_wp2
    go_ret
    exact ⟨by rw [R.out]; rfl, rfl⟩
set_option maxRecDepth 100000 in
set_option maxHeartbeats 16000000 in
theorem within_at (x lo hi : Nat) (r : Bool) (w : World) (hr : ((fgt x lo || feq x lo) && (flt x hi || feq x hi)) = r) :
    Calls Tryz.prog 58 #[.float .f64 x, .float .f64 lo, .float .f64 hi] w fun e w' => e = .returned (.bool r) ∧ w' = w := by
  cases h1 : (fgt x lo || feq x lo) with
  | false =>
    have R : Hid (r = false) := hr.symm.trans (by rw [h1]; rfl)
    clear hr
    go_enter Tryz.func58, Tryz.ntmps58
    go_wp2
    go_ret
    exact ⟨by rw [R.out]; rfl, rfl⟩
  | true =>
    cases h2 : (flt x hi || feq x hi) with
    | false =>
      have R : Hid (r = false) := hr.symm.trans (by rw [h1, h2]; rfl)
      clear hr
      go_enter Tryz.func58, Tryz.ntmps58
      go_wp2
      go_ret
      exact ⟨by rw [R.out]; rfl, rfl⟩
    | true =>
      have R : Hid (r = true) := hr.symm.trans (by rw [h1, h2]; rfl)
      clear hr
      go_enter Tryz.func58, Tryz.ntmps58
      go_wp2
      go_ret
      exact ⟨by rw [R.out]; rfl, rfl⟩
/-- a float above another isn't a NaN; Canon leaves it but for -0 -/
theorem canon_in {x lo : Nat} (hx : x < 18446744073709551616) (hl : lo < 18446744073709551616) (h : (fgt x lo || feq x lo) = true) : decide (x = canonB x) = decide (x ≠ 9223372036854775808) := by
  have n : isN x = false := by
    rw [fgt_rk x lo hx hl, feq_rk x lo hx hl] at h
    cases q : isN x with
    | false => rfl
    | true => rw [q] at h; simp at h
  unfold canonB
  rw [if_neg (by rw [n]; decide)]
  unfold mg
  by_cases z : x % 9223372036854775808 = 0
  · rw [if_pos z]
    by_cases e : x = 9223372036854775808
    · rw [decide_eq_false (by omega), decide_eq_false (fun q => q e)]
    · rw [decide_eq_true (by omega), decide_eq_true e]
  · rw [if_neg z, decide_eq_true rfl, decide_eq_true (by omega)]
set_option maxRecDepth 100000 in
set_option maxHeartbeats 16000000 in
theorem kept_at (x lo hi : Nat) (r : Bool) (w : World) (hx : x < 18446744073709551616) (hl : lo < 18446744073709551616) (hr : btw x lo hi = r) :
    Calls Tryz.prog 75 #[.float .f64 x, .float .f64 lo, .float .f64 hi] w fun e w' => e = .returned (.bool r) ∧ w' = w := by
  unfold btw at hr
  cases h1 : ((fgt x lo || feq x lo) && (flt x hi || feq x hi)) with
  | false =>
    have R : Hid (r = false) := hr.symm.trans (by rw [h1]; rfl)
    have CW := hid (within_at x lo hi false w h1)
    clear hr hx hl h1
    go_enter Tryz.func75, Tryz.ntmps75
    go_wp2_with fail
    refine CW.out.mono ?_
    rintro e9 v9 ⟨rfl, hv9⟩
    have hv8 := hv9.symm
    subst hv8
    go_wp2
    go_ret
    exact ⟨by rw [R.out]; rfl, rfl⟩
  | true =>
    have R : Hid (decide (x ≠ 9223372036854775808) = r) := by
      show _ = _
      rw [← hr, h1]
      rfl
    have CW := hid (within_at x lo hi true w h1)
    have h3 := canon_in hx hl ((Bool.and_eq_true _ _).mp h1).1
    have CC := hid (canon_at x _ w hx rfl)
    have CS := hid (sameF_at x (canonB x) r w (by rw [h3]; exact R.out))
    generalize canonB x = y at *
    clear hr hx hl h1 h3 R
    go_enter Tryz.func75, Tryz.ntmps75
    go_wp2_with fail
    refine CW.out.mono ?_
    rintro e9 v9 ⟨rfl, hv9⟩
    have hv8 := hv9.symm
    subst hv8
    go_wp2_with fail
    refine CC.out.mono ?_
    rintro e9 v9 ⟨rfl, hv9⟩
    have hv8 := hv9.symm
    subst hv8
    go_wp2_with fail
    refine CS.out.mono ?_
    rintro e9 v9 ⟨rfl, hv9⟩
    have hv8 := hv9.symm
    subst hv8
    go_wp2
    go_ret
    exact ⟨rfl, rfl⟩
set_option maxRecDepth 100000 in
set_option maxHeartbeats 16000000 in
theorem beyond_at (p : Option Addr) (N c : Nat) (f : Nat → Nat) (m nm : Nat) (q : Nat → Bool) (w : World) (hm : Op.negFloat .f64 m = nm) (hn : nm < 18446744073709551616) (hN : N ≤ 281474976710656) (hf : IsFl w p N f) (hq : ∀ i, i < N → q i = !btw (f i) nm m) :
    Calls Tryz.prog 36 #[.slice p N c, .float .f64 m] w fun e w' => e = .returned (.int .i64 (fp q N)) ∧ w' = w := by
  have HF := hid hf
  have HN := hid hN
  have HQ := hid hq
  have HNM := hid hn
  clear hf hN hq hn
  go_enter Tryz.func36, Tryz.ntmps36
  go_wp2
  go_loopw [9] (fun iv wr => ∃ k : Nat, k ≤ N ∧ iv = .int .i64 (k : Nat) ∧ (∀ i, i < k → q i = false) ∧ wr = w) (fun iv _ => N - (intOf iv).toNat)
  case atStart => exact ⟨0, by omega, rfl, fun i hi => absurd hi (Nat.not_lt_zero i), rfl⟩
  case round =>
    obtain ⟨k, hk, rfl, g1, hwr⟩ := hrel
    have hwr2 := hwr.symm
    subst hwr2
    have G1 := hid g1
    clear g1
    by_cases hkn : k < N
    · have HK := hid hkn
      have kI : (k : Int) < N := by omega
      have kB : (k : Int) ≤ 281474976710656 := by have := HN.out; omega
      obtain ⟨b0, o0, rfl⟩ := HF.out.some0 (show 0 < N by omega)
      obtain ⟨x, hx⟩ : ∃ x, f k = x := ⟨_, rfl⟩
      have xa := HF.out.at0 hkn
      have xc := xa.2.2
      have xl := (HF.out k hkn).1
      rw [hx] at xc xl
      have qk := HQ.out k hkn
      rw [hx] at qk
      clear hx hkn hk xa
      cases hb : btw x nm m with
      | false =>
        have CB := hid (kept_at x nm m false w xl HNM.out hb)
        have QK : Hid (q k = true) := qk.trans (by rw [hb]; rfl)
        have E : Hid (fp q N = (k : Nat)) := fp_hit G1.out QK.out HK.out
        clear qk hb xl
        go_wp2_with fail
        refine CB.out.mono ?_
        rintro e9 v9 ⟨rfl, hv9⟩
        have hv8 := hv9.symm
        subst hv8
        go_wp2
        go_ret
        exact ⟨by rw [E.out]; rfl, by first | trivial | rfl⟩
      | true =>
        have CB := hid (kept_at x nm m true w xl HNM.out hb)
        have QK : Hid (q k = false) := qk.trans (by rw [hb]; rfl)
        clear qk hb xl
        go_wp2_with fail
        refine CB.out.mono ?_
        rintro e9 v9 ⟨rfl, hv9⟩
        have hv8 := hv9.symm
        subst hv8
        go_wp2
        refine ⟨⟨k + 1, by have := HK.out; omega, by simp, fun i hi => ?_, by first | trivial | rfl⟩, by have := HK.out; simp [intOf]; omega⟩
        by_cases l : i < k
        · exact G1.out i l
        · obtain rfl : i = k := by omega
          exact QK.out
    · have e6 : N = k := by omega
      subst e6
      have E : Hid (fp q N = -1) := fp_none G1.out
      go_wp2
      go_ret
      exact ⟨by rw [E.out]; rfl, by first | trivial | rfl⟩
set_option maxRecDepth 100000 in
set_option maxHeartbeats 16000000 in
theorem much_at (p : Option Addr) (N c : Nat) (f : Nat → Int) (th rm : Int) (w : World) (hN : N ≤ 281474976710656) (hf : Sh.IsI w p N f) (ht : 0 ≤ th ∧ th ≤ 4503599627370496) (hrm : rm = 4503599627370496 - th) :
    Calls Tryz.prog 37 #[.slice p N c, .int .i64 rm] w fun e w' => e = .returned (.int .i64 (fp (bQ f th) N)) ∧ w' = w := by
  have HF := hid hf
  have HN := hid hN
  have HT := hid ht
  have HR := hid hrm
  clear hf hN ht hrm
  go_enter Tryz.func37, Tryz.ntmps37
  go_wp2
  go_loopw [1, 9] (fun sv iv wr => ∃ k : Nat, k ≤ N ∧ iv = .int .i64 (k : Nat) ∧ sv = .int .i64 (4503599627370496 - (th + Sh.sumN f k)) ∧ (0 ≤ th + Sh.sumN f k ∧ th + Sh.sumN f k ≤ 4503599627370496) ∧ (∀ i, i < k → bQ f th i = false) ∧ wr = w) (fun _ iv _ => N - (intOf iv).toNat)
  case atStart => exact ⟨0, by omega, rfl, by show _ = Value.int .i64 (4503599627370496 - (th + 0)); rw [Int.add_zero, HR.out], by show 0 ≤ th + 0 ∧ th + 0 ≤ _; have := HT.out; omega, fun i hi => absurd hi (Nat.not_lt_zero i), rfl⟩
  case round =>
    obtain ⟨k, hk, rfl, rfl, hb, g1, hwr⟩ := hrel
    have hwr2 := hwr.symm
    subst hwr2
    have G1 := hid g1
    clear g1
    obtain ⟨s, hs⟩ : ∃ s, 4503599627370496 - (th + Sh.sumN f k) = s := ⟨_, rfl⟩
    have s1 : 0 ≤ s := by omega
    have s2 : s ≤ 4503599627370496 := by omega
    rw [hs]
    clear hb
    by_cases hkn : k < N
    · have HK := hid hkn
      have kI : (k : Int) < N := by omega
      have kB : (k : Int) ≤ 281474976710656 := by have := HN.out; omega
      obtain ⟨b0, o0, rfl⟩ := HF.out.some0 (show 0 < N by omega)
      obtain ⟨x, hx⟩ : ∃ x, f k = x := ⟨_, rfl⟩
      have xc := (HF.out.at0 hkn).2.2
      rw [hx] at xc
      have QE : Hid (bQ f th k = (decide (x < 0) || decide (s < x))) := by show bQ f th k = _; unfold bQ; rw [hs, hx]
      have M3 : Hid (th + Sh.sumN f (k + 1) = 4503599627370496 - s + x) := by show th + (Sh.sumN f k + f k) = _; rw [hx]; omega
      clear hx hs hkn hk
      by_cases q1 : x < 0
      · have d1 : decide (x < 0) = true := decide_eq_true q1
        have E : Hid (fp (bQ f th) N = (k : Nat)) := fp_hit G1.out (QE.out.trans (by rw [d1]; rfl)) HK.out
        go_wp2
        go_ret
        exact ⟨by rw [E.out]; rfl, by first | trivial | rfl⟩
      · have d1 : decide (x < 0) = false := decide_eq_false q1
        by_cases q2 : s < x
        · have d2 : decide (s < x) = true := decide_eq_true q2
          have E : Hid (fp (bQ f th) N = (k : Nat)) := fp_hit G1.out (QE.out.trans (by rw [d1, d2]; rfl)) HK.out
          go_wp2
          go_ret
          exact ⟨by rw [E.out]; rfl, by first | trivial | rfl⟩
        · have d2 : decide (s < x) = false := decide_eq_false q2
          have QF : Hid (bQ f th k = false) := QE.out.trans (by rw [d1, d2]; rfl)
          have n1 : 0 ≤ s - x := by omega
          have n2 : s - x ≤ 4503599627370496 := by omega
          have N3 : Hid (4503599627370496 - (4503599627370496 - s + x) = s - x) := by show _ = _; omega
          have N4 : Hid (0 ≤ 4503599627370496 - s + x ∧ 4503599627370496 - s + x ≤ 4503599627370496) := by show _ ∧ _; omega
          clear q1 q2
          go_wp2
          refine ⟨⟨k + 1, by have := HK.out; omega, by simp, by rw [M3.out, N3.out], by rw [M3.out]; exact N4.out, fun i hi => ?_, by first | trivial | rfl⟩, by have := HK.out; simp [intOf]; omega⟩
          by_cases l : i < k
          · exact G1.out i l
          · obtain rfl : i = k := by omega
            exact QF.out
    · have e6 : N = k := by omega
      subst e6
      have E : Hid (fp (bQ f th) N = -1) := fp_none G1.out
      go_wp2
      go_ret
      exact ⟨by rw [E.out]; rfl, by first | trivial | rfl⟩
end Ss
end Go.Proofs.YtdigecacmibkpaaGreatDoor

namespace Go.Proofs.YtdigecacmibkpaaGreatDoor
open Go.RowKit Go.Deep
namespace Rn
open Sh
set_option maxRecDepth 100000 in
set_option maxHeartbeats 16000000 in
theorem valid18 (n r1 r2 r3 r4 : Int) (w : World) :
    Calls Tryz.prog 77 #[.int .i64 n, .agg #[.int .i64 r1, .int .i64 r2, .int .i64 r3, .int .i64 r4]] w fun e w' => e = .returned (.bool (vB n (r1, r2, r3, r4))) ∧ Below w.heap.size w w' := by
  have A0 : Hid (Ab w (w.alloc (.cells #[.int .i64 r1, .int .i64 r2, .int .i64 r3, .int .i64 r4] 60))) := bl1 _ _
  have R0 : Hid ((w.alloc (.cells #[.int .i64 r1, .int .i64 r2, .int .i64 r3, .int .i64 r4] 60)).heap[w.heap.size]? = some (.cells #[.int .i64 r1, .int .i64 r2, .int .i64 r3, .int .i64 r4] 60)) := heap_alloc_new _ _
  have VE : Hid (vB n (r1, r2, r3, r4) = (decide (0 ≤ r1) && decide (r1 < n) && decide (-4503599627370496 ≤ r2) && decide (r2 ≤ 4503599627370496) && decide (0 ≤ r3) && decide (r3 ≤ r4))) := rfl
  cases h0 : decide (0 ≤ r1) with
  | false =>
    have KO : Hid (vB n (r1, r2, r3, r4) = false) := VE.out.trans (by rw [h0] <;> rfl)
    clear VE
    go_enter Tryz.func77, Tryz.ntmps77
    go_upto_region 1 with fail
    generalize hW : World.alloc w _ = W0 at *
    obtain ⟨gw, hgw⟩ : ∃ g, w.heap.size = g := ⟨_, rfl⟩
    rw [hgw] at R0 ⊢
    clear hgw hW
    have x0 := cell_of_row _ _ 0 _ _ _ R0.out
    have x1 := cell_of_row _ _ 1 _ _ _ R0.out
    have x2 := cell_of_row _ _ 2 _ _ _ R0.out
    have x3 := cell_of_row _ _ 3 _ _ _ R0.out
    go_wp2
    go_ret
    exact ⟨by rw [KO.out]; rfl, A0.out⟩
  | true =>
    cases h1 : decide (r1 < n) with
    | false =>
      have KO : Hid (vB n (r1, r2, r3, r4) = false) := VE.out.trans (by rw [h0, h1] <;> rfl)
      clear VE
      go_enter Tryz.func77, Tryz.ntmps77
      go_upto_region 1 with fail
      generalize hW : World.alloc w _ = W0 at *
      obtain ⟨gw, hgw⟩ : ∃ g, w.heap.size = g := ⟨_, rfl⟩
      rw [hgw] at R0 ⊢
      clear hgw hW
      have x0 := cell_of_row _ _ 0 _ _ _ R0.out
      have x1 := cell_of_row _ _ 1 _ _ _ R0.out
      have x2 := cell_of_row _ _ 2 _ _ _ R0.out
      have x3 := cell_of_row _ _ 3 _ _ _ R0.out
      go_wp2
      go_ret
      exact ⟨by rw [KO.out]; rfl, A0.out⟩
    | true =>
      cases h2 : decide (-4503599627370496 ≤ r2) with
      | false =>
        have KO : Hid (vB n (r1, r2, r3, r4) = false) := VE.out.trans (by rw [h0, h1, h2] <;> rfl)
        clear VE
        go_enter Tryz.func77, Tryz.ntmps77
        go_upto_region 1 with fail
        generalize hW : World.alloc w _ = W0 at *
        obtain ⟨gw, hgw⟩ : ∃ g, w.heap.size = g := ⟨_, rfl⟩
        rw [hgw] at R0 ⊢
        clear hgw hW
        have x0 := cell_of_row _ _ 0 _ _ _ R0.out
        have x1 := cell_of_row _ _ 1 _ _ _ R0.out
        have x2 := cell_of_row _ _ 2 _ _ _ R0.out
        have x3 := cell_of_row _ _ 3 _ _ _ R0.out
        go_wp2
        go_ret
        exact ⟨by rw [KO.out]; rfl, A0.out⟩
      | true =>
        cases h3 : decide (r2 ≤ 4503599627370496) with
        | false =>
          have KO : Hid (vB n (r1, r2, r3, r4) = false) := VE.out.trans (by rw [h0, h1, h2, h3] <;> rfl)
          clear VE
          go_enter Tryz.func77, Tryz.ntmps77
          go_upto_region 1 with fail
          generalize hW : World.alloc w _ = W0 at *
          obtain ⟨gw, hgw⟩ : ∃ g, w.heap.size = g := ⟨_, rfl⟩
          rw [hgw] at R0 ⊢
          clear hgw hW
          have x0 := cell_of_row _ _ 0 _ _ _ R0.out
          have x1 := cell_of_row _ _ 1 _ _ _ R0.out
          have x2 := cell_of_row _ _ 2 _ _ _ R0.out
          have x3 := cell_of_row _ _ 3 _ _ _ R0.out
          go_wp2
          go_ret
          exact ⟨by rw [KO.out]; rfl, A0.out⟩
        | true =>
          cases h4 : decide (0 ≤ r3) with
          | false =>
            have KO : Hid (vB n (r1, r2, r3, r4) = false) := VE.out.trans (by rw [h0, h1, h2, h3, h4] <;> rfl)
            clear VE
            go_enter Tryz.func77, Tryz.ntmps77
            go_upto_region 1 with fail
            generalize hW : World.alloc w _ = W0 at *
            obtain ⟨gw, hgw⟩ : ∃ g, w.heap.size = g := ⟨_, rfl⟩
            rw [hgw] at R0 ⊢
            clear hgw hW
            have x0 := cell_of_row _ _ 0 _ _ _ R0.out
            have x1 := cell_of_row _ _ 1 _ _ _ R0.out
            have x2 := cell_of_row _ _ 2 _ _ _ R0.out
            have x3 := cell_of_row _ _ 3 _ _ _ R0.out
            go_wp2
            go_ret
            exact ⟨by rw [KO.out]; rfl, A0.out⟩
          | true =>
            cases h5 : decide (r3 ≤ r4) with
            | false =>
              have KO : Hid (vB n (r1, r2, r3, r4) = false) := VE.out.trans (by rw [h0, h1, h2, h3, h4, h5] <;> rfl)
              clear VE
              go_enter Tryz.func77, Tryz.ntmps77
              go_upto_region 1 with fail
              generalize hW : World.alloc w _ = W0 at *
              obtain ⟨gw, hgw⟩ : ∃ g, w.heap.size = g := ⟨_, rfl⟩
              rw [hgw] at R0 ⊢
              clear hgw hW
              have x0 := cell_of_row _ _ 0 _ _ _ R0.out
              have x1 := cell_of_row _ _ 1 _ _ _ R0.out
              have x2 := cell_of_row _ _ 2 _ _ _ R0.out
              have x3 := cell_of_row _ _ 3 _ _ _ R0.out
              go_wp2
              go_ret
              exact ⟨by rw [KO.out]; rfl, A0.out⟩
            | true =>
              have KO : Hid (vB n (r1, r2, r3, r4) = true) := VE.out.trans (by rw [h0, h1, h2, h3, h4, h5] <;> rfl)
              clear VE
              go_enter Tryz.func77, Tryz.ntmps77
              go_upto_region 1 with fail
              generalize hW : World.alloc w _ = W0 at *
              obtain ⟨gw, hgw⟩ : ∃ g, w.heap.size = g := ⟨_, rfl⟩
              rw [hgw] at R0 ⊢
              clear hgw hW
              have x0 := cell_of_row _ _ 0 _ _ _ R0.out
              have x1 := cell_of_row _ _ 1 _ _ _ R0.out
              have x2 := cell_of_row _ _ 2 _ _ _ R0.out
              have x3 := cell_of_row _ _ 3 _ _ _ R0.out
              go_wp2
              go_ret
              exact ⟨by rw [KO.out]; rfl, A0.out⟩
end Rn
end Go.Proofs.YtdigecacmibkpaaGreatDoor
