/-
  Some of the texts of this proof, one behind the other.
-/
import Derived.Deep.QuietTactic
import Derived.Test.YtgalgnjgpmcngaaGreatDoorZ17
namespace Go.Proofs.YtgalgnjgpmcngaaGreatDoor
open Go.RowKit Tf Cu Go.Deep
attribute [local go_sem] run_bits run_from raw_feq raw_fne raw_flt raw_fgt run_neg run_store_float
namespace Fc
theorem ownG_alloc2 {B : Nat} {v : Value} {l : List Nat} {w : World} (h : OwnG B v l w) (O : Obj) : OwnG B v l (w.alloc O) := World.ownsRow.alloc h O
theorem wpList_appG2 {ops : Array Oper} {rest : List Oper} {o : Oper} {a : Act} {w : World} {Q : Exit → Act → World → Prop} (hgd : o.guard = none) (s x : Operand)
    (ho : o.op = .call { callee := .builtin .append, args := #[s, x], argTypes := #[26, 26] })
    (B : Nat) (v : Value) (l : List Nat) (hs : a.eval s = v) (hown : OwnG B v l w)
    (ad : Addr) (m c : Nat) (news : List Nat) (hx : a.eval x = .slice (some ad) m c) (hl : news.length = m) (hnews : ∀ j u, (news.map (Value.float .f64))[j]? = some u → w.cell? (ad.add j) = some u)
    (hm : 0 < m) (hlen : l.length + m ≤ 1048576) (hB : B ≤ w.heap.size) (nm : Nat) (hnm : l.length + m = nm)
    (h : ∀ g cap w', OwnG B (.slice (some ⟨g, 0, none⟩) nm cap) (l ++ news) w' → w.grownBy w' v.ownBlock → (v.ownBlock = some g ∨ g = w.heap.size) → B ≤ g → wpList Tryz.prog ops Q rest (a.put o.dst (.slice (some ⟨g, 0, none⟩) nm cap)) w') : wpList Tryz.prog ops Q (o :: rest) a w := by
  subst hnm
  obtain ⟨i0, hi, hz0, hz1, hz2⟩ := info_g
  refine wpList_append_lies w hgd s x _ ho B 22 i0 (.float .f64 0) 1 8 Tryz.underlying26 hi hz0 hz1 hz2 rfl (by decide) v l.length (l.map (Value.float .f64)) hs hown ad m c (news.map (Value.float .f64)) hx (by simpa using hl) hnews (fun u hu => by
    obtain ⟨y, _, rfl⟩ := List.mem_map.1 hu
    rfl) hm (by unfold maxLen; omega) (by omega) hB _ rfl ?_
  intro g cap w' o1 g1 e1 _
  have hb : B ≤ g := by
    rcases o1.2 with ⟨q, _⟩ | ⟨g2, _, _, q, hb, _⟩
    · cases q
    · injection q with q1 q2 q3
      injection q1 with q4
      injection q4 with q5
      omega
  refine h g cap w' ?_ g1 e1 hb
  unfold OwnG
  rw [List.length_append, List.map_append, hl]
  exact o1
theorem ownG_low {B C : Nat} {v : Value} {l : List Nat} {w : World} (h : OwnG B v l w) (hc : C ≤ B) : OwnG C v l w := by
  refine ⟨h.1, ?_⟩
  rcases h.2 with h0 | ⟨g, cap, cur, e, hb', hg, h1, h2, h3, h4⟩
  · exact .inl h0
  · exact .inr ⟨g, cap, cur, e, Nat.le_trans hc hb', hg, h1, h2, h3, h4⟩
theorem rfits16 {n rb : Nat} (pb pw pt ps : Option Addr) (lb cb lw cw lt ct ls cs : Nat) (sky st : Int) (q : Bool) (w : World) (hn : 1 ≤ n ∧ n ≤ 32) (g : RefOf n rb w) (hq : q = true ↔ fit4 n lb lw lt ls) :
    Calls Tryz.prog 35 #[(.pointer (some ⟨rb, 0, none⟩)), .agg #[.slice pb lb cb, .slice pw lw cw, .slice pt lt ct, .slice ps ls cs, .int .i64 sky, .int .i64 st]] w fun e w' => e = .returned (.bool q) ∧ Below w.heap.size w w' := by
  refine rfits13_at rb pb pw pt ps lb cb lw cw lt ct ls cs sky st (6 * n * n) (12 * n * n) q w ?_ (fun v hv => (rCells_at hn (g.to hv)).mono fun _ _ h => ⟨h.1, by obtain ⟨_, rfl⟩ := h; exact Below.refl _ _⟩) (fun v hv => (rEdges_at (g.to hv)).mono fun _ _ h => ⟨h.1, by obtain ⟨_, rfl⟩ := h; exact Below.refl _ _⟩)
  unfold fit4 at hq
  generalize 6 * n * n = M at *
  generalize 12 * n * n = N at *
  have e : ∀ a b : Nat, (((a : Int) == (b : Int)) = true ↔ a = b) := fun a b => by simp; omega
  have f : ∀ a b : Nat, (((a : Int) == (b : Int)) = false ↔ a ≠ b) := fun a b => by simp; omega
  rw [e, f, e, f, e, f]
  by_cases h1 : lb = M
  · by_cases h2 : lw = M
    · by_cases h3 : lt = M
      · refine .inr (.inr (.inr ⟨h1, h2, h3, ?_⟩))
        by_cases h4 : ls = N
        · rw [hq.2 ⟨h1, h2, h3, h4⟩]; exact (e _ _).2 h4
        · have : q = false := by cases q; · rfl
                                 · exact absurd (hq.1 rfl).2.2.2 h4
          rw [this]; exact (f _ _).2 h4
      · exact .inr (.inr (.inl ⟨h1, h2, h3, by cases q; · rfl
                                               · exact absurd (hq.1 rfl).2.2.1 h3⟩))
    · exact .inr (.inl ⟨h1, h2, by cases q; · rfl
                                   · exact absurd (hq.1 rfl).2.1 h2⟩)
  · exact .inl ⟨h1, by cases q; · rfl
                       · exact absurd (hq.1 rfl).1 h1⟩
theorem redge16 {n rb k : Nat} {v : World} (hn : 1 ≤ n ∧ n ≤ 32) (hk : k < 12 * n * n) (g : RefOf n rb v) : Calls Tryz.prog 37 #[.pointer (some ⟨rb, 0, none⟩), .int .i64 (k : Nat)] v fun e w' => e = .returned (.tuple #[.agg #[.int .i64 (eL n k : Nat), .int .i64 (edT n k % 4 : Nat), .int .i64 (eR n k : Nat), .int .i64 (mt n (edT n k) % 4 : Nat)], .bool true]) ∧ Below v.heap.size v w' := by
  obtain ⟨t1, t2, t3⟩ := edT_spec hn.1 hk
  have e := rEdge_ok hn t1 t2 g
  rw [t3, ← (mt_dec hn.1 t1).1, ← (mt_dec hn.1 t1).2] at e
  exact e
theorem rends16 {n k : Nat} (hn : 1 ≤ n) (hk : k < 12 * n * n) : eL n k < 6 * n * n ∧ eR n k < 6 * n * n := by
  obtain ⟨t1, t2, t3⟩ := edT_spec hn hk
  exact ⟨t_cell t1, t_cell (mt_lt hn t1)⟩
/-- the reference's Open -/
theorem ropen16 {n rb : Nat} {pb pw : Option Addr} {lb lw : Nat} {B : Nat → Nat} {Wt : Nat → Int} (cb cw : Nat) (pt : Option Addr) (lt ct : Nat) (ps : Option Addr) (ls cs : Nat) (sky st e : Int) {w : World} (hn : 1 ≤ n ∧ n ≤ 32) (g : RefOf n rb w) (IB : IsFl w pb lb B) (IW : IsIn w pw lw Wt) :
    (has4 n lb lw lt ls e → Calls Tryz.prog 13 #[.pointer (some ⟨rb, 0, none⟩), .agg #[.slice pb lb cb, .slice pw lw cw, .slice pt lt ct, .slice ps ls cs, .int .i64 sky, .int .i64 st], .int .i64 e] w fun x w' => x = .returned (.bool (opE n B Wt e.toNat)) ∧ Below w.heap.size w w') ∧
    (¬ has4 n lb lw lt ls e → Calls Tryz.prog 13 #[.pointer (some ⟨rb, 0, none⟩), .agg #[.slice pb lb cb, .slice pw lw cw, .slice pt lt ct, .slice ps ls cs, .int .i64 sky, .int .i64 st], .int .i64 e] w fun x w' => x = .returned (.bool false) ∧ Below w.heap.size w w') := by
  constructor
  · rintro ⟨hf, hr⟩
    obtain ⟨k, rfl, hk⟩ := inR_nat hr
    obtain ⟨c1, c2⟩ := rends16 hn.1 hk
    have hf2 := hf
    obtain ⟨f1, f2, f3, f4⟩ := hf2
    obtain ⟨bb, bo, rfl⟩ := IB.some0 (by omega)
    obtain ⟨wb, wo, rfl⟩ := IW.some0 (by omega)
    have h := ropen_go rb bb bo lb cb wb wo lw cw pt lt ct ps ls cs sky st k (eL n k) (eR n k) (edT n k % 4) (mt n (edT n k) % 4) (Wt (eL n k)) (Wt (eR n k)) (B (eL n k)) (B (eR n k)) (lvC n B Wt (eL n k)) (lvC n B Wt (eR n k)) _ _ _ _ w (by omega) (by omega) (by omega) (by omega) rfl rfl rfl rfl
      (fun v hv => rfits16 _ _ pt ps lb cb lw cw lt ct ls cs sky st true v hn (g.to hv) (by simp [hf])) (fun v hv => redge16 hn hk (g.to hv))
      (fun v hv => rlev16 cb cw pt lt ct ps ls cs sky st hn (g.to hv) (IB.below hv) (IW.below hv) f1 f2 c1) (fun v hv => rlev16 cb cw pt lt ct ps ls cs sky st hn (g.to hv) (IB.below hv) (IW.below hv) f1 f2 c2)
      (fun v hv => ((IB.below hv).at0 (by omega)).2.2) (fun v hv => ((IB.below hv).at0 (by omega)).2.2) (fun v hv => ((IW.below hv).at0 (by omega)).2.2) (fun v hv => ((IW.below hv).at0 (by omega)).2.2)
    exact h
  · intro hn4
    by_cases hf : fit4 n lb lw lt ls
    · have hr : inR e (12 * n * n : Nat) = false := by
        cases h : inR e (12 * n * n : Nat)
        · rfl
        · exact absurd ⟨hf, h⟩ hn4
      exact ropen_no rb pb pw pt ps lb cb lw cw lt ct ls cs sky st e true w (fun v hv => rfits16 pb pw pt ps lb cb lw cw lt ct ls cs sky st true v hn (g.to hv) (by simp [hf])) (fun _ v hv => rEdge_no hr (g.to hv))
    · exact ropen_no rb pb pw pt ps lb cb lw cw lt ct ls cs sky st e false w (fun v hv => rfits16 pb pw pt ps lb cb lw cw lt ct ls cs sky st false v hn (g.to hv) (by simp [hf])) (fun h => by cases h)
theorem rdp_lt {w a : Int} (w2 : w ≤ 9223372036854775807) (a2 : a ≤ 9223372036854775807) : dpB w a < 18446744073709551616 := by
  by_cases h : w < 1 ∨ a < 1
  · have e : dpB w a = 0 := by unfold dpB; rw [if_pos h]
    rw [e]; decide
  · have := (dp_in (w := w) (a := a) (by omega) (by omega) w2 a2).2
    omega
/-- the reference's Speed -/
theorem rspeed16 {n rb : Nat} (sd : Int) (dt gr dr : Nat) (lim : Int) (rv : Bool) (pr : Option Addr) (lr cr : Nat) {pb pw : Option Addr} {lb lw : Nat} {B : Nat → Nat} {Wt : Nat → Int} (cb cw : Nat) (pt : Option Addr) (lt ct : Nat) {ps : Option Addr} {ls : Nat} {Sp : Nat → Nat} (cs : Nat) (sky st e : Int) {w : World} (hn : 1 ≤ n ∧ n ≤ 32) (g : RefOf n rb w) (IB : IsFl w pb lb B) (IW : IsIn w pw lw Wt) (IS : IsFl w ps ls Sp) (hp : dt < 18446744073709551616 ∧ gr < 18446744073709551616 ∧ dr < 18446744073709551616) :
    (has4 n lb lw lt ls e → Calls Tryz.prog 14 #[.pointer (some ⟨rb, 0, none⟩), .agg #[.int .i64 sd, .float .f64 dt, .float .f64 gr, .float .f64 dr, .int .i64 lim, .bool rv, .slice pr lr cr], .agg #[.slice pb lb cb, .slice pw lw cw, .slice pt lt ct, .slice ps ls cs, .int .i64 sky, .int .i64 st], .int .i64 e] w fun x w' => x = .returned (.float .f64 (spE n gr dt dr B Wt Sp e.toNat)) ∧ Below w.heap.size w w') ∧
    (¬ has4 n lb lw lt ls e → Calls Tryz.prog 14 #[.pointer (some ⟨rb, 0, none⟩), .agg #[.int .i64 sd, .float .f64 dt, .float .f64 gr, .float .f64 dr, .int .i64 lim, .bool rv, .slice pr lr cr], .agg #[.slice pb lb cb, .slice pw lw cw, .slice pt lt ct, .slice ps ls cs, .int .i64 sky, .int .i64 st], .int .i64 e] w fun x w' => x = .returned (.float .f64 0) ∧ Below w.heap.size w w') := by
  constructor
  · intro h4
    have h44 := h4
    obtain ⟨hf, hr⟩ := h4
    obtain ⟨k, rfl, hk⟩ := inR_nat hr
    obtain ⟨c1, c2⟩ := rends16 hn.1 hk
    have hf2 := hf
    obtain ⟨f1, f2, f3, f4⟩ := hf2
    have OP : ∀ v, Ab w v → Calls Tryz.prog 13 #[.pointer (some ⟨rb, 0, none⟩), .agg #[.slice pb lb cb, .slice pw lw cw, .slice pt lt ct, .slice ps ls cs, .int .i64 sky, .int .i64 st], .int .i64 (k : Nat)] v fun x w' => x = .returned (.bool (opE n B Wt k)) ∧ Below v.heap.size v w' := fun v hv => (ropen16 cb cw pt lt ct ps ls cs sky st (k : Int) hn (g.to hv) (IB.below hv) (IW.below hv)).1 h44
    have hB : ∀ c, c < 6 * n * n → B c < 18446744073709551616 := fun c hc => (IB c (by omega)).1
    have hW : ∀ c, c < 6 * n * n → Wt c ≤ 9223372036854775807 := fun c hc => (IW c (by omega)).1.2
    show Calls _ _ _ _ fun x w' => x = .returned (.float .f64 (spE n gr dt dr B Wt Sp k)) ∧ Below w.heap.size w w'
    unfold spE
    by_cases o : opE n B Wt k = true
    · rw [if_pos o]
      rw [o] at OP
      obtain ⟨t1, t2, t3⟩ := edT_spec hn.1 hk
      obtain ⟨sb, so, rfl⟩ := IS.some0 (by omega)
      exact rspeed_go n rb sd dt gr dr lim rv pr lr cr pb pw pt sb so lb cb lw cw lt ct ls cs sky st k (eL n k) (eR n k) (edT n k % 4) (mt n (edT n k) % 4) (Sp k) (lvC n B Wt (eL n k)) (lvC n B Wt (eR n k)) (dpC n Wt (eL n k)) (dpC n Wt (eR n k)) (gpE n k) w hp.1 hp.2.1 hp.2.2 (IS.at0 (by omega)).1 (lvl_lt (hB _ c1) (hW _ c1) (arC_in n _).2) (lvl_lt (hB _ c2) (hW _ c2) (arC_in n _).2) (rdp_lt (hW _ c1) (arC_in n _).2) (rdp_lt (hW _ c2) (arC_in n _).2)
        (by have h := (GpC_le hn (t_cell t1) (s := edT n k % 4) (by omega)).2; unfold gpE; omega) (by omega) g OP (fun v gv => redge16 hn hk gv) (fun v gv => by have h := rGap_ok hn t1 t2 gv; rw [t3] at h; exact h)
        (fun v hv => rlev16 cb cw pt lt ct _ ls cs sky st hn (g.to hv) (IB.below hv) (IW.below hv) f1 f2 c1) (fun v hv => rlev16 cb cw pt lt ct _ ls cs sky st hn (g.to hv) (IB.below hv) (IW.below hv) f1 f2 c2)
        (fun v hv => rdep16 cb cw pt lt ct _ ls cs sky st hn (g.to hv) (IB.below hv) (IW.below hv) f1 f2 c1) (fun v hv => rdep16 cb cw pt lt ct _ ls cs sky st hn (g.to hv) (IB.below hv) (IW.below hv) f1 f2 c2)
        (fun v hv => ((IS.below hv).at0 (by omega)).2.2)
    · rw [if_neg o]
      have o2 : opE n B Wt k = false := by simpa using o
      rw [o2] at OP
      exact rspeed_no (some ⟨rb, 0, none⟩) sd dt gr dr lim rv pr lr cr pb pw pt ps lb cb lw cw lt ct ls cs sky st (k : Int) w OP
  · intro h4
    exact rspeed_no (some ⟨rb, 0, none⟩) sd dt gr dr lim rv pr lr cr pb pw pt ps lb cb lw cw lt ct ls cs sky st e w (fun v hv => (ropen16 cb cw pt lt ct ps ls cs sky st e hn (g.to hv) (IB.below hv) (IW.below hv)).2 h4)
set_option maxRecDepth 100000 in
set_option maxHeartbeats 4000000 in
theorem rspeeds_no (rb : Nat) (sd : Int) (dt gr dr : Nat) (lim : Int) (rv : Bool) (pr : Option Addr) (lr cr : Nat) (pb : Option Addr) (lb cb : Nat) (pw : Option Addr) (lw cw : Nat) (pt : Option Addr) (lt ct : Nat) (ps : Option Addr) (ls cs : Nat) (sky st : Int) (w : World)
    (FT : Hid (∀ v, Ab w v → Calls Tryz.prog 35 #[.pointer (some ⟨rb, 0, none⟩), .agg #[.slice pb lb cb, .slice pw lw cw, .slice pt lt ct, .slice ps ls cs, .int .i64 sky, .int .i64 st]] v fun x w' => x = .returned (.bool false) ∧ Below v.heap.size v w')) :
    Calls Tryz.prog 11 #[.pointer (some ⟨rb, 0, none⟩), .agg #[.int .i64 sd, .float .f64 dt, .float .f64 gr, .float .f64 dr, .int .i64 lim, .bool rv, .slice pr lr cr], .agg #[.slice pb lb cb, .slice pw lw cw, .slice pt lt ct, .slice ps ls cs, .int .i64 sky, .int .i64 st]] w fun x w' => x = .returned (.tuple #[.slice none 0 0, .int .i64 1]) ∧ Below w.heap.size w w' := by
  have A0 : Hid (Ab w ((w.alloc (.cells #[.int .i64 sd, .float .f64 dt, .float .f64 gr, .float .f64 dr, .int .i64 lim, .bool rv, .slice pr lr cr] 25)).alloc (.cells #[.slice pb lb cb, .slice pw lw cw, .slice pt lt ct, .slice ps ls cs, .int .i64 sky, .int .i64 st] 29))) := bl2 _ _ _
  have S0 : Hid (((w.alloc (.cells #[.int .i64 sd, .float .f64 dt, .float .f64 gr, .float .f64 dr, .int .i64 lim, .bool rv, .slice pr lr cr] 25)).alloc (.cells #[.slice pb lb cb, .slice pw lw cw, .slice pt lt ct, .slice ps ls cs, .int .i64 sky, .int .i64 st] 29)).heap[w.heap.size + 1]? = some (.cells #[.slice pb lb cb, .slice pw lw cw, .slice pt lt ct, .slice ps ls cs, .int .i64 sky, .int .i64 st] 29)) := heap_alloc2_new _ _ _
  have c0 := cell_of_row _ _ 0 _ _ _ S0.out
  have c1 := cell_of_row _ _ 1 _ _ _ S0.out
  have c2 := cell_of_row _ _ 2 _ _ _ S0.out
  have c3 := cell_of_row _ _ 3 _ _ _ S0.out
  have c4 := cell_of_row _ _ 4 _ _ _ S0.out
  have c5 := cell_of_row _ _ 5 _ _ _ S0.out
  go_enter Tryz.func11, Tryz.ntmps11
  go_wp2_with fail
  refine (FT.out _ A0.out).mono ?_
  rintro e9 v1 ⟨rfl, k1⟩
  have W1 : Hid (Ab w v1) := A0.out.call k1
  clear k1
  go_wp2
  go_ret2
  exact ⟨rfl, W1.out⟩
set_option maxRecDepth 100000 in
set_option maxHeartbeats 16000000 in
theorem rspeeds_go (n rb N : Nat) (sd : Int) (dt gr dr : Nat) (lim : Int) (rv : Bool) (pr : Option Addr) (lr cr : Nat) (pb : Option Addr) (lb cb : Nat) (pw : Option Addr) (lw cw : Nat) (pt : Option Addr) (lt ct : Nat) (ps : Option Addr) (ls cs : Nat) (sky st : Int) (X : Nat → Nat) (w : World) (hN : N ≤ 65536) (G0 : Hid (RefOf n rb w))
    (FT : Hid (∀ v, Ab w v → Calls Tryz.prog 35 #[.pointer (some ⟨rb, 0, none⟩), .agg #[.slice pb lb cb, .slice pw lw cw, .slice pt lt ct, .slice ps ls cs, .int .i64 sky, .int .i64 st]] v fun x w' => x = .returned (.bool true) ∧ Below v.heap.size v w'))
    (ED : Hid (∀ v, RefOf n rb v → Calls Tryz.prog 36 #[.pointer (some ⟨rb, 0, none⟩)] v fun x w' => x = .returned (.int .i64 (N : Nat)) ∧ w' = v))
    (SP : Hid (∀ v, Ab w v → ∀ k : Nat, k < N → Calls Tryz.prog 14 #[.pointer (some ⟨rb, 0, none⟩), .agg #[.int .i64 sd, .float .f64 dt, .float .f64 gr, .float .f64 dr, .int .i64 lim, .bool rv, .slice pr lr cr], .agg #[.slice pb lb cb, .slice pw lw cw, .slice pt lt ct, .slice ps ls cs, .int .i64 sky, .int .i64 st], .int .i64 (k : Nat)] v fun x w' => x = .returned (.float .f64 (X k)) ∧ Below v.heap.size v w')) :
    Calls Tryz.prog 11 #[.pointer (some ⟨rb, 0, none⟩), .agg #[.int .i64 sd, .float .f64 dt, .float .f64 gr, .float .f64 dr, .int .i64 lim, .bool rv, .slice pr lr cr], .agg #[.slice pb lb cb, .slice pw lw cw, .slice pt lt ct, .slice ps ls cs, .int .i64 sky, .int .i64 st]] w fun x w' => ∃ u, x = .returned (.tuple #[u, .int .i64 0]) ∧ Below w.heap.size w w' ∧ OwnG w.heap.size u ((List.range N).map X) w' := by
  have A0 : Hid (Ab w ((w.alloc (.cells #[.int .i64 sd, .float .f64 dt, .float .f64 gr, .float .f64 dr, .int .i64 lim, .bool rv, .slice pr lr cr] 25)).alloc (.cells #[.slice pb lb cb, .slice pw lw cw, .slice pt lt ct, .slice ps ls cs, .int .i64 sky, .int .i64 st] 29))) := bl2 _ _ _
  have P0 : Hid (((w.alloc (.cells #[.int .i64 sd, .float .f64 dt, .float .f64 gr, .float .f64 dr, .int .i64 lim, .bool rv, .slice pr lr cr] 25)).alloc (.cells #[.slice pb lb cb, .slice pw lw cw, .slice pt lt ct, .slice ps ls cs, .int .i64 sky, .int .i64 st] 29)).heap[w.heap.size]? = some (.cells #[.int .i64 sd, .float .f64 dt, .float .f64 gr, .float .f64 dr, .int .i64 lim, .bool rv, .slice pr lr cr] 25)) := heap_alloc2_old _ _ _
  have S0 : Hid (((w.alloc (.cells #[.int .i64 sd, .float .f64 dt, .float .f64 gr, .float .f64 dr, .int .i64 lim, .bool rv, .slice pr lr cr] 25)).alloc (.cells #[.slice pb lb cb, .slice pw lw cw, .slice pt lt ct, .slice ps ls cs, .int .i64 sky, .int .i64 st] 29)).heap[w.heap.size + 1]? = some (.cells #[.slice pb lb cb, .slice pw lw cw, .slice pt lt ct, .slice ps ls cs, .int .i64 sky, .int .i64 st] 29)) := heap_alloc2_new _ _ _
  go_enter Tryz.func11, Tryz.ntmps11
  go_upto_region 1 with fail
  obtain ⟨gp, hgp⟩ : ∃ g, w.heap.size = g := ⟨_, rfl⟩
  obtain ⟨gs, hgs⟩ : ∃ g, w.heap.size + 1 = g := ⟨_, rfl⟩
  generalize hW : World.alloc (World.alloc w _) _ = W at *
  rw [hgs] at S0 ⊢
  rw [hgp] at P0 ⊢
  have NB := hid hN
  clear hgp hgs hW hN
  have c0 := cell_of_row _ _ 0 _ _ _ S0.out
  have c1 := cell_of_row _ _ 1 _ _ _ S0.out
  have c2 := cell_of_row _ _ 2 _ _ _ S0.out
  have c3 := cell_of_row _ _ 3 _ _ _ S0.out
  have c4 := cell_of_row _ _ 4 _ _ _ S0.out
  have c5 := cell_of_row _ _ 5 _ _ _ S0.out
  go_wp2_with fail
  refine (FT.out _ A0.out).mono ?_
  rintro e9 v1 ⟨rfl, k1⟩
  have W1 : Hid (Ab w v1) := A0.out.call k1
  have S1 := hid (Ab.heap k1 S0.out)
  have P1 := hid (Ab.heap k1 P0.out)
  clear k1 c0 c1 c2 c3 c4 c5 A0 S0 P0 FT
  go_upto_region 6 with fail
  go_wp2_with fail
  go_loopw [8, 9] (fun av iv wr => ∃ k : Nat, k ≤ N ∧ iv = .int .i64 (k : Nat) ∧ OwnG v1.heap.size av ((List.range k).map X) wr ∧ Ab v1 wr) (fun _ iv _ => N - (intOf iv).toNat)
  case atStart => exact ⟨0, by omega, rfl, ⟨by simp, .inl ⟨rfl, rfl⟩⟩, Ab.refl _⟩
  case round =>
    obtain ⟨k, hk, rfl, ow, aw⟩ := hrel
    have OX := hid ow
    have AV := hid aw
    have AW : Hid (Ab w wr) := W1.out.trans aw
    have SW := hid (Ab.heap aw S1.out)
    have PW := hid (Ab.heap aw P1.out)
    clear ow aw
    go_wp2_with fail
    refine (ED.out _ (G0.out.to AW.out)).mono ?_
    rintro e9 v2 ⟨rfl, hv⟩
    have hv2 := hv.symm
    subst hv2
    by_cases hkn : k < N
    · have HK := hid hkn
      have kI : (k : Int) < N := by omega
      have kB : (k : Int) ≤ 65536 := by have := NB.out; omega
      have CS := hid (SP.out wr AW.out k hkn)
      clear hkn hk
      have c0 := cell_of_row _ _ 0 _ _ _ SW.out
      have c1 := cell_of_row _ _ 1 _ _ _ SW.out
      have c2 := cell_of_row _ _ 2 _ _ _ SW.out
      have c3 := cell_of_row _ _ 3 _ _ _ SW.out
      have c4 := cell_of_row _ _ 4 _ _ _ SW.out
      have c5 := cell_of_row _ _ 5 _ _ _ SW.out
      have p0 := cell_of_row _ _ 0 _ _ _ PW.out
      have p1 := cell_of_row _ _ 1 _ _ _ PW.out
      have p2 := cell_of_row _ _ 2 _ _ _ PW.out
      have p3 := cell_of_row _ _ 3 _ _ _ PW.out
      have p4 := cell_of_row _ _ 4 _ _ _ PW.out
      have p5 := cell_of_row _ _ 5 _ _ _ PW.out
      have p6 := cell_of_row _ _ 6 _ _ _ PW.out
      obtain ⟨x, hx⟩ : ∃ x, X k = x := ⟨_, rfl⟩
      rw [hx] at CS
      have HX := hid hx
      clear hx
      go_wp2_with fail
      refine CS.out.mono ?_
      rintro e9 v3 ⟨rfl, k3⟩
      have A3 : Hid (Ab v1 v3) := AV.out.call k3
      have O3 := hid (OX.out.to k3)
      clear k3 c0 c1 c2 c3 c4 c5 p0 p1 p2 p3 p4 p5 p6 OX CS
      have N1 : Hid (∀ j u, (([x] : List Nat).map (Value.float .f64))[j]? = some u → (v3.alloc (.cells #[.float .f64 x] 22)).cell? ((⟨v3.heap.size, 0, none⟩ : Addr).add j) = some u) := World.news_of_block (cs := #[.float .f64 x]) (t := 22) (fr := (0, 0)) (heap_alloc_new v3 _)
      have O4 := hid (ownG_alloc2 O3.out (.cells #[.float .f64 x] 22))
      have LS : Hid (v1.heap.size ≤ (v3.alloc (.cells #[.float .f64 x] 22)).heap.size) := by
        have h1 := Ab.size A3.out
        have h3 : (v3.alloc (.cells #[.float .f64 x] 22)).heap.size = v3.heap.size + 1 := by
          show (v3.heap.push _).size = _
          simp
        show _ ≤ _
        omega
      have LL : Hid (((List.range k).map X).length = k) := by show _ = _; simp
      go_wp2_with (first
        | (at_builtin; refine wpList_appG2 rfl (.tmp 22) (.tmp 28) rfl v1.heap.size _ ((List.range k).map X) rfl O4.out ⟨v3.heap.size, 0, none⟩ 1 1 [x] rfl rfl N1.out (by decide) (by have := LL.out; have := HK.out; have := NB.out; omega) LS.out (((List.range k).map X).length + 1) rfl ?_; intro g1 c1 w1 o1 x1 y1 _; have O1 := hid o1; have X1 := hid x1; have Z1 := hid y1; clear o1 x1 y1))
      have PS := hid (OwnG.pushed O3.out A3.out (by have h := O1.out; unfold OwnG at h; rw [List.length_append, List.map_append] at h; exact h) X1.out)
      refine ⟨⟨k + 1, by have := HK.out; omega, by simp, ?_, PS.out.2⟩, by have := HK.out; simp [intOf]; omega⟩
      have e : (List.range (k + 1)).map X = (List.range k).map X ++ [x] := by rw [List.range_succ, List.map_append, List.map_singleton, HX.out]
      rw [e]
      have h := PS.out.1
      rw [LL.out] at h
      exact h
    · have hkl : N = k := by omega
      subst hkl
      go_wp2
      go_ret2
      exact ⟨_, rfl, AW.out, ownG_low OX.out (Ab.size W1.out)⟩
/-- the reference's Speeds -/
theorem rspeeds16 {n rb : Nat} (sd : Int) (dt gr dr : Nat) (lim : Int) (rv : Bool) (pr : Option Addr) (lr cr : Nat) {pb pw : Option Addr} {lb lw : Nat} {B : Nat → Nat} {Wt : Nat → Int} (cb cw : Nat) (pt : Option Addr) (lt ct : Nat) {ps : Option Addr} {ls : Nat} {Sp : Nat → Nat} (cs : Nat) (sky st : Int) {w : World} (hn : 1 ≤ n ∧ n ≤ 32) (g : RefOf n rb w) (IB : IsFl w pb lb B) (IW : IsIn w pw lw Wt) (IS : IsFl w ps ls Sp) (hp : dt < 18446744073709551616 ∧ gr < 18446744073709551616 ∧ dr < 18446744073709551616) :
    (fit4 n lb lw lt ls → Calls Tryz.prog 11 #[.pointer (some ⟨rb, 0, none⟩), .agg #[.int .i64 sd, .float .f64 dt, .float .f64 gr, .float .f64 dr, .int .i64 lim, .bool rv, .slice pr lr cr], .agg #[.slice pb lb cb, .slice pw lw cw, .slice pt lt ct, .slice ps ls cs, .int .i64 sky, .int .i64 st]] w fun e w' => ∃ u, e = .returned (.tuple #[u, .int .i64 0]) ∧ Below w.heap.size w w' ∧ OwnG w.heap.size u ((List.range (12 * n * n)).map (spE n gr dt dr B Wt Sp)) w') ∧
    (¬ fit4 n lb lw lt ls → Calls Tryz.prog 11 #[.pointer (some ⟨rb, 0, none⟩), .agg #[.int .i64 sd, .float .f64 dt, .float .f64 gr, .float .f64 dr, .int .i64 lim, .bool rv, .slice pr lr cr], .agg #[.slice pb lb cb, .slice pw lw cw, .slice pt lt ct, .slice ps ls cs, .int .i64 sky, .int .i64 st]] w fun e w' => e = .returned (.tuple #[.slice none 0 0, .int .i64 1]) ∧ Below w.heap.size w w') := by
  constructor
  · intro hf
    have h12 := (n12 hn).1
    exact rspeeds_go n rb (12 * n * n) sd dt gr dr lim rv pr lr cr pb lb cb pw lw cw pt lt ct ps ls cs sky st (spE n gr dt dr B Wt Sp) w (by omega) g (fun v hv => rfits16 pb pw pt ps lb cb lw cw lt ct ls cs sky st true v hn (g.to hv) (by simp [hf])) (fun v gv => rEdges_at gv)
      (fun v hv k hk => (rspeed16 sd dt gr dr lim rv pr lr cr cb cw pt lt ct cs sky st (k : Int) hn (g.to hv) (IB.below hv) (IW.below hv) (IS.below hv) hp).1 ⟨hf, inR_true hk⟩)
  · intro hf
    exact rspeeds_no rb sd dt gr dr lim rv pr lr cr pb lb cb pw lw cw pt lt ct ps ls cs sky st w (fun v hv => rfits16 pb pw pt ps lb cb lw cw lt ct ls cs sky st false v hn (g.to hv) (by simp [hf]))
end Fc
end Go.Proofs.YtgalgnjgpmcngaaGreatDoor

namespace Go.Proofs.YtgalgnjgpmcngaaGreatDoor
open Go.RowKit Tf Cu Go.Deep
attribute [local go_sem] run_bits run_from raw_feq raw_fne raw_flt raw_fgt run_neg run_store_float
namespace Fc
set_option maxRecDepth 100000 in
set_option maxHeartbeats 64000000 in
theorem lake16_at {gb : Nat} (w : World) (g : GridOf 1 gb w) :
    Calls Tryz.prog 15 #[.pointer (some ⟨gb, 0, none⟩)] w fun e w' => ∃ b1 b2 b3 b4, e = .returned (.agg #[.slice (some ⟨b1, 0, none⟩) 6 6, .slice (some ⟨b2, 0, none⟩) 6 6, .slice (some ⟨b3, 0, none⟩) 6 6, .slice (some ⟨b4, 0, none⟩) 12 12, .int .i64 0, .int .i64 0]) ∧ Below w.heap.size w w' ∧ w'.rowIs b1 22 6 (fun _ => .float .f64 0) ∧ w'.rowIs b2 2 6 (fun i => .int .i64 (lkW i)) ∧ w'.rowIs b3 2 6 (fun _ => .int .i64 0) ∧ w'.rowIs b4 22 12 (fun _ => .float .f64 0) ∧ ((w.heap.size ≤ b1 ∧ w.heap.size ≤ b2 ∧ w.heap.size ≤ b3 ∧ w.heap.size ≤ b4) ∧ b1 ≠ b2 ∧ b1 ≠ b4 ∧ b2 ≠ b4 ∧ b3 ≠ b4 ∧ b3 ≠ b2) := by
  have CC : Hid (∀ v, Ab w v → Calls Tryz.prog 43 #[.pointer (some ⟨gb, 0, none⟩)] v fun e w' => e = .returned (.int .i64 6) ∧ w' = v) := fun v hv => gCells_at (g.to hv)
  have CE : Hid (∀ v, Ab w v → Calls Tryz.prog 17 #[.pointer (some ⟨gb, 0, none⟩)] v fun e w' => e = .returned (.int .i64 12) ∧ w' = v) := fun v hv => gEdges_at (g.to hv)
  have M1 : ∀ v : World, (Instr.makeSlice 26 (.int .i64 6) (.int .i64 6)).run Tryz.prog v = .ok (.slice (some ⟨v.heap.size, 0, none⟩) 6 6) (v.alloc (Obj.cells (madeCells #[.float .f64 0] 6) 22)) := fun v => by
    exact run_make_row' (P := Tryz.prog) 26 22 (.float .f64 0) 8 Tryz.underlying26 infoF64 rfl .i64 .i64 6 (by omega) (by omega) v
  have M2 : ∀ v : World, (Instr.makeSlice 27 (.int .i64 6) (.int .i64 6)).run Tryz.prog v = .ok (.slice (some ⟨v.heap.size, 0, none⟩) 6 6) (v.alloc (Obj.cells (madeCells #[.int .i64 0] 6) 2)) := fun v => by
    exact run_make_row' (P := Tryz.prog) 27 2 (.int .i64 0) 8 Tryz.underlying27 info64 rfl .i64 .i64 6 (by omega) (by omega) v
  have M3 : ∀ v : World, (Instr.makeSlice 26 (.int .i64 12) (.int .i64 12)).run Tryz.prog v = .ok (.slice (some ⟨v.heap.size, 0, none⟩) 12 12) (v.alloc (Obj.cells (madeCells #[.float .f64 0] 12) 22)) := fun v => by
    exact run_make_row' (P := Tryz.prog) 26 22 (.float .f64 0) 8 Tryz.underlying26 infoF64 rfl .i64 .i64 12 (by omega) (by omega) v
  have AL : ∀ v : World, (Instr.alloc 29 true (.tuple #[])).run Tryz.prog v = .ok (.pointer (some ⟨v.heap.size, 0, none⟩)) (v.alloc (.cells #[.slice none 0 0, .slice none 0 0, .slice none 0 0, .slice none 0 0, .int .i64 0, .int .i64 0] 29)) := fun v => by
    simp [go_sem]
  have A0 : Hid (Ab w (w.alloc (.cells #[.slice none 0 0, .slice none 0 0, .slice none 0 0, .slice none 0 0, .int .i64 0, .int .i64 0] 29))) := bl1 _ _
  go_enter Tryz.func15, Tryz.ntmps15
  go_wp2_with fail
  refine (CC.out _ A0.out).mono ?_
  rintro e9 vq ⟨rfl, hvq⟩
  have hvq2 := hvq.symm
  subst hvq2
  go_wp2_with fail
  refine (CE.out _ A0.out).mono ?_
  rintro e9 vq ⟨rfl, hvq⟩
  have hvq2 := hvq.symm
  subst hvq2
  go_upto_region 4 with fail
  generalize hW : World.alloc w _ = W at *
  go_cut [4] from 22 to 31 (fun s4 wx => ∃ g4 b1 b2 b3 b4, s4 = .pointer (some ⟨g4, 0, none⟩) ∧ Ab W wx ∧ wx.heap[g4]? = some (.cells #[.slice (some ⟨b1, 0, none⟩) 6 6, .slice (some ⟨b2, 0, none⟩) 6 6, .slice (some ⟨b3, 0, none⟩) 6 6, .slice (some ⟨b4, 0, none⟩) 12 12, .int .i64 0, .int .i64 0] 29) ∧ wx.heap[b1]? = some (Obj.cells (madeCells #[.float .f64 0] 6) 22) ∧ wx.heap[b2]? = some (Obj.cells (madeCells #[.int .i64 0] 6) 2) ∧ wx.heap[b3]? = some (Obj.cells (madeCells #[.int .i64 0] 6) 2) ∧ wx.heap[b4]? = some (Obj.cells (madeCells #[.float .f64 0] 12) 22) ∧ W.heap.size ≤ g4 ∧ W.heap.size ≤ b1 ∧ W.heap.size ≤ b2 ∧ W.heap.size ≤ b3 ∧ W.heap.size ≤ b4 ∧ g4 ≠ b1 ∧ g4 ≠ b2 ∧ g4 ≠ b3 ∧ g4 ≠ b4 ∧ b1 ≠ b2 ∧ b1 ≠ b3 ∧ b1 ≠ b4 ∧ b2 ≠ b3 ∧ b2 ≠ b4 ∧ b3 ≠ b4)
  case first =>
    obtain ⟨UU, E, hF1, hF2⟩ := cls W.drew
    have HU := hid hF2
    clear hF1 hF2
    refine region_free 11 (fun k => if k = 1 then some ((Obj.cells (madeCells #[.float .f64 0] 6) 22), fun b => .slice (some ⟨b, 0, none⟩) 6 6) else if k = 3 then some ((Obj.cells (madeCells #[.int .i64 0] 6) 2), fun b => .slice (some ⟨b, 0, none⟩) 6 6) else if k = 5 then some ((Obj.cells (madeCells #[.int .i64 0] 6) 2), fun b => .slice (some ⟨b, 0, none⟩) 6 6) else if k = 8 then some ((Obj.cells (madeCells #[.float .f64 0] 12) 22), fun b => .slice (some ⟨b, 0, none⟩) 12 12) else if k = 10 then some ((.cells #[.slice none 0 0, .slice none 0 0, .slice none 0 0, .slice none 0 0, .int .i64 0, .int .i64 0] 29), fun b => .pointer (some ⟨b, 0, none⟩)) else none) (by kernel_rfl) (by kernel_rfl) (by kernel_rfl) ?_
    simp only [List.take_succ_cons, List.take_zero]
    refine wpFree_one HU (by rfl) (by rfl) ?_
    go_big_quiet_step (with_reducible rfl)
    refine wpQuiet_nil ?_
    refine wpFree_lay (ob := (Obj.cells (madeCells #[.float .f64 0] 6) 22)) (mk := fun b => .slice (some ⟨b, 0, none⟩) 6 6) (by rfl) (by kernel_rfl) ?_ ?_
    · refine lay_make (vx := .int .i64 6) (vy := .int .i64 6) (ob := (Obj.cells (madeCells #[.float .f64 0] 6) 22)) (mk := fun b => .slice (some ⟨b, 0, none⟩) 6 6) rfl ?_ ?_ ?_
      · rfl
      · rfl
      · exact M1
    intro b1 fb1
    simp only [Act.put, List.setIfInBounds_toArray, List.set_cons_succ, List.set_cons_zero]
    refine wpFree_one HU (by rfl) (by rfl) ?_
    go_big_quiet_step (with_reducible rfl)
    refine wpQuiet_nil ?_
    refine wpFree_lay (ob := (Obj.cells (madeCells #[.int .i64 0] 6) 2)) (mk := fun b => .slice (some ⟨b, 0, none⟩) 6 6) (by rfl) (by kernel_rfl) ?_ ?_
    · refine lay_make (vx := .int .i64 6) (vy := .int .i64 6) (ob := (Obj.cells (madeCells #[.int .i64 0] 6) 2)) (mk := fun b => .slice (some ⟨b, 0, none⟩) 6 6) rfl ?_ ?_ ?_
      · rfl
      · rfl
      · exact M2
    intro b2 fb2
    simp only [Act.put, List.setIfInBounds_toArray, List.set_cons_succ, List.set_cons_zero]
    refine wpFree_one HU (by rfl) (by rfl) ?_
    go_big_quiet_step (with_reducible rfl)
    refine wpQuiet_nil ?_
    refine wpFree_lay (ob := (Obj.cells (madeCells #[.int .i64 0] 6) 2)) (mk := fun b => .slice (some ⟨b, 0, none⟩) 6 6) (by rfl) (by kernel_rfl) ?_ ?_
    · refine lay_make (vx := .int .i64 6) (vy := .int .i64 6) (ob := (Obj.cells (madeCells #[.int .i64 0] 6) 2)) (mk := fun b => .slice (some ⟨b, 0, none⟩) 6 6) rfl ?_ ?_ ?_
      · rfl
      · rfl
      · exact M2
    intro b3 fb3
    simp only [Act.put, List.setIfInBounds_toArray, List.set_cons_succ, List.set_cons_zero]
    refine wpFree_one HU (by rfl) (by rfl) ?_
    go_big_quiet_step (with_reducible rfl)
    refine wpQuiet_nil ?_
    refine wpFree_one HU (by rfl) (by rfl) ?_
    go_big_quiet_step (with_reducible rfl)
    refine wpQuiet_nil ?_
    refine wpFree_lay (ob := (Obj.cells (madeCells #[.float .f64 0] 12) 22)) (mk := fun b => .slice (some ⟨b, 0, none⟩) 12 12) (by rfl) (by kernel_rfl) ?_ ?_
    · refine lay_make (vx := .int .i64 12) (vy := .int .i64 12) (ob := (Obj.cells (madeCells #[.float .f64 0] 12) 22)) (mk := fun b => .slice (some ⟨b, 0, none⟩) 12 12) rfl ?_ ?_ ?_
      · rfl
      · rfl
      · exact M3
    intro b4 fb4
    simp only [Act.put, List.setIfInBounds_toArray, List.set_cons_succ, List.set_cons_zero]
    refine wpFree_one HU (by rfl) (by rfl) ?_
    go_big_quiet_step (with_reducible rfl)
    refine wpQuiet_nil ?_
    refine wpFree_lay (ob := (.cells #[.slice none 0 0, .slice none 0 0, .slice none 0 0, .slice none 0 0, .int .i64 0, .int .i64 0] 29)) (mk := fun b => .pointer (some ⟨b, 0, none⟩)) (by rfl) (by kernel_rfl) ?_ ?_
    · refine lay_alloc (ob := (.cells #[.slice none 0 0, .slice none 0 0, .slice none 0 0, .slice none 0 0, .int .i64 0, .int .i64 0] 29)) (mk := fun b => .pointer (some ⟨b, 0, none⟩)) rfl ?_
      · exact AL
    intro g4 fg4
    simp only [Act.put, List.setIfInBounds_toArray, List.set_cons_succ, List.set_cons_zero]

    refine wpFree_nil ?_
    intro wz hz
    have h1 := hz.at (i := 1) (b := b1) (ob := (Obj.cells (madeCells #[.float .f64 0] 6) 22)) (by rfl) (by rfl)
    have h2 := hz.at (i := 3) (b := b2) (ob := (Obj.cells (madeCells #[.int .i64 0] 6) 2)) (by rfl) (by rfl)
    have h3 := hz.at (i := 5) (b := b3) (ob := (Obj.cells (madeCells #[.int .i64 0] 6) 2)) (by rfl) (by rfl)
    have h4 := hz.at (i := 8) (b := b4) (ob := (Obj.cells (madeCells #[.float .f64 0] 12) 22)) (by rfl) (by rfl)
    have h5 := hz.at (i := 10) (b := g4) (ob := (.cells #[.slice none 0 0, .slice none 0 0, .slice none 0 0, .slice none 0 0, .int .i64 0, .int .i64 0] 29)) (by rfl) (by rfl)
    have n12 : b1 ≠ b2 := fb2.2 1 b1 (by rfl)
    have n13 : b1 ≠ b3 := fb3.2 1 b1 (by rfl)
    have n14 : b1 ≠ b4 := fb4.2 1 b1 (by rfl)
    have n15 : b1 ≠ g4 := fg4.2 1 b1 (by rfl)
    have n23 : b2 ≠ b3 := fb3.2 3 b2 (by rfl)
    have n24 : b2 ≠ b4 := fb4.2 3 b2 (by rfl)
    have n25 : b2 ≠ g4 := fg4.2 3 b2 (by rfl)
    have n34 : b3 ≠ b4 := fb4.2 5 b3 (by rfl)
    have n35 : b3 ≠ g4 := fg4.2 5 b3 (by rfl)
    have n45 : b4 ≠ g4 := fg4.2 8 b4 (by rfl)
    have AZ : Ab W wz := (Ab.refl W).drew.trans hz.1
    have RZ := hid h5.1
    have HH := hid (And.intro h1 (And.intro h2 (And.intro h3 (And.intro h4 h5))))
    have NN := hid (And.intro n12 (And.intro n13 (And.intro n14 (And.intro n15 (And.intro n23 (And.intro n24 (And.intro n25 (And.intro n34 (And.intro n35 n45)))))))))
    have HAZ := hid AZ
    clear hz fb1 fb2 fb3 fb4 fg4 h1 h2 h3 h4 h5 n12 n13 n14 n15 n23 n24 n25 n34 n35 n45 AZ HU
    clear E UU
    have t0 := cell_of_row _ _ 0 _ _ _ RZ.out
    have t1 := cell_of_row _ _ 1 _ _ _ RZ.out
    have t2 := cell_of_row _ _ 2 _ _ _ RZ.out
    have t3 := cell_of_row _ _ 3 _ _ _ RZ.out
    have t4 := cell_of_row _ _ 4 _ _ _ RZ.out
    have t5 := cell_of_row _ _ 5 _ _ _ RZ.out
    have f0 := free_row RZ.out 0
    have f1 := free_row RZ.out 1
    have f2 := free_row RZ.out 2
    have f3 := free_row RZ.out 3
    have f4 := free_row RZ.out 4
    have f5 := free_row RZ.out 5
    simp only [List.drop_succ_cons, List.drop_zero]
    go_wp2_with fail
    go_meet
    obtain ⟨⟨k1, l1⟩, ⟨k2, l2⟩, ⟨k3, l3⟩, ⟨k4, l4⟩, ⟨k5, l5⟩⟩ := HH.out
    obtain ⟨n12, n13, n14, n15, n23, n24, n25, n34, n35, n45⟩ := NN.out
    have st : ∀ (b : Nat) (o : Obj), b ≠ g4 → wz.heap[b]? = some o → ∀ x0 x1 x2 x3 x4 x5, ((((((wz.setCell ⟨g4, 0, none⟩ x0).setCell ⟨g4, 1, none⟩ x1).setCell ⟨g4, 2, none⟩ x2).setCell ⟨g4, 3, none⟩ x3).setCell ⟨g4, 4, none⟩ x4).setCell ⟨g4, 5, none⟩ x5).heap[b]? = some o := fun b o hb h x0 x1 x2 x3 x4 x5 => by
      rw [heap_set_ne hb, heap_set_ne hb, heap_set_ne hb, heap_set_ne hb, heap_set_ne hb, heap_set_ne hb]
      exact h
    refine ⟨g4, b1, b2, b3, b4, rfl, ?_, row6 k5, st b1 _ n15 k1 _ _ _ _ _ _, st b2 _ n25 k2 _ _ _ _ _ _, st b3 _ n35 k3 _ _ _ _ _ _, st b4 _ n45 k4 _ _ _ _ _ _, l5, l1, l2, l3, l4, Ne.symm n15, Ne.symm n25, Ne.symm n35, Ne.symm n45, n12, n13, n14, n23, n24, n34⟩
    exact (((((HAZ.out.setk l5 _).setk l5 _).setk l5 _).setk l5 _).setk l5 _).setk l5 _
  case rest =>
    obtain ⟨g4, b1, b2, b3, b4, rfl, a4, r4, m1, m2, m3, m4, l5, l1, l2, l3, l4, n51, n52, n53, n54, n12, n13, n14, n23, n24, n34⟩ := hcut
    obtain ⟨gd, hgd⟩ : ∃ x, w.heap.size = x := ⟨_, rfl⟩
    have HL : Hid (gd + 1 ≤ b1 ∧ gd + 1 ≤ b2 ∧ gd + 1 ≤ b3 ∧ gd + 1 ≤ b4 ∧ gd + 1 ≤ g4) := by
      rw [← hW, size1] at l1 l2 l3 l4 l5
      rw [← hgd]
      exact ⟨l1, l2, l3, l4, l5⟩
    have NN : Hid (g4 ≠ b2 ∧ b1 ≠ b2 ∧ b3 ≠ b2 ∧ b4 ≠ b2 ∧ b1 ≠ b4 ∧ b3 ≠ b4) := ⟨n52, n12, Ne.symm n23, Ne.symm n24, n14, n34⟩
    have ZR : Hid (W.heap[gd]? = some (.cells #[.slice none 0 0, .slice none 0 0, .slice none 0 0, .slice none 0 0, .int .i64 0, .int .i64 0] 29)) := by rw [← hW, ← hgd]; exact heap_alloc_new _ _
    have AWW : Hid (Ab w W) := A0.out
    have FI := hid (show LkI w gd g4 b1 b2 b3 b4 0 wc from ⟨AWW.out.trans a4, r4, Ab.heap a4 ZR.out, made_row m1, (made_row m2).congr (fun i _ => by simp), made_row m3, made_row m4⟩)
    have HG := hid g
    have HN : Hid (w.heap.size = gd) := hgd
    rw [hgd]
    clear a4 r4 m1 m2 m3 m4 l1 l2 l3 l4 l5 n51 n52 n53 n54 n12 n13 n14 n23 n24 n34 hgd hW ZR AWW g CC CE M1 M2 M3 AL A0
    go_wp2
    go_loopw [5] (fun iv wr => ∃ c : Nat, c ≤ 6 ∧ iv = .int .i64 (c : Nat) ∧ LkI w gd g4 b1 b2 b3 b4 c wr) (fun iv _ => 6 - (intOf iv).toNat)
    case atStart => exact ⟨0, by omega, rfl, FI.out⟩
    case round =>
      obtain ⟨c, hc, rfl, F⟩ := hrel
      clear FI
      have FF := hid F
      clear F
      by_cases hc6 : c < 6
      · have hc' : (c : Int) < 6 := by omega
        have HC6 := hid hc6
        have AR : Hid (∀ v, Ab w v → Calls Tryz.prog 44 #[.pointer (some ⟨gb, 0, none⟩), .int .i64 (c : Nat)] v fun e w' => e = .returned (.int .i64 1431655765) ∧ Below v.heap.size v w') := fun v hv => by
          have h := gArea_ok (n := 1) (by decide) hc6 (HG.out.to hv)
          rwa [ar13 c hc6] at h
        clear hc6
        go_upto_region 8 with fail
        obtain ⟨UU, E, hF1, hF2⟩ := cls wr
        have HU := hid hF2
        have HU1 := hid hF1
        have x1 : ∀ u, (E u).cell? ⟨g4, 1, none⟩ = some (.slice (some ⟨b2, 0, none⟩) 6 6) := fun u => cell_of_row _ _ 1 _ _ _ (FF.out.to (hF1 u)).2.1
        have HX : Hid (∀ u, Ab w (E u)) := fun u => (FF.out.to (hF1 u)).1
        have DD0 := HU.out _ (Ab.refl wr).drew
        clear hF1 hF2
        refine region_tail 7 E (by kernel_rfl) (by kernel_rfl) (by kernel_rfl) DD0 ?_
        simp only [List.take_succ_cons, List.take_zero, List.drop_succ_cons, List.drop_zero]
        repeat (go_big_quiet_step (first
          | (with_reducible rfl)
          | (go_at_call 44; exact calls_cls HU HU1 (AR.out _ (HX.out _)))))
        refine wpQuiet_nil ?_
        intro vz hwz
        obtain ⟨u0, hu⟩ := hwz
        have AZ : Hid (Ab wr vz) := by rw [hu]; exact HU1.out u0
        clear hu u0
        clear HU HU1 HX DD0 x1
        clear E UU
        have FZ := hid (FF.out.to AZ.out)
        have z1 := FZ.out.2.2.2.2.1.cell HC6.out
        have z2 := FZ.out.2.2.2.2.1.frozen c
        go_upto_region 9 with fail
        have F2 := hid (FZ.out.set NN.out HL.out c 1431655765 (by rw [HN.out]; exact Nat.le_refl _))
        clear z1 z2 FZ FF AZ
        generalize World.setCell vz _ _ = v2 at *
        by_cases c1 : c = 1
        · subst c1
          have y1 := cell_of_row _ _ 1 _ _ _ F2.out.2.1
          have p1 : v2.cell? ⟨b2, 1, none⟩ = some (.int .i64 1431655765) := by rw [F2.out.2.2.2.2.1.cell HC6.out]; simp
          have p2 := F2.out.2.2.2.2.1.frozen 1
          go_upto_region 10 with fail
          clear y1 p1 p2
          obtain ⟨UU, E, hF1, hF2⟩ := cls v2
          have HU := hid hF2
          have HU1 := hid hF1
          have x1 : ∀ u, (E u).cell? ⟨g4, 1, none⟩ = some (.slice (some ⟨b2, 0, none⟩) 6 6) := fun u => cell_of_row _ _ 1 _ _ _ ((hF1 u).heap F2.out.2.1)
          have x2 : ∀ u, (E u).cell? ⟨b2, 1, none⟩ = some (.int .i64 1431655765) := fun u => by rw [(rowIs.ab F2.out.2.2.2.2.1 (hF1 u)).cell HC6.out]; simp
          have DD0 := HU.out _ (Ab.refl v2).drew
          clear hF1 hF2
          refine region_tail 10 E (by kernel_rfl) (by kernel_rfl) (by kernel_rfl) DD0 ?_
          simp only [List.take_succ_cons, List.take_zero, List.drop_succ_cons, List.drop_zero]
          repeat (go_big_quiet_step (with_reducible rfl))
          refine wpQuiet_nil ?_
          intro vz hwz
          obtain ⟨u0, hu⟩ := hwz
          have AZ : Hid (Ab v2 vz) := by rw [hu]; exact HU1.out u0
          clear hu u0
          clear HU HU1 DD0 x1 x2
          clear E UU
          have F3 := hid (F2.out.to2 AZ.out)
          have z1 := F3.out.2.2.2.2.1.cell HC6.out
          have z2 := F3.out.2.2.2.2.1.frozen 1
          go_wp2
          refine ⟨⟨2, by omega, by simp, ?_⟩, by simp [intOf]⟩
          exact (F3.out.set NN.out HL.out 1 2863311530 (by rw [HN.out]; exact Nat.le_refl _)).fin (fun i => by
            by_cases e : i = 1
            · simp [e, lkW]
            · by_cases e2 : i < 1
              · have : i < 2 := by omega
                simp [e, e2, this]
              · have : ¬ i < 2 := by omega
                simp [e, e2, this])
        · have c2 : ((c : Int) == 1) = false := by rw [beq_eq_false_iff_ne]; omega
          go_wp2
          refine ⟨⟨c + 1, by have := HC6.out; omega, by simp, ?_⟩, by simp [intOf]; have := HC6.out; omega⟩
          exact F2.out.fin (fun i => by
            by_cases e : i = c
            · subst e
              simp [lkW, c1]
            · by_cases l : i < c
              · simp [e, l, show i < c + 1 by omega]
              · simp [e, l, show ¬ i < c + 1 by omega])
      · have e6 : c = 6 := by omega
        subst e6
        have s0 := cell_of_row _ _ 0 _ _ _ FF.out.2.1
        have s1 := cell_of_row _ _ 1 _ _ _ FF.out.2.1
        have s2 := cell_of_row _ _ 2 _ _ _ FF.out.2.1
        have s3 := cell_of_row _ _ 3 _ _ _ FF.out.2.1
        have s4 := cell_of_row _ _ 4 _ _ _ FF.out.2.1
        have s5 := cell_of_row _ _ 5 _ _ _ FF.out.2.1
        have RZ := FF.out.2.2.1
        have t0 := cell_of_row _ _ 0 _ _ _ RZ
        have t1 := cell_of_row _ _ 1 _ _ _ RZ
        have t2 := cell_of_row _ _ 2 _ _ _ RZ
        have t3 := cell_of_row _ _ 3 _ _ _ RZ
        have t4 := cell_of_row _ _ 4 _ _ _ RZ
        have t5 := cell_of_row _ _ 5 _ _ _ RZ
        have f0 := free_row RZ 0
        have f1 := free_row RZ 1
        have f2 := free_row RZ 2
        have f3 := free_row RZ 3
        have f4 := free_row RZ 4
        have f5 := free_row RZ 5
        have ROW := hid (row6 (x := .slice (some ⟨b1, 0, none⟩) 6 6) (y := .slice (some ⟨b2, 0, none⟩) 6 6) (z := .slice (some ⟨b3, 0, none⟩) 6 6) (p := .slice (some ⟨b4, 0, none⟩) 12 12) (q := .int .i64 0) (r := .int .i64 0) RZ)
        clear RZ
        go_wp2
        have BN : Hid (b1 ≠ gd ∧ b2 ≠ gd ∧ b3 ≠ gd ∧ b4 ≠ gd) := by
          have := HL.out
          exact ⟨by omega, by omega, by omega, by omega⟩
        have G1 := FF.out.2.2.2.1
        have G2 := FF.out.2.2.2.2.1
        have G3 := FF.out.2.2.2.2.2.1
        have G4 := FF.out.2.2.2.2.2.2
        have GA := FF.out.1
        refine bodyPost_ret ?_ rfl ⟨b1, b2, b3, b4, rfl, ?_, ?_, ?_, ?_, ?_, ?_⟩
        · exact results_cell_row Tryz.results15 _ _ gd _ _ (0, 0) _ rfl ROW.out Tryz.underlying29 rfl (by kernel_rfl)
        · exact (((((GA.setk (by rw [HN.out]; omega) _).setk (by rw [HN.out]; omega) _).setk (by rw [HN.out]; omega) _).setk (by rw [HN.out]; omega) _).setk (by rw [HN.out]; omega) _).setk (by rw [HN.out]; omega) _
        · exact (((((G1.setOther BN.out.1 _).setOther BN.out.1 _).setOther BN.out.1 _).setOther BN.out.1 _).setOther BN.out.1 _).setOther BN.out.1 _
        · exact ((((((G2.congr (fun i hi => by simp [hi])).setOther BN.out.2.1 _).setOther BN.out.2.1 _).setOther BN.out.2.1 _).setOther BN.out.2.1 _).setOther BN.out.2.1 _).setOther BN.out.2.1 _
        · exact (((((G3.setOther BN.out.2.2.1 _).setOther BN.out.2.2.1 _).setOther BN.out.2.2.1 _).setOther BN.out.2.2.1 _).setOther BN.out.2.2.1 _).setOther BN.out.2.2.1 _
        · exact (((((G4.setOther BN.out.2.2.2 _).setOther BN.out.2.2.2 _).setOther BN.out.2.2.2 _).setOther BN.out.2.2.2 _).setOther BN.out.2.2.2 _).setOther BN.out.2.2.2 _
        · have := HL.out
          exact ⟨⟨by rw [HN.out]; omega, by rw [HN.out]; omega, by rw [HN.out]; omega, by rw [HN.out]; omega⟩, NN.out.2.1, NN.out.2.2.2.2.1, Ne.symm NN.out.2.2.2.1, NN.out.2.2.2.2.2, NN.out.2.2.1⟩
end Fc
end Go.Proofs.YtgalgnjgpmcngaaGreatDoor

namespace Go.Proofs.YtgalgnjgpmcngaaGreatDoor
open Go.RowKit Tf Cu Go.Deep
attribute [local go_sem] run_bits run_from raw_feq raw_fne raw_flt raw_fgt run_neg run_store_float
namespace Fc
theorem lvW_in (i : Nat) : -9223372036854775808 ≤ lvW i ∧ lvW i ≤ 9223372036854775807 := by
  unfold lvW lkW
  split
  · omega
  · split <;> omega
theorem same16 (x : Nat) (v : World) : Calls Tryz.prog 7 #[.float .f64 x, .float .f64 x] v fun e w' => e = .returned (.bool true) ∧ w' = v := by
  go_enter Tryz.func7, Tryz.ntmps7
  go_wp2
  go_ret
  exact ⟨rfl, rfl⟩
set_option maxRecDepth 100000 in
set_option maxHeartbeats 8000000 in
theorem lives16_at (OC : OpenC) (SC : SpeedsC) (w : World) (hF : Fr w) : Calls Tryz.prog 4 #[] w fun e w' => e = .returned (.bool true) ∧ Below w.heap.size w w' := by
  have NW := hid (new_at 1 w (by omega) hF)
  have HA := hid SC
  have HO := hid OC
  clear hF SC OC
  go_enter Tryz.func4, Tryz.ntmps4
  go_wp2_with fail
  refine NW.out.mono ?_
  rintro e v1 ⟨gb, rfl, a1, -, g1⟩
  have AW1 : Hid (Ab w v1) := a1
  have G1 : Hid (GridOf 1 gb v1) := g1
  clear a1 g1 NW
  have LK := hid (lake16_at v1 G1.out)
  go_wp2_with fail
  refine LK.out.mono ?_
  rintro e v2 ⟨b1, b2, b3, b4, rfl, k2, r1, r2, r3, r4, nb⟩
  have AV : Hid (Ab v1 (v2.alloc (.cells #[.slice (some ⟨b1, 0, none⟩) 6 6, .slice (some ⟨b2, 0, none⟩) 6 6, .slice (some ⟨b3, 0, none⟩) 6 6, .slice (some ⟨b4, 0, none⟩) 12 12, .int .i64 0, .int .i64 0] 29))) := Ab.alloc (show Ab v1 v2 from k2) _
  have SR : Hid ((v2.alloc (.cells #[.slice (some ⟨b1, 0, none⟩) 6 6, .slice (some ⟨b2, 0, none⟩) 6 6, .slice (some ⟨b3, 0, none⟩) 6 6, .slice (some ⟨b4, 0, none⟩) 12 12, .int .i64 0, .int .i64 0] 29)).heap[v2.heap.size]? = some (.cells #[.slice (some ⟨b1, 0, none⟩) 6 6, .slice (some ⟨b2, 0, none⟩) 6 6, .slice (some ⟨b3, 0, none⟩) 6 6, .slice (some ⟨b4, 0, none⟩) 12 12, .int .i64 0, .int .i64 0] 29)) := heap_alloc_new _ _
  have R1 := hid (r1.alloc (.cells #[.slice (some ⟨b1, 0, none⟩) 6 6, .slice (some ⟨b2, 0, none⟩) 6 6, .slice (some ⟨b3, 0, none⟩) 6 6, .slice (some ⟨b4, 0, none⟩) 12 12, .int .i64 0, .int .i64 0] 29))
  have R2 := hid (r2.alloc (.cells #[.slice (some ⟨b1, 0, none⟩) 6 6, .slice (some ⟨b2, 0, none⟩) 6 6, .slice (some ⟨b3, 0, none⟩) 6 6, .slice (some ⟨b4, 0, none⟩) 12 12, .int .i64 0, .int .i64 0] 29))
  have R4 := hid (r4.alloc (.cells #[.slice (some ⟨b1, 0, none⟩) 6 6, .slice (some ⟨b2, 0, none⟩) 6 6, .slice (some ⟨b3, 0, none⟩) 6 6, .slice (some ⟨b4, 0, none⟩) 12 12, .int .i64 0, .int .i64 0] 29))
  have NB : Hid (((v1.heap.size ≤ b1 ∧ v1.heap.size ≤ b2 ∧ v1.heap.size ≤ b3 ∧ v1.heap.size ≤ b4) ∧ b1 ≠ b2 ∧ b1 ≠ b4 ∧ b2 ≠ b4 ∧ b3 ≠ b4 ∧ b3 ≠ b2) ∧ v2.heap.size ≠ b1 ∧ v2.heap.size ≠ b2) := ⟨nb, by have := r1.lt; omega, by have := r2.lt; omega⟩
  clear k2 r1 r2 r3 r4 nb LK
  go_upto_region 5 with fail
  obtain ⟨gs, hgs⟩ : ∃ x, v2.heap.size = x := ⟨_, rfl⟩
  generalize hV : v2.alloc (.cells #[.slice (some ⟨b1, 0, none⟩) 6 6, .slice (some ⟨b2, 0, none⟩) 6 6, .slice (some ⟨b3, 0, none⟩) 6 6, .slice (some ⟨b4, 0, none⟩) 12 12, .int .i64 0, .int .i64 0] 29) = V at *
  rw [hgs] at SR NB
  rw [hgs]
  clear hV hgs
  have c0 := cell_of_row _ _ 0 _ _ _ SR.out
  have c1 := cell_of_row _ _ 1 _ _ _ SR.out
  have c2 := cell_of_row _ _ 2 _ _ _ SR.out
  have c3 := cell_of_row _ _ 3 _ _ _ SR.out
  have c4 := cell_of_row _ _ 4 _ _ _ SR.out
  have c5 := cell_of_row _ _ 5 _ _ _ SR.out
  have I1 := hid (rowIs.fl (f := fun _ => 0) R1.out (fun _ _ => by decide))
  have I2 := hid (rowIs.in R2.out (fun i _ => by unfold lkW; split <;> omega))
  have I4 := hid (rowIs.fl (f := fun _ => 0) R4.out (fun _ _ => by decide))
  have AL := hid ((HA.out 1 gb 1 4602678819172646912 4607182418800017408 0 0 false none 0 0 (some ⟨b1, 0, none⟩) 6 6 (fun _ => 0) (some ⟨b2, 0, none⟩) 6 6 lkW (some ⟨b3, 0, none⟩) 6 6 (some ⟨b4, 0, none⟩) 12 12 (fun _ => 0) 0 0 V (by omega) (G1.out.to AV.out) I1.out I2.out I4.out ⟨by decide, by decide, by decide⟩).1 ⟨rfl, rfl, rfl, rfl⟩)
  go_wp2_with fail
  refine AL.out.mono ?_
  rintro e9 v3 ⟨u, rfl, k3, o3⟩
  obtain ⟨bl, cap, Fl, rfl, hB, h1, h2, rl, hf⟩ := ownG_two (n := 12) o3 (by omega)
  have A3 : Hid (Ab v1 v3) := AV.out.call k3
  have S3 := hid (Ab.heap k3 SR.out)
  have T1 := hid (rowIs.ab R1.out k3)
  have T2 := hid (rowIs.ab R2.out k3)
  have T4 := hid (rowIs.ab R4.out k3)
  have N3 : Hid (bl ≠ b1 ∧ bl ≠ b2) := ⟨by have := R1.out.lt; omega, by have := R2.out.lt; omega⟩
  obtain ⟨l0, hl0⟩ : ∃ x, spE 1 4607182418800017408 4602678819172646912 0 (fun _ => 0) lkW (fun _ => 0) 0 = x := ⟨_, rfl⟩
  have d0 : flt l0 0 = true := by rw [← hl0]; exact lf_0
  have E0 : Hid (v3.cell? ⟨bl, 0, none⟩ = some (.float .f64 l0)) := by
    have h := rl.cell (i := 0) (by omega)
    rw [hf 0 (by omega), hl0] at h
    exact h
  have E1 : Hid (v3.cell? ⟨bl, 1, none⟩ = some (.float .f64 0)) := by
    have h := rl.cell (i := 1) (by omega)
    rw [hf 1 (by omega), lf_1] at h
    exact h
  clear o3 hB h2 rl hf k3 AL hl0 I1 I2 I4 R1 R2 R4 SR AV c0 c1 c2 c3 c4 c5
  have c0 := cell_of_row _ _ 0 _ _ _ S3.out
  have x1 := E1.out
  go_wp2_with fail
  refine (same16 0 _).mono ?_
  rintro e9 v4 ⟨rfl, hv⟩
  have hv2 := hv.symm
  subst hv2
  clear c0 x1
  have c0 := cell_of_row _ _ 0 _ _ _ S3.out
  have y1 := T1.out.cell (i := 0) (by decide)
  have z1 := T1.out.frozen 0
  go_upto_region 10 with fail
  clear c0 y1 z1
  have S4 : Hid ((v3.setCell ⟨b1, 0, none⟩ (.float .f64 4613937818241073152)).heap[gs]? = some (.cells #[.slice (some ⟨b1, 0, none⟩) 6 6, .slice (some ⟨b2, 0, none⟩) 6 6, .slice (some ⟨b3, 0, none⟩) 6 6, .slice (some ⟨b4, 0, none⟩) 12 12, .int .i64 0, .int .i64 0] 29)) := by show _ = _; rw [heap_set_ne NB.out.2.1]; exact S3.out
  have A4 : Hid (Ab v1 (v3.setCell ⟨b1, 0, none⟩ (.float .f64 4613937818241073152))) := A3.out.setk NB.out.1.1.1 _
  have U1 := hid ((T1.out.set 0 (.float .f64 4613937818241073152)).congr (g := fun i => .float .f64 (lvB i)) (fun i _ => by unfold lvB; by_cases e : i = 0 <;> simp [e]))
  have U2 := hid (T2.out.setOther (a := ⟨b1, 0, none⟩) (Ne.symm NB.out.1.2.1) (.float .f64 4613937818241073152))
  have U4 := hid (T4.out.setOther (a := ⟨b1, 0, none⟩) (Ne.symm NB.out.1.2.2.1) (.float .f64 4613937818241073152))
  have F0 : Hid ((v3.setCell ⟨b1, 0, none⟩ (.float .f64 4613937818241073152)).cell? ⟨bl, 0, none⟩ = some (.float .f64 l0)) := by
    show _ = _
    rw [← E0.out]
    exact World.cell?_of_block (Below.heap_setCell _ _ _ _ N3.out.1)
  clear S3 A3 T1 T2 T4 E0 E1
  generalize World.setCell v3 _ _ = v5 at *
  have c0 := cell_of_row _ _ 1 _ _ _ S4.out
  have y1 := U2.out.cell (i := 0) (by decide)
  have z1 := U2.out.frozen 0
  go_upto_region 11 with fail
  clear c0 y1 z1
  have S5 : Hid ((v5.setCell ⟨b2, 0, none⟩ (.int .i64 0)).heap[gs]? = some (.cells #[.slice (some ⟨b1, 0, none⟩) 6 6, .slice (some ⟨b2, 0, none⟩) 6 6, .slice (some ⟨b3, 0, none⟩) 6 6, .slice (some ⟨b4, 0, none⟩) 12 12, .int .i64 0, .int .i64 0] 29)) := by show _ = _; rw [heap_set_ne NB.out.2.2]; exact S4.out
  have A5 : Hid (Ab v1 (v5.setCell ⟨b2, 0, none⟩ (.int .i64 0))) := A4.out.setk NB.out.1.1.2.1 _
  have V1 := hid (U1.out.setOther (a := ⟨b2, 0, none⟩) NB.out.1.2.1 (.int .i64 0))
  have V2 := hid ((U2.out.set 0 (.int .i64 0)).congr (g := fun i => .int .i64 (lvW i)) (fun i _ => by unfold lvW; by_cases e : i = 0 <;> simp [e]))
  have H0 : Hid ((v5.setCell ⟨b2, 0, none⟩ (.int .i64 0)).cell? ⟨bl, 0, none⟩ = some (.float .f64 l0)) := by
    show _ = _
    rw [← F0.out]
    exact World.cell?_of_block (Below.heap_setCell _ _ _ _ N3.out.2)
  have V4 := hid (U4.out.setOther (a := ⟨b2, 0, none⟩) (Ne.symm NB.out.1.2.2.2.1) (.int .i64 0))
  clear S4 A4 U1 U2 U4 F0 N3
  generalize World.setCell v5 _ _ = v6 at *
  have J1 : Hid (∀ v, Ab v6 v → IsFl v (some ⟨b1, 0, none⟩) 6 lvB) := fun v hv => rowIs.fl (rowIs.ab V1.out hv) (fun i _ => by unfold lvB; split <;> decide)
  have J2 : Hid (∀ v, Ab v6 v → IsIn v (some ⟨b2, 0, none⟩) 6 lvW) := fun v hv => rowIs.in (rowIs.ab V2.out hv) (fun i _ => lvW_in i)
  have J4 : Hid (∀ v, Ab v6 v → ∃ Sp, IsFl v (some ⟨b4, 0, none⟩) 12 Sp) := fun v hv => ⟨fun _ => 0, rowIs.fl (rowIs.ab V4.out hv) (fun i _ => by decide)⟩
  have O1 : Hid (∀ v, Ab v6 v → Calls Tryz.prog 6 #[.pointer (some ⟨gb, 0, none⟩), .agg #[.slice (some ⟨b1, 0, none⟩) 6 6, .slice (some ⟨b2, 0, none⟩) 6 6, .slice (some ⟨b3, 0, none⟩) 6 6, .slice (some ⟨b4, 0, none⟩) 12 12, .int .i64 0, .int .i64 0], .int .i64 0] v fun x w' => x = .returned (.bool false) ∧ Below v.heap.size v w') := fun v hv => by
    have h := (HO.out 1 gb (some ⟨b1, 0, none⟩) 6 6 lvB (some ⟨b2, 0, none⟩) 6 6 lvW (some ⟨b3, 0, none⟩) 6 6 (some ⟨b4, 0, none⟩) 12 12 0 0 0 v (by omega) (G1.out.to (A5.out.trans hv)) (J1.out v hv) (J2.out v hv) (J4.out v hv) (by omega)).1 ⟨⟨rfl, rfl, rfl, rfl⟩, by decide⟩
    rw [show (0 : Int).toNat = 0 from rfl, lf_2] at h
    exact h
  have O2 : Hid (∀ v, Ab v6 v → Calls Tryz.prog 6 #[.pointer (some ⟨gb, 0, none⟩), .agg #[.slice (some ⟨b1, 0, none⟩) 6 6, .slice (some ⟨b2, 0, none⟩) 6 6, .slice (some ⟨b3, 0, none⟩) 6 6, .slice (some ⟨b4, 0, none⟩) 12 12, .int .i64 0, .int .i64 0], .int .i64 4] v fun x w' => x = .returned (.bool true) ∧ Below v.heap.size v w') := fun v hv => by
    have h := (HO.out 1 gb (some ⟨b1, 0, none⟩) 6 6 lvB (some ⟨b2, 0, none⟩) 6 6 lvW (some ⟨b3, 0, none⟩) 6 6 (some ⟨b4, 0, none⟩) 12 12 0 0 4 v (by omega) (G1.out.to (A5.out.trans hv)) (J1.out v hv) (J2.out v hv) (J4.out v hv) (by omega)).1 ⟨⟨rfl, rfl, rfl, rfl⟩, by decide⟩
    rw [show (4 : Int).toNat = 4 from rfl, lf_3] at h
    exact h
  have x0 := H0.out
  have c0 := cell_of_row _ _ 0 _ _ _ S5.out
  have c1 := cell_of_row _ _ 1 _ _ _ S5.out
  have c2 := cell_of_row _ _ 2 _ _ _ S5.out
  have c3 := cell_of_row _ _ 3 _ _ _ S5.out
  have c4 := cell_of_row _ _ 4 _ _ _ S5.out
  have c5 := cell_of_row _ _ 5 _ _ _ S5.out
  go_wp2_with fail
  refine (O1.out _ (Ab.refl _)).mono ?_
  rintro e9 v7 ⟨rfl, k7⟩
  have A7 : Hid (Ab v6 v7) := k7
  have S7 := hid (Ab.heap k7 S5.out)
  clear k7 c0 c1 c2 c3 c4 c5 x0
  have c0 := cell_of_row _ _ 0 _ _ _ S7.out
  have c1 := cell_of_row _ _ 1 _ _ _ S7.out
  have c2 := cell_of_row _ _ 2 _ _ _ S7.out
  have c3 := cell_of_row _ _ 3 _ _ _ S7.out
  have c4 := cell_of_row _ _ 4 _ _ _ S7.out
  have c5 := cell_of_row _ _ 5 _ _ _ S7.out
  go_wp2_with fail
  refine (O2.out _ A7.out).mono ?_
  rintro e9 v8 ⟨rfl, k8⟩
  have A8 : Hid (Ab v6 v8) := A7.out.call k8
  clear k8 c0 c1 c2 c3 c4 c5
  go_wp2
  go_ret
  exact ⟨rfl, AW1.out.trans (A5.out.trans A8.out)⟩
end Fc
end Go.Proofs.YtgalgnjgpmcngaaGreatDoor

namespace Go.Proofs.YtgalgnjgpmcngaaGreatDoor
open Go.RowKit Tf Cu Go.Deep
attribute [local go_sem] run_bits run_from raw_feq raw_fne raw_flt raw_fgt run_neg run_store_float
set_option maxRecDepth 100000 in
set_option maxHeartbeats 4000000 in
theorem all12_at (pa pb : Option Addr) (len ca cb : Nat) (xs : Nat → Nat) (w : World) (hl : len ≤ 281474976710656) (hA : IsFl w pa len xs) (hB : IsFl w pb len xs) :
    Calls Tryz.prog 12 #[.slice pa len ca, .slice pb len cb] w fun e w' => e = .returned (.bool true) ∧ Below w.heap.size w w' := by
  have SS : Hid (∀ (x : Nat) (v : World), Calls Tryz.prog 7 #[.float .f64 x, .float .f64 x] v fun e w' => e = .returned (.bool true) ∧ Below v.heap.size v w') := fun x v => by
    have h := rawSame_any x x v
    rw [show sameB x x = true by unfold sameB; exact decide_eq_true rfl] at h
    exact h.mono fun _ _ ⟨he, hw⟩ => ⟨he, by rw [hw]; exact Below.refl _ _⟩
  have HA := hid hA
  have HB := hid hB
  have HL := hid hl
  clear hA hB hl
  go_enter Tryz.func12, Tryz.ntmps12
  go_wp2
  go_loopw [5] (fun iv wr => ∃ c : Nat, c ≤ len ∧ iv = .int .i64 (c : Nat) ∧ Ab w wr) (fun iv _ => len - (intOf iv).toNat)
  case atStart => exact ⟨0, by omega, rfl, Ab.refl w⟩
  case round =>
    obtain ⟨c, hc, rfl, ar⟩ := hrel
    have AR := hid ar
    clear ar
    by_cases h : c < len
    · have HC := hid h
      obtain ⟨x, hx⟩ : ∃ x, xs c = x := ⟨_, rfl⟩
      obtain ⟨-, b1, o1, e1, l1, c1⟩ := HA.out c h
      obtain ⟨-, b2, o2, e2, l2, c2⟩ := HB.out c h
      rw [hx] at c1 c2
      have C1 := hid c1
      have C2 := hid c2
      have L1 := hid l1
      have L2 := hid l2
      have hcI : (c : Int) < len := by omega
      have hcB : (c : Int) ≤ 281474976710656 := by have := HL.out; omega
      clear c1 c2 l1 l2 hx h
      subst e1 e2
      go_upto_region 6 with fail
      obtain ⟨UU, E, hF1, hF2⟩ := cls wr
      have HU := hid hF2
      have HU1 := hid hF1
      have x1 : ∀ u, (E u).cell? ⟨b1, o1 + c, none⟩ = some (.float .f64 x) := fun u => (Below.cell (AR.out.trans (hF1 u)) L1.out).trans C1.out
      have x2 : ∀ u, (E u).cell? ⟨b2, o2 + c, none⟩ = some (.float .f64 x) := fun u => (Below.cell (AR.out.trans (hF1 u)) L2.out).trans C2.out
      have DD0 := HU.out _ (Ab.refl wr).drew
      clear hF1 hF2
      refine region_cls E (by kernel_rfl) (by kernel_rfl) DD0 ?_
      repeat (go_big_quiet_step (first
        | (with_reducible rfl)
        | (go_at_call 7; exact calls_cls HU HU1 (SS.out _ _))))
      refine wpQuiet_nil ?_
      intro z hwz
      obtain ⟨u0, hu⟩ := hwz
      have AZ : Hid (Ab w z) := by rw [hu]; exact AR.out.trans (HU1.out u0)
      clear hu u0
      clear HU HU1 DD0 x1 x2
      clear E UU
      go_wp2
      go_roundw
      case rel => exact ⟨c + 1, by have := HC.out; omega, by simp, AZ.out⟩
      case measure => simp [intOf]; have := HC.out; omega
    · have e : len = c := by omega
      subst e
      go_wp2
      go_ret
      exact ⟨rfl, AR.out⟩
end Go.Proofs.YtgalgnjgpmcngaaGreatDoor
