/-
  Some of the texts of this proof, one behind the other.
-/
import Derived.Test.YtpfoohpncbkkfaaDoorZ12
namespace Go.Proofs.YtpfoohpncbkkfaaDoor
open Go.RowKit Tf Cu Go.Deep
attribute [local go_sem] run_bits run_from raw_feq raw_fne raw_flt raw_fgt run_neg run_store_float
namespace Fc
theorem isFl_abo {V w : World} {b0 : Option Addr} {n ba : Nat} {f : Nat → Nat} (h : IsFl V b0 n f) (a : Abo V ba w) (hne : ∀ b o, b0 = some ⟨b, o, none⟩ → b ≠ ba) : IsFl w b0 n f := fun k hk => by
  obtain ⟨h1, b, o, e, h2, h3⟩ := h k hk
  subst e
  have hb := a.2.2.2.2 b h2 (hne b o rfl)
  exact ⟨h1, b, o, rfl, Nat.lt_of_lt_of_le h2 a.2.2.2.1, by rw [← h3]; exact World.cell?_of_block hb⟩
theorem ownG_alloc {B : Nat} {v : Value} {l : List Nat} {w : World} (h : OwnG B v l w) (O : Obj) : OwnG B v l (w.alloc O) := World.ownsRow.alloc h O
theorem wpList_appG {ops : Array Oper} {rest : List Oper} {o : Oper} {a : Act} {w : World} {Q : Exit → Act → World → Prop} (hgd : o.guard = none) (s x : Operand)
    (ho : o.op = .call { callee := .builtin .append, args := #[s, x], argTypes := #[26, 26] })
    (B : Nat) (v : Value) (l : List Nat) (hs : a.eval s = v) (hown : OwnG B v l w)
    (ad : Addr) (m c : Nat) (news : List Nat) (hx : a.eval x = .slice (some ad) m c) (hl : news.length = m) (hnews : ∀ j u, (news.map (Value.float .f64))[j]? = some u → w.cell? (ad.add j) = some u)
    (hm : 0 < m) (hlen : l.length + m ≤ 1048576) (hB : B ≤ w.heap.size) (nm : Nat) (hnm : l.length + m = nm)
    (h : ∀ g cap w', OwnG B (.slice (some ⟨g, 0, none⟩) nm cap) (l ++ news) w' → w.grownBy w' v.ownBlock → (v.ownBlock = some g ∨ g = w.heap.size) → B ≤ g → wpList Tryd.prog ops Q rest (a.put o.dst (.slice (some ⟨g, 0, none⟩) nm cap)) w') : wpList Tryd.prog ops Q (o :: rest) a w := by
  subst hnm
  obtain ⟨i0, hi, hz0, hz1, hz2⟩ := info_g
  refine wpList_append_lies w hgd s x _ ho B 22 i0 (.float .f64 0) 1 8 Tryd.underlying26 hi hz0 hz1 hz2 rfl (by decide) v l.length (l.map (Value.float .f64)) hs hown ad m c (news.map (Value.float .f64)) hx (by simpa using hl) hnews (fun u hu => by
    obtain ⟨y, _, rfl⟩ := List.mem_map.1 hu
    rfl) hm (by unfold maxLen; omega) (by omega) hB _ rfl ?_
  intro g cap w' o1 g1 e1 _
  have hb : B ≤ g := by
    rcases o1.2 with ⟨q, _⟩ | ⟨g2, _, _, q, hb, _⟩
    · cases q
    · injection q with q1 q2 q3
      injection q1 with q4
      injection q4 with q5
      omega
  refine h g cap w' ?_ g1 e1 hb
  unfold OwnG
  rw [List.length_append, List.map_append, hl]
  exact o1
/-- one number of an own list written -/
theorem ownG_set {B g len cap c : Nat} {l : List Nat} {w : World} (h : OwnG B (.slice (some ⟨g, 0, none⟩) len cap) l w) (hl : l.length = len) (hc : c < len) (x : Nat) : OwnG B (.slice (some ⟨g, 0, none⟩) len cap) (l.set c x) (w.setCell ⟨g, c, none⟩ (.float .f64 x)) := by
  subst hl
  refine ⟨by simp, ?_⟩
  rcases h.2 with ⟨q, _⟩ | ⟨g2, c2, cur, e, hb, hg, h1, h2, h3, h4⟩
  · cases q
  · injection e with e1 e2 e3
    injection e1 with e4
    injection e4 with e5
    subst e5
    subst e3
    refine .inr ⟨g, cap, cur.setIfInBounds c (.float .f64 x), by simp, hb, one_set hg, by simpa using h1, h2, by simpa using h3, ?_⟩
    have h4' : cur.toList.take l.length = l.map (Value.float .f64) := by simpa using h4
    rw [List.map_set, ← h4']
    simp only [List.length_set]
    rw [Array.toList_setIfInBounds, List.take_set, Nat.mul_one]
theorem abo_put {V w : World} {g k : Nat} {v : Value} (h : Abo V g w) : Abo V g (w.setCell ⟨g, k, none⟩ v) := by
  obtain ⟨h1, h2, h3, h4, h5⟩ := h
  exact ⟨h1, h2, h3, by simpa [World.setCell] using h4, fun i hi hne => (Below.heap_setCell _ _ _ _ hne).trans (h5 i hi hne)⟩
/-- the block of an own list, or one beyond -/
theorem own_blk {B T : Nat} {a0 : Option Addr} {len cap : Nat} {l : List Nat} {w : World} (h : OwnG B (.slice a0 len cap) l w) (hB : B ≤ T) : ∃ ba, (∀ g, (Value.slice a0 len cap).ownBlock = some g → g = ba) ∧ B ≤ ba ∧ (ba < w.heap.size ∨ (ba = T ∧ len = 0)) ∧ (0 < len → a0 = some ⟨ba, 0, none⟩) := by
  rcases h.2 with ⟨q, h0⟩ | ⟨g2, c2, cur, e, hb, hg, h1, h2, h3, h4⟩
  · injection q with q1 q2 q3
    subst q1
    exact ⟨T, fun g hg => by simp [Value.ownBlock] at hg, hB, .inr ⟨rfl, q2⟩, fun h => by omega⟩
  · injection e with e1 e2 e3
    subst e1
    exact ⟨g2, fun g hg => by simp [Value.ownBlock] at hg; exact hg.symm, hb, .inl (lt_of_block hg), fun _ => rfl⟩
set_option maxRecDepth 100000 in
set_option maxHeartbeats 16000000 in
theorem keeps16_side (side : Int) (sd : Int) (dt gr dr : Nat) (lim : Int) (rv : Bool) (pr : Option Addr) (lr cr : Nat) (pb : Option Addr) (lb cb : Nat) (pw : Option Addr) (lw cw : Nat) (pt : Option Addr) (lt ct : Nat) (ps : Option Addr) (ls cs : Nat) (sky st : Int) (w : World) (hs : ¬ (1 ≤ side ∧ side ≤ 32))
    (LV : Hid (∀ v, Ab w v → Calls Tryd.prog 9 #[] v fun e w' => e = .returned (.bool true) ∧ Below v.heap.size v w')) :
    Calls Tryd.prog 8 #[.int .i64 side, .agg #[.int .i64 sd, .float .f64 dt, .float .f64 gr, .float .f64 dr, .int .i64 lim, .bool rv, .slice pr lr cr], .agg #[.slice pb lb cb, .slice pw lw cw, .slice pt lt ct, .slice ps ls cs, .int .i64 sky, .int .i64 st]] w fun x w' => x = .returned (.bool true) ∧ Below w.heap.size w w' := by
  have A0 : Hid (Ab w ((w.alloc (.cells #[.int .i64 sd, .float .f64 dt, .float .f64 gr, .float .f64 dr, .int .i64 lim, .bool rv, .slice pr lr cr] 25)).alloc (.cells #[.slice pb lb cb, .slice pw lw cw, .slice pt lt ct, .slice ps ls cs, .int .i64 sky, .int .i64 st] 29))) := bl2 _ _ _
  have P0 : Hid (((w.alloc (.cells #[.int .i64 sd, .float .f64 dt, .float .f64 gr, .float .f64 dr, .int .i64 lim, .bool rv, .slice pr lr cr] 25)).alloc (.cells #[.slice pb lb cb, .slice pw lw cw, .slice pt lt ct, .slice ps ls cs, .int .i64 sky, .int .i64 st] 29)).heap[w.heap.size]? = some (.cells #[.int .i64 sd, .float .f64 dt, .float .f64 gr, .float .f64 dr, .int .i64 lim, .bool rv, .slice pr lr cr] 25)) := heap_alloc2_old _ _ _
  have S0 : Hid (((w.alloc (.cells #[.int .i64 sd, .float .f64 dt, .float .f64 gr, .float .f64 dr, .int .i64 lim, .bool rv, .slice pr lr cr] 25)).alloc (.cells #[.slice pb lb cb, .slice pw lw cw, .slice pt lt ct, .slice ps ls cs, .int .i64 sky, .int .i64 st] 29)).heap[w.heap.size + 1]? = some (.cells #[.slice pb lb cb, .slice pw lw cw, .slice pt lt ct, .slice ps ls cs, .int .i64 sky, .int .i64 st] 29)) := heap_alloc2_new _ _ _
  go_enter Tryd.func8, Tryd.ntmps8
  go_upto_region 1 with fail
  obtain ⟨gp, hgp⟩ : ∃ g, w.heap.size = g := ⟨_, rfl⟩
  obtain ⟨gs, hgs⟩ : ∃ g, w.heap.size + 1 = g := ⟨_, rfl⟩
  generalize hW : World.alloc (World.alloc w _) _ = W at *
  rw [hgs] at S0 ⊢
  rw [hgp] at P0 ⊢
  have GPW : Hid (w.heap.size ≤ gp ∧ w.heap.size ≤ gs) := ⟨by omega, by omega⟩
  clear hgp hgs hW
  go_wp2_with fail
  refine (LV.out _ A0.out).mono ?_
  rintro e9 v1 ⟨rfl, k1⟩
  have A1 : Hid (Ab w v1) := A0.out.call k1
  have P1 := hid (Ab.heap k1 P0.out)
  have S1 := hid (Ab.heap k1 S0.out)
  clear k1 A0 P0 S0
  go_wp2_with fail
  refine (new_no side v1 hs).mono ?_
  rintro e9 v2 ⟨rfl, hv⟩
  have hv2 := hv.symm
  subst hv2
  go_wp2
  go_ret
  exact ⟨rfl, A1.out⟩
set_option maxRecDepth 100000 in
set_option maxHeartbeats 16000000 in
theorem keeps16_long (n : Nat) (sd : Int) (dt gr dr : Nat) (lim : Int) (rv : Bool) (pr : Option Addr) (lr cr : Nat) (pb : Option Addr) (lb cb : Nat) (pw : Option Addr) (lw cw : Nat) (pt : Option Addr) (lt ct : Nat) (ps : Option Addr) (ls cs : Nat) (sky st : Int) (w : World) (HN : Hid (1 ≤ n ∧ n ≤ 32)) (HF : Hid (Fr w))
    (LV : Hid (∀ v, Ab w v → Calls Tryd.prog 9 #[] v fun e w' => e = .returned (.bool true) ∧ Below v.heap.size v w'))
    (LG : Hid (∀ v, Calls Tryd.prog 20 #[.agg #[.slice pb lb cb, .slice pw lw cw, .slice pt lt ct, .slice ps ls cs, .int .i64 sky, .int .i64 st]] v fun e w' => e = .returned (.bool true) ∧ Below v.heap.size v w')) :
    Calls Tryd.prog 8 #[.int .i64 (n : Nat), .agg #[.int .i64 sd, .float .f64 dt, .float .f64 gr, .float .f64 dr, .int .i64 lim, .bool rv, .slice pr lr cr], .agg #[.slice pb lb cb, .slice pw lw cw, .slice pt lt ct, .slice ps ls cs, .int .i64 sky, .int .i64 st]] w fun x w' => x = .returned (.bool true) ∧ Below w.heap.size w w' := by
  have A0 : Hid (Ab w ((w.alloc (.cells #[.int .i64 sd, .float .f64 dt, .float .f64 gr, .float .f64 dr, .int .i64 lim, .bool rv, .slice pr lr cr] 25)).alloc (.cells #[.slice pb lb cb, .slice pw lw cw, .slice pt lt ct, .slice ps ls cs, .int .i64 sky, .int .i64 st] 29))) := bl2 _ _ _
  have P0 : Hid (((w.alloc (.cells #[.int .i64 sd, .float .f64 dt, .float .f64 gr, .float .f64 dr, .int .i64 lim, .bool rv, .slice pr lr cr] 25)).alloc (.cells #[.slice pb lb cb, .slice pw lw cw, .slice pt lt ct, .slice ps ls cs, .int .i64 sky, .int .i64 st] 29)).heap[w.heap.size]? = some (.cells #[.int .i64 sd, .float .f64 dt, .float .f64 gr, .float .f64 dr, .int .i64 lim, .bool rv, .slice pr lr cr] 25)) := heap_alloc2_old _ _ _
  have S0 : Hid (((w.alloc (.cells #[.int .i64 sd, .float .f64 dt, .float .f64 gr, .float .f64 dr, .int .i64 lim, .bool rv, .slice pr lr cr] 25)).alloc (.cells #[.slice pb lb cb, .slice pw lw cw, .slice pt lt ct, .slice ps ls cs, .int .i64 sky, .int .i64 st] 29)).heap[w.heap.size + 1]? = some (.cells #[.slice pb lb cb, .slice pw lw cw, .slice pt lt ct, .slice ps ls cs, .int .i64 sky, .int .i64 st] 29)) := heap_alloc2_new _ _ _
  go_enter Tryd.func8, Tryd.ntmps8
  go_upto_region 1 with fail
  obtain ⟨gp, hgp⟩ : ∃ g, w.heap.size = g := ⟨_, rfl⟩
  obtain ⟨gs, hgs⟩ : ∃ g, w.heap.size + 1 = g := ⟨_, rfl⟩
  generalize hW : World.alloc (World.alloc w _) _ = W at *
  rw [hgs] at S0 ⊢
  rw [hgp] at P0 ⊢
  have GPW : Hid (w.heap.size ≤ gp ∧ w.heap.size ≤ gs) := ⟨by omega, by omega⟩
  clear hgp hgs hW
  go_wp2_with fail
  refine (LV.out _ A0.out).mono ?_
  rintro e9 v1 ⟨rfl, k1⟩
  have A1 : Hid (Ab w v1) := A0.out.call k1
  have P1 := hid (Ab.heap k1 P0.out)
  have S1 := hid (Ab.heap k1 S0.out)
  clear k1 A0 P0 S0
  go_wp2_with fail
  refine (new_at n v1 HN.out (HF.out.to A1.out)).mono ?_
  rintro e9 v2 ⟨gb, rfl, a2, -, g2⟩
  have A2 : Hid (Ab w v2) := A1.out.trans a2
  have P2 := hid (Ab.heap a2 P1.out)
  have S2 := hid (Ab.heap a2 S1.out)
  have G2 := hid g2
  clear a2 g2 A1 P1 S1
  have c0 := cell_of_row _ _ 0 _ _ _ S2.out
  have c1 := cell_of_row _ _ 1 _ _ _ S2.out
  have c2 := cell_of_row _ _ 2 _ _ _ S2.out
  have c3 := cell_of_row _ _ 3 _ _ _ S2.out
  have c4 := cell_of_row _ _ 4 _ _ _ S2.out
  have c5 := cell_of_row _ _ 5 _ _ _ S2.out
  go_wp2_with fail
  refine (LG.out _).mono ?_
  rintro e9 v3 ⟨rfl, k1⟩
  have A3 : Hid (Ab w v3) := A2.out.call k1
  have P3 := hid (Ab.heap k1 P2.out)
  have S3 := hid (Ab.heap k1 S2.out)
  have G3 := hid (G2.out.to k1)
  clear k1 A2 P2 S2 G2 c0 c1 c2 c3 c4 c5 LG
  go_wp2
  go_ret
  exact ⟨rfl, A3.out⟩
set_option maxRecDepth 100000 in
set_option maxHeartbeats 32000000 in
theorem keeps16_go (n : Nat) (sd : Int) (dt gr dr : Nat) (lim : Int) (rv : Bool) (pr : Option Addr) (lr cr : Nat) (pb : Option Addr) (lb cb : Nat) (B : Nat → Nat) (pw : Option Addr) (lw cw : Nat) (Wt : Nat → Int) (pt : Option Addr) (lt ct : Nat) (ps : Option Addr) (ls cs : Nat) (Sp : Nat → Nat) (sky st : Int) (Tr : Nat → Int) (l0 : List Nat) (er : Int) (w : World) (HN : Hid (1 ≤ n ∧ n ≤ 32)) (HF : Hid (Fr w)) (HL : Hid (lb ≤ 65536 ∧ lw ≤ 65536 ∧ lt ≤ 65536 ∧ ls ≤ 65536)) (H0 : Hid (l0.length ≤ 65536 ∧ ∀ x ∈ l0, x < 18446744073709551616))
    (LV : Hid (∀ v, Ab w v → Calls Tryd.prog 9 #[] v fun e w' => e = .returned (.bool true) ∧ Below v.heap.size v w'))
    (LG : Hid (∀ v, Calls Tryd.prog 20 #[.agg #[.slice pb lb cb, .slice pw lw cw, .slice pt lt ct, .slice ps ls cs, .int .i64 sky, .int .i64 st]] v fun e w' => e = .returned (.bool false) ∧ Below v.heap.size v w'))
    (SPT : Hid (∀ gb tb tw tt ts v, Ab w v → GridOf n gb v → IsFl v (some ⟨tb, 0, none⟩) lb B → IsIn v (some ⟨tw, 0, none⟩) lw Wt → IsFl v (some ⟨ts, 0, none⟩) ls Sp → Calls Tryd.prog 11 #[.pointer (some ⟨gb, 0, none⟩), .agg #[.int .i64 sd, .float .f64 dt, .float .f64 gr, .float .f64 dr, .int .i64 lim, .bool rv, .slice pr lr cr], .agg #[.slice (some ⟨tb, 0, none⟩) lb (lb + 9), .slice (some ⟨tw, 0, none⟩) lw (lw + 9), .slice (some ⟨tt, 0, none⟩) lt (lt + 9), .slice (some ⟨ts, 0, none⟩) ls (ls + 9), .int .i64 sky, .int .i64 st]] v fun e w' => ∃ u, e = .returned (.tuple #[u, .int .i64 er]) ∧ Below v.heap.size v w' ∧ OwnG v.heap.size u l0 w'))
    (SPS : Hid (∀ gb v, Ab w v → GridOf n gb v → Calls Tryd.prog 11 #[.pointer (some ⟨gb, 0, none⟩), .agg #[.int .i64 sd, .float .f64 dt, .float .f64 gr, .float .f64 dr, .int .i64 lim, .bool rv, .slice pr lr cr], .agg #[.slice pb lb cb, .slice pw lw cw, .slice pt lt ct, .slice ps ls cs, .int .i64 sky, .int .i64 st]] v fun e w' => ∃ u, e = .returned (.tuple #[u, .int .i64 er]) ∧ Below v.heap.size v w' ∧ OwnG v.heap.size u l0 w'))
    (OPT : Hid (∀ gb tb tw tt ts v, Ab w v → GridOf n gb v → IsFl v (some ⟨tb, 0, none⟩) lb B → IsIn v (some ⟨tw, 0, none⟩) lw Wt → IsFl v (some ⟨ts, 0, none⟩) ls Sp → Calls Tryd.prog 15 #[.pointer (some ⟨gb, 0, none⟩), .agg #[.slice (some ⟨tb, 0, none⟩) lb (lb + 9), .slice (some ⟨tw, 0, none⟩) lw (lw + 9), .slice (some ⟨tt, 0, none⟩) lt (lt + 9), .slice (some ⟨ts, 0, none⟩) ls (ls + 9), .int .i64 sky, .int .i64 st], .int .i64 0] v fun e w' => ∃ b, e = .returned (.bool b) ∧ Below v.heap.size v w'))
    (ONT : Hid (∀ gb tb tw tt ts v, Ab w v → GridOf n gb v → IsFl v (some ⟨tb, 0, none⟩) lb B → IsIn v (some ⟨tw, 0, none⟩) lw Wt → IsFl v (some ⟨ts, 0, none⟩) ls Sp → Calls Tryd.prog 18 #[.pointer (some ⟨gb, 0, none⟩), .agg #[.int .i64 sd, .float .f64 dt, .float .f64 gr, .float .f64 dr, .int .i64 lim, .bool rv, .slice pr lr cr], .agg #[.slice (some ⟨tb, 0, none⟩) lb (lb + 9), .slice (some ⟨tw, 0, none⟩) lw (lw + 9), .slice (some ⟨tt, 0, none⟩) lt (lt + 9), .slice (some ⟨ts, 0, none⟩) ls (ls + 9), .int .i64 sky, .int .i64 st], .int .i64 0] v fun e w' => ∃ x, e = .returned (.float .f64 x) ∧ Below v.heap.size v w'))
    (IB : Hid (IsFl w pb lb B)) (IW : Hid (IsIn w pw lw Wt)) (IT : Hid (IsIn w pt lt Tr)) (IS : Hid (IsFl w ps ls Sp)) :
    Calls Tryd.prog 8 #[.int .i64 (n : Nat), .agg #[.int .i64 sd, .float .f64 dt, .float .f64 gr, .float .f64 dr, .int .i64 lim, .bool rv, .slice pr lr cr], .agg #[.slice pb lb cb, .slice pw lw cw, .slice pt lt ct, .slice ps ls cs, .int .i64 sky, .int .i64 st]] w fun x w' => x = .returned (.bool true) ∧ Below w.heap.size w w' := by
  have A0 : Hid (Ab w ((w.alloc (.cells #[.int .i64 sd, .float .f64 dt, .float .f64 gr, .float .f64 dr, .int .i64 lim, .bool rv, .slice pr lr cr] 25)).alloc (.cells #[.slice pb lb cb, .slice pw lw cw, .slice pt lt ct, .slice ps ls cs, .int .i64 sky, .int .i64 st] 29))) := bl2 _ _ _
  have P0 : Hid (((w.alloc (.cells #[.int .i64 sd, .float .f64 dt, .float .f64 gr, .float .f64 dr, .int .i64 lim, .bool rv, .slice pr lr cr] 25)).alloc (.cells #[.slice pb lb cb, .slice pw lw cw, .slice pt lt ct, .slice ps ls cs, .int .i64 sky, .int .i64 st] 29)).heap[w.heap.size]? = some (.cells #[.int .i64 sd, .float .f64 dt, .float .f64 gr, .float .f64 dr, .int .i64 lim, .bool rv, .slice pr lr cr] 25)) := heap_alloc2_old _ _ _
  have S0 : Hid (((w.alloc (.cells #[.int .i64 sd, .float .f64 dt, .float .f64 gr, .float .f64 dr, .int .i64 lim, .bool rv, .slice pr lr cr] 25)).alloc (.cells #[.slice pb lb cb, .slice pw lw cw, .slice pt lt ct, .slice ps ls cs, .int .i64 sky, .int .i64 st] 29)).heap[w.heap.size + 1]? = some (.cells #[.slice pb lb cb, .slice pw lw cw, .slice pt lt ct, .slice ps ls cs, .int .i64 sky, .int .i64 st] 29)) := heap_alloc2_new _ _ _
  go_enter Tryd.func8, Tryd.ntmps8
  go_upto_region 1 with fail
  obtain ⟨gp, hgp⟩ : ∃ g, w.heap.size = g := ⟨_, rfl⟩
  obtain ⟨gs, hgs⟩ : ∃ g, w.heap.size + 1 = g := ⟨_, rfl⟩
  generalize hW : World.alloc (World.alloc w _) _ = W at *
  rw [hgs] at S0 ⊢
  rw [hgp] at P0 ⊢
  have GPW : Hid (w.heap.size ≤ gp ∧ w.heap.size ≤ gs) := ⟨by omega, by omega⟩
  clear hgp hgs hW
  go_wp2_with fail
  refine (LV.out _ A0.out).mono ?_
  rintro e9 v1 ⟨rfl, k1⟩
  have A1 : Hid (Ab w v1) := A0.out.call k1
  have P1 := hid (Ab.heap k1 P0.out)
  have S1 := hid (Ab.heap k1 S0.out)
  clear k1 A0 P0 S0
  go_wp2_with fail
  refine (new_at n v1 HN.out (HF.out.to A1.out)).mono ?_
  rintro e9 v2 ⟨gb, rfl, a2, -, g2⟩
  have A2 : Hid (Ab w v2) := A1.out.trans a2
  have P2 := hid (Ab.heap a2 P1.out)
  have S2 := hid (Ab.heap a2 S1.out)
  have G2 := hid g2
  clear a2 g2 A1 P1 S1
  have c0 := cell_of_row _ _ 0 _ _ _ S2.out
  have c1 := cell_of_row _ _ 1 _ _ _ S2.out
  have c2 := cell_of_row _ _ 2 _ _ _ S2.out
  have c3 := cell_of_row _ _ 3 _ _ _ S2.out
  have c4 := cell_of_row _ _ 4 _ _ _ S2.out
  have c5 := cell_of_row _ _ 5 _ _ _ S2.out
  go_wp2_with fail
  refine (LG.out _).mono ?_
  rintro e9 v3 ⟨rfl, k1⟩
  have A3 : Hid (Ab w v3) := A2.out.call k1
  have P3 := hid (Ab.heap k1 P2.out)
  have S3 := hid (Ab.heap k1 S2.out)
  have G3 := hid (G2.out.to k1)
  clear k1 A2 P2 S2 G2 c0 c1 c2 c3 c4 c5 LG
  have c0 := cell_of_row _ _ 0 _ _ _ S3.out
  have c1 := cell_of_row _ _ 1 _ _ _ S3.out
  have c2 := cell_of_row _ _ 2 _ _ _ S3.out
  have c3 := cell_of_row _ _ 3 _ _ _ S3.out
  have c4 := cell_of_row _ _ 4 _ _ _ S3.out
  have c5 := cell_of_row _ _ 5 _ _ _ S3.out
  go_wp2_with fail
  refine (copied16_at pb pw pt ps lb cb lw cw lt ct ls cs B Wt Tr Sp sky st v3 (IB.out.below A3.out) (IW.out.below A3.out) (IT.out.below A3.out) (IS.out.below A3.out) HL.out).mono ?_
  rintro e9 v4 ⟨tb, tw, tt, ts, rfl, b4, rb, rw_, rt, rs, -⟩
  have X4 : Hid (Ab v3 (v4.alloc (.cells #[.slice (some ⟨tb, 0, none⟩) lb (lb + 9), .slice (some ⟨tw, 0, none⟩) lw (lw + 9), .slice (some ⟨tt, 0, none⟩) lt (lt + 9), .slice (some ⟨ts, 0, none⟩) ls (ls + 9), .int .i64 sky, .int .i64 st] 29))) := Ab.alloc (show Ab v3 v4 from b4) _
  have T4 : Hid ((v4.alloc (.cells #[.slice (some ⟨tb, 0, none⟩) lb (lb + 9), .slice (some ⟨tw, 0, none⟩) lw (lw + 9), .slice (some ⟨tt, 0, none⟩) lt (lt + 9), .slice (some ⟨ts, 0, none⟩) ls (ls + 9), .int .i64 sky, .int .i64 st] 29)).heap[v4.heap.size]? = some (.cells #[.slice (some ⟨tb, 0, none⟩) lb (lb + 9), .slice (some ⟨tw, 0, none⟩) lw (lw + 9), .slice (some ⟨tt, 0, none⟩) lt (lt + 9), .slice (some ⟨ts, 0, none⟩) ls (ls + 9), .int .i64 sky, .int .i64 st] 29)) := heap_alloc_new _ _
  have RB := hid (rb.alloc (.cells #[.slice (some ⟨tb, 0, none⟩) lb (lb + 9), .slice (some ⟨tw, 0, none⟩) lw (lw + 9), .slice (some ⟨tt, 0, none⟩) lt (lt + 9), .slice (some ⟨ts, 0, none⟩) ls (ls + 9), .int .i64 sky, .int .i64 st] 29))
  have RW := hid (rw_.alloc (.cells #[.slice (some ⟨tb, 0, none⟩) lb (lb + 9), .slice (some ⟨tw, 0, none⟩) lw (lw + 9), .slice (some ⟨tt, 0, none⟩) lt (lt + 9), .slice (some ⟨ts, 0, none⟩) ls (ls + 9), .int .i64 sky, .int .i64 st] 29))
  have RT := hid (rt.alloc (.cells #[.slice (some ⟨tb, 0, none⟩) lb (lb + 9), .slice (some ⟨tw, 0, none⟩) lw (lw + 9), .slice (some ⟨tt, 0, none⟩) lt (lt + 9), .slice (some ⟨ts, 0, none⟩) ls (ls + 9), .int .i64 sky, .int .i64 st] 29))
  have RS := hid (rs.alloc (.cells #[.slice (some ⟨tb, 0, none⟩) lb (lb + 9), .slice (some ⟨tw, 0, none⟩) lw (lw + 9), .slice (some ⟨tt, 0, none⟩) lt (lt + 9), .slice (some ⟨ts, 0, none⟩) ls (ls + 9), .int .i64 sky, .int .i64 st] 29))
  clear b4 rb rw_ rt rs c0 c1 c2 c3 c4 c5
  go_upto_region 7 with fail
  generalize hV : World.alloc v4 _ = V4 at *
  obtain ⟨gt, hgt⟩ : ∃ g, v4.heap.size = g := ⟨_, rfl⟩
  rw [hgt] at T4 ⊢
  clear hgt hV
  have W4 : Hid (Ab w V4) := A3.out.trans X4.out
  have S4 := hid (Ab.heap X4.out S3.out)
  have P4 := hid (Ab.heap X4.out P3.out)
  have G4 := hid (G3.out.to X4.out)
  clear X4 A3 S3 P3 G3
  have TB : Hid (∀ v, Ab V4 v → IsFl v (some ⟨tb, 0, none⟩) lb B) := fun v hv => mk_fl (rowIs.ab RB.out hv) (fun k hk => (IB.out k hk).1)
  have TW : Hid (∀ v, Ab V4 v → IsIn v (some ⟨tw, 0, none⟩) lw Wt) := fun v hv => mk_in (rowIs.ab RW.out hv) (fun k hk => (IW.out k hk).1)
  have TS : Hid (∀ v, Ab V4 v → IsFl v (some ⟨ts, 0, none⟩) ls Sp) := fun v hv => mk_fl (rowIs.ab RS.out hv) (fun k hk => (IS.out k hk).1)
  have p0 := cell_of_row _ _ 0 _ _ _ P4.out
  have p1 := cell_of_row _ _ 1 _ _ _ P4.out
  have p2 := cell_of_row _ _ 2 _ _ _ P4.out
  have p3 := cell_of_row _ _ 3 _ _ _ P4.out
  have p4 := cell_of_row _ _ 4 _ _ _ P4.out
  have p5 := cell_of_row _ _ 5 _ _ _ P4.out
  have p6 := cell_of_row _ _ 6 _ _ _ P4.out
  have t0 := cell_of_row _ _ 0 _ _ _ T4.out
  have t1 := cell_of_row _ _ 1 _ _ _ T4.out
  have t2 := cell_of_row _ _ 2 _ _ _ T4.out
  have t3 := cell_of_row _ _ 3 _ _ _ T4.out
  have t4 := cell_of_row _ _ 4 _ _ _ T4.out
  have t5 := cell_of_row _ _ 5 _ _ _ T4.out
  go_wp2_with fail
  refine (SPT.out gb tb tw tt ts V4 W4.out G4.out (TB.out _ (Ab.refl _)) (TW.out _ (Ab.refl _)) (TS.out _ (Ab.refl _))).mono ?_
  rintro e9 v5 ⟨u1, rfl, b5, o5⟩
  obtain ⟨a0, ca, rfl, ia⟩ := o5.fl H0.out.2
  have A5 : Hid (Ab V4 v5) := b5
  have O5 := hid o5
  have I5 := hid ia
  clear b5 o5 ia p0 p1 p2 p3 p4 p5 p6 t0 t1 t2 t3 t4 t5
  have p0 := cell_of_row _ _ 0 _ _ _ (A5.out.heap P4.out)
  have p1 := cell_of_row _ _ 1 _ _ _ (A5.out.heap P4.out)
  have p2 := cell_of_row _ _ 2 _ _ _ (A5.out.heap P4.out)
  have p3 := cell_of_row _ _ 3 _ _ _ (A5.out.heap P4.out)
  have p4 := cell_of_row _ _ 4 _ _ _ (A5.out.heap P4.out)
  have p5 := cell_of_row _ _ 5 _ _ _ (A5.out.heap P4.out)
  have p6 := cell_of_row _ _ 6 _ _ _ (A5.out.heap P4.out)
  have t0 := cell_of_row _ _ 0 _ _ _ (A5.out.heap T4.out)
  have t1 := cell_of_row _ _ 1 _ _ _ (A5.out.heap T4.out)
  have t2 := cell_of_row _ _ 2 _ _ _ (A5.out.heap T4.out)
  have t3 := cell_of_row _ _ 3 _ _ _ (A5.out.heap T4.out)
  have t4 := cell_of_row _ _ 4 _ _ _ (A5.out.heap T4.out)
  have t5 := cell_of_row _ _ 5 _ _ _ (A5.out.heap T4.out)
  go_wp2_with fail
  refine (SPT.out gb tb tw tt ts v5 (W4.out.trans A5.out) (G4.out.to A5.out) (TB.out _ A5.out) (TW.out _ A5.out) (TS.out _ A5.out)).mono ?_
  rintro e9 v6 ⟨u2, rfl, b6, o6⟩
  obtain ⟨b0, cb2, rfl, ib⟩ := o6.fl H0.out.2
  have A6 : Hid (Ab V4 v6) := A5.out.call b6
  have A56 : Hid (Ab v5 v6) := b6
  have O6 := hid o6
  have I6 := hid ib
  clear b6 o6 ib p0 p1 p2 p3 p4 p5 p6 t0 t1 t2 t3 t4 t5
  have t0 := cell_of_row _ _ 0 _ _ _ (A6.out.heap T4.out)
  have t1 := cell_of_row _ _ 1 _ _ _ (A6.out.heap T4.out)
  have t2 := cell_of_row _ _ 2 _ _ _ (A6.out.heap T4.out)
  have t3 := cell_of_row _ _ 3 _ _ _ (A6.out.heap T4.out)
  have t4 := cell_of_row _ _ 4 _ _ _ (A6.out.heap T4.out)
  have t5 := cell_of_row _ _ 5 _ _ _ (A6.out.heap T4.out)
  go_wp2_with fail
  refine (OPT.out gb tb tw tt ts v6 (W4.out.trans A6.out) (G4.out.to A6.out) (TB.out _ A6.out) (TW.out _ A6.out) (TS.out _ A6.out)).mono ?_
  rintro e9 v7 ⟨bq, rfl, b7⟩
  have A7 : Hid (Ab V4 v7) := A6.out.call b7
  have A67 : Hid (Ab v6 v7) := b7
  clear b7 t0 t1 t2 t3 t4 t5
  have p0 := cell_of_row _ _ 0 _ _ _ (A7.out.heap P4.out)
  have p1 := cell_of_row _ _ 1 _ _ _ (A7.out.heap P4.out)
  have p2 := cell_of_row _ _ 2 _ _ _ (A7.out.heap P4.out)
  have p3 := cell_of_row _ _ 3 _ _ _ (A7.out.heap P4.out)
  have p4 := cell_of_row _ _ 4 _ _ _ (A7.out.heap P4.out)
  have p5 := cell_of_row _ _ 5 _ _ _ (A7.out.heap P4.out)
  have p6 := cell_of_row _ _ 6 _ _ _ (A7.out.heap P4.out)
  have t0 := cell_of_row _ _ 0 _ _ _ (A7.out.heap T4.out)
  have t1 := cell_of_row _ _ 1 _ _ _ (A7.out.heap T4.out)
  have t2 := cell_of_row _ _ 2 _ _ _ (A7.out.heap T4.out)
  have t3 := cell_of_row _ _ 3 _ _ _ (A7.out.heap T4.out)
  have t4 := cell_of_row _ _ 4 _ _ _ (A7.out.heap T4.out)
  have t5 := cell_of_row _ _ 5 _ _ _ (A7.out.heap T4.out)
  go_wp2_with fail
  refine (ONT.out gb tb tw tt ts v7 (W4.out.trans A7.out) (G4.out.to A7.out) (TB.out _ A7.out) (TW.out _ A7.out) (TS.out _ A7.out)).mono ?_
  rintro e9 v8 ⟨xq, rfl, b8⟩
  have A8 : Hid (Ab V4 v8) := A7.out.call b8
  have A68 : Hid (Ab v6 v8) := A67.out.call b8
  clear b8 p0 p1 p2 p3 p4 p5 p6 t0 t1 t2 t3 t4 t5 A67
  go_wp2_with fail
  refine (all12_at a0 b0 l0.length ca cb2 _ v8 (by have := H0.out; omega) ((I5.out.below A56.out).below A68.out) (I6.out.below A68.out)).mono ?_
  rintro e9 v9 ⟨rfl, b9⟩
  have A9 : Hid (Ab V4 v9) := A8.out.call b9
  have A69 : Hid (Ab v6 v9) := A68.out.call b9
  clear b9
  have t0 := cell_of_row _ _ 0 _ _ _ (A9.out.heap T4.out)
  have t1 := cell_of_row _ _ 1 _ _ _ (A9.out.heap T4.out)
  have t2 := cell_of_row _ _ 2 _ _ _ (A9.out.heap T4.out)
  have t3 := cell_of_row _ _ 3 _ _ _ (A9.out.heap T4.out)
  have t4 := cell_of_row _ _ 4 _ _ _ (A9.out.heap T4.out)
  have t5 := cell_of_row _ _ 5 _ _ _ (A9.out.heap T4.out)
  have c0 := cell_of_row _ _ 0 _ _ _ (A9.out.heap S4.out)
  have c1 := cell_of_row _ _ 1 _ _ _ (A9.out.heap S4.out)
  have c2 := cell_of_row _ _ 2 _ _ _ (A9.out.heap S4.out)
  have c3 := cell_of_row _ _ 3 _ _ _ (A9.out.heap S4.out)
  have c4 := cell_of_row _ _ 4 _ _ _ (A9.out.heap S4.out)
  have c5 := cell_of_row _ _ 5 _ _ _ (A9.out.heap S4.out)
  go_wp2_with fail
  refine (still16_at tb tw tt ts pb pw pt ps lb cb lw cw lt ct ls cs sky st v9 (rowIs.ab RB.out A9.out) (rowIs.ab RW.out A9.out) (rowIs.ab RT.out A9.out) (rowIs.ab RS.out A9.out) HL.out (IB.out.below (W4.out.trans A9.out)) (IW.out.below (W4.out.trans A9.out)) (IT.out.below (W4.out.trans A9.out)) (IS.out.below (W4.out.trans A9.out))).mono ?_
  rintro e9 v10 ⟨rfl, b9⟩
  have A10 : Hid (Ab V4 v10) := A9.out.call b9
  have A610 : Hid (Ab v6 v10) := A69.out.call b9
  clear b9 c0 c1 c2 c3 c4 c5 t0 t1 t2 t3 t4 t5
  go_wp2_with fail
  refine (rcopied16 b0 l0.length cb2 _ v10 (by have := H0.out; omega) (I6.out.below A610.out)).mono ?_
  rintro e9 V ⟨bw, rfl, b11, rw1, lw1⟩
  have AV : Hid (Ab V4 V) := A10.out.call b11
  have A6V : Hid (Ab v6 V) := A610.out.call b11
  obtain ⟨ba, y1, y2, y3, y4⟩ := own_blk (T := V.heap.size) O5.out (Ab.size AV.out)
  have OA := hid ((O5.out.to A56.out).to A6V.out)
  have IB2 := hid (I6.out.below A6V.out)
  have IW2 := hid (rowIs.fl rw1 (fun i hi => by
    have e : l0.getD i 0 = l0[i] := by simp [List.getD, hi]
    rw [e]
    exact H0.out.2 _ (List.getElem_mem _)))
  have NB : Hid ((∀ b o, b0 = some ⟨b, o, none⟩ → b ≠ ba) ∧ bw ≠ ba) := by
    refine ⟨fun b o e => ?_, ?_⟩
    · subst e
      have h1 := Ab.size A6V.out
      rcases O6.out.2 with ⟨q, _⟩ | ⟨g2, c2, cur, q, hb, hg, _⟩
      · cases q
      · injection q with q1 q2 q3
        injection q1 with q4
        injection q4 with q5
        have h2 := lt_of_block hg
        rcases y3 with h | ⟨h, _⟩ <;> omega
    · have h1 := Ab.size A56.out
      have h2 := Ab.size A610.out
      have h3 := rw1.lt
      rcases y3 with h | ⟨h, _⟩ <;> omega
  have Y1 := hid y1
  have Y2 := hid y2
  have Y4 := hid y4
  clear b11 rw1 lw1 y1 y2 y3 y4 O5 I5 O6 I6 A5 A6 A56 A7 A8 A9 A10 A68 A69 A610 A6V
  go_upto_region 14 with fail
  go_wp2
  go_loopw [15] (fun iv wr => ∃ (c : Nat) (l : List Nat), c ≤ l0.length ∧ iv = .int .i64 (c : Nat) ∧ l.length = l0.length ∧ OwnG V4.heap.size (.slice a0 l0.length ca) l wr ∧ Abo V ba wr) (fun iv _ => l0.length - (intOf iv).toNat)
  case atStart => exact ⟨0, l0, by omega, rfl, rfl, OA.out, Abo.refl _ _⟩
  case round =>
    obtain ⟨c, l, hc, rfl, hl, ow, ao⟩ := hrel
    have OX := hid ow
    have AO := hid ao
    have HL2 := hid hl
    clear ow ao hl OA
    by_cases hcN : c < l0.length
    · have HC := hid hcN
      have hcI : (c : Int) < l0.length := by omega
      have hcB : (c : Int) ≤ 65536 := by have := H0.out; omega
      have ea := Y4.out (by omega)
      subst ea
      obtain ⟨g, cap2, Fl, e1, e2, e3, e4, r1, hf⟩ := ownG_row OX.out (by rw [HL2.out]; omega)
      injection e1 with e5 e6 e7
      injection e5 with e8
      injection e8 with e9
      subst e9
      have xc := r1.cell (i := c) (by rw [HL2.out] at e3; omega)
      have xf := r1.frozen c
      have ES := hid (ownG_set OX.out HL2.out hcN 4635118810238550016)
      clear e2 e3 e4 r1 hf e6 e7 hcN hc
      obtain ⟨xv, hxv⟩ : ∃ v, Fl c = v := ⟨_, rfl⟩
      rw [hxv] at xc
      clear hxv
      go_wp2
      exact ⟨⟨c + 1, l.set c 4635118810238550016, by have := HC.out; omega, by simp, by rw [List.length_set]; exact HL2.out, ES.out, abo_put AO.out⟩, by have := HC.out; simp [intOf]; omega⟩
    · have e6 : l0.length = c := by omega
      have E6 := hid e6
      clear e6 hcN hc
      have hcI : ¬ ((c : Int) < (l0.length : Int)) := by have := E6.out; omega
      go_upto_region 18 with fail
      go_wp2
      go_loopw [10, 16] (fun av iv w5 => ∃ (k : Nat) (l : List Nat), k ≤ 16 ∧ iv = .int .i64 (k : Nat) ∧ l.length = l0.length + k ∧ OwnG V4.heap.size av l w5 ∧ (∀ g, av.ownBlock = some g → g = ba ∨ V.heap.size ≤ g) ∧ Abo V ba w5) (fun _ iv _ => 16 - (intOf iv).toNat)
      case atStart => exact ⟨0, l, by omega, rfl, by rw [HL2.out]; rfl, OX.out, fun g hg => .inl (Y1.out g hg), AO.out⟩
      case round =>
        obtain ⟨k, l, hk, rfl, hl, ow, hg, ao⟩ := hrel
        have OY := hid ow
        have HG := hid hg
        have AO2 := hid ao
        have HK := hid hl
        clear ow hg ao hl OX AO
        by_cases hk16 : k < 16
        · have hkI : (k : Int) < 16 := by omega
          have hkB : (0 : Int) ≤ (k : Int) := by omega
          have HK2 := hid hk16
          have N1 : Hid (∀ j u, (([4635189178982727680] : List Nat).map (Value.float .f64))[j]? = some u → (wr.alloc (.cells #[.float .f64 4635189178982727680] 22)).cell? ((⟨wr.heap.size, 0, none⟩ : Addr).add j) = some u) := World.news_of_block (cs := #[.float .f64 4635189178982727680]) (t := 22) (fr := (0, 0)) (heap_alloc_new wr _)
          have O2 := hid (ownG_alloc OY.out (.cells #[.float .f64 4635189178982727680] 22))
          have LS : Hid (V4.heap.size ≤ (wr.alloc (.cells #[.float .f64 4635189178982727680] 22)).heap.size ∧ V.heap.size ≤ (wr.alloc (.cells #[.float .f64 4635189178982727680] 22)).heap.size) := by
            have h1 := AO2.out.2.2.2.1
            have h2 := Ab.size AV.out
            have h3 : (wr.alloc (.cells #[.float .f64 4635189178982727680] 22)).heap.size = wr.heap.size + 1 := by
              show (wr.heap.push _).size = _
              simp
            exact ⟨by omega, by omega⟩
          clear hk16
          go_wp2_with (first
            | (at_builtin; refine wpList_appG rfl (.tmp 84) (.tmp 85) rfl V4.heap.size _ l rfl O2.out ⟨wr.heap.size, 0, none⟩ 1 1 [4635189178982727680] rfl rfl N1.out (by decide) (by have := HK.out; have := HK2.out; have := H0.out; omega) LS.out.1 (l.length + 1) rfl ?_; intro g1 c1 w1 o1 x1 y1 _; have O1 := hid o1; have X1 := hid x1; have Z1 := hid y1; clear o1 x1 y1))
          refine ⟨⟨k + 1, l ++ [4635189178982727680], by have := HK2.out; omega, by simp, by have := HK.out; simp; omega, O1.out, fun g hg => ?_, AO2.out.grown X1.out HG.out⟩, by have := HK2.out; simp [intOf]; omega⟩
          have e : g1 = g := by simpa [Value.ownBlock] using hg
          subst e
          rcases Z1.out with h | h
          · exact HG.out _ h
          · exact .inr (by rw [h]; exact LS.out.2)
        · have e6 : k = 16 := by omega
          subst e6
          have AE : Hid (Ab V4 wr) := Abo.ab AO2.out AV.out Y2.out
          have WE : Hid (Ab w wr) := W4.out.trans AE.out
          have p0 := cell_of_row _ _ 0 _ _ _ (AE.out.heap P4.out)
          have p1 := cell_of_row _ _ 1 _ _ _ (AE.out.heap P4.out)
          have p2 := cell_of_row _ _ 2 _ _ _ (AE.out.heap P4.out)
          have p3 := cell_of_row _ _ 3 _ _ _ (AE.out.heap P4.out)
          have p4 := cell_of_row _ _ 4 _ _ _ (AE.out.heap P4.out)
          have p5 := cell_of_row _ _ 5 _ _ _ (AE.out.heap P4.out)
          have p6 := cell_of_row _ _ 6 _ _ _ (AE.out.heap P4.out)
          have c0 := cell_of_row _ _ 0 _ _ _ (AE.out.heap S4.out)
          have c1 := cell_of_row _ _ 1 _ _ _ (AE.out.heap S4.out)
          have c2 := cell_of_row _ _ 2 _ _ _ (AE.out.heap S4.out)
          have c3 := cell_of_row _ _ 3 _ _ _ (AE.out.heap S4.out)
          have c4 := cell_of_row _ _ 4 _ _ _ (AE.out.heap S4.out)
          have c5 := cell_of_row _ _ 5 _ _ _ (AE.out.heap S4.out)
          go_wp2_with fail
          refine (SPS.out gb wr WE.out (G4.out.to AE.out)).mono ?_
          rintro e9 z1 ⟨u3, rfl, b10, o10⟩
          obtain ⟨d0, cd, rfl, id⟩ := o10.fl H0.out.2
          have B1 : Hid (Ab wr z1) := b10
          have J3 := hid id
          clear b10 o10 id p0 p1 p2 p3 p4 p5 p6 c0 c1 c2 c3 c4 c5
          have J1 := hid ((isFl_abo IB2.out AO2.out NB.out.1).below B1.out)
          have J2 := hid ((isFl_abo IW2.out AO2.out (fun b o e => by injection e with e; injection e with e; subst e; exact NB.out.2)).below B1.out)
          go_wp2_with fail
          refine (all12_at b0 (some ⟨bw, 0, none⟩) l0.length cb2 l0.length _ z1 (by have := H0.out; omega) J1.out J2.out).mono ?_
          rintro e9 z2 ⟨rfl, b11⟩
          have B2 : Hid (Ab z1 z2) := b11
          clear b11
          go_wp2_with fail
          refine (all12_at d0 (some ⟨bw, 0, none⟩) l0.length cd l0.length _ z2 (by have := H0.out; omega) (J3.out.below B2.out) (J2.out.below B2.out)).mono ?_
          rintro e9 z3 ⟨rfl, b12⟩
          have B3 : Hid (Ab z2 z3) := b12
          clear b12
          go_wp2
          go_ret
          exact ⟨rfl, WE.out.trans (B1.out.trans (B2.out.trans B3.out))⟩
/-- WHAT IS HANDED IN STAYS -/
theorem keeps16_at (OC : OpenC) (SC : SpeedsC) (VC : SpeedC) (side : Int) (sd : Int) (dt gr dr : Nat) (lim : Int) (rv : Bool) (pr : Option Addr) (lr cr : Nat) (pb : Option Addr) (lb cb : Nat) (B : Nat → Nat) (pw : Option Addr) (lw cw : Nat) (Wt : Nat → Int) (pt : Option Addr) (lt ct : Nat) (ps : Option Addr) (ls cs : Nat) (Sp : Nat → Nat) (sky st : Int) (Tr : Nat → Int) (w : World) (hF : Fr w) (IB : IsFl w pb lb B) (IW : IsIn w pw lw Wt) (IS : IsFl w ps ls Sp) (hp : dt < 18446744073709551616 ∧ gr < 18446744073709551616 ∧ dr < 18446744073709551616) (IT : IsIn w pt lt Tr) :
    Calls Tryd.prog 8 #[.int .i64 side, .agg #[.int .i64 sd, .float .f64 dt, .float .f64 gr, .float .f64 dr, .int .i64 lim, .bool rv, .slice pr lr cr], .agg #[.slice pb lb cb, .slice pw lw cw, .slice pt lt ct, .slice ps ls cs, .int .i64 sky, .int .i64 st]] w fun x w' => x = .returned (.bool true) ∧ Below w.heap.size w w' := by
  by_cases hs : 1 ≤ side ∧ side ≤ 32
  · obtain ⟨n, rfl⟩ : ∃ n : Nat, side = n := ⟨side.toNat, by omega⟩
    have hn : 1 ≤ n ∧ n ≤ 32 := by omega
    obtain ⟨m1, m2, m3, m4⟩ := n6_16 hn
    by_cases hl : 65536 < lb ∨ 65536 < lw ∨ 65536 < lt ∨ 65536 < ls
    · exact keeps16_long n sd dt gr dr lim rv pr lr cr pb lb cb pw lw cw pt lt ct ps ls cs sky st w hn hF (fun v hv => lives16_at OC SC v (hF.to hv)) (fun v => by
        have h := long16_at pb pw pt ps lb cb lw cw lt ct ls cs sky st v
        rw [decide_eq_true hl] at h
        exact h)
    · have LG : ∀ v, Calls Tryd.prog 20 #[.agg #[.slice pb lb cb, .slice pw lw cw, .slice pt lt ct, .slice ps ls cs, .int .i64 sky, .int .i64 st]] v fun e w' => e = .returned (.bool false) ∧ Below v.heap.size v w' := fun v => by
        have h := long16_at pb pw pt ps lb cb lw cw lt ct ls cs sky st v
        rw [decide_eq_false hl] at h
        exact h
      have key : ∀ (l0 : List Nat) (er : Int), (l0.length ≤ 65536 ∧ ∀ x ∈ l0, x < 18446744073709551616) →
          (∀ (gb : Nat) (pb' : Option Addr) (cb' : Nat) (pw' : Option Addr) (cw' : Nat) (pt' : Option Addr) (ct' : Nat) (ps' : Option Addr) (cs' : Nat) (v : World), GridOf n gb v → IsFl v pb' lb B → IsIn v pw' lw Wt → IsFl v ps' ls Sp → Calls Tryd.prog 11 #[.pointer (some ⟨gb, 0, none⟩), .agg #[.int .i64 sd, .float .f64 dt, .float .f64 gr, .float .f64 dr, .int .i64 lim, .bool rv, .slice pr lr cr], .agg #[.slice pb' lb cb', .slice pw' lw cw', .slice pt' lt ct', .slice ps' ls cs', .int .i64 sky, .int .i64 st]] v fun e w' => ∃ u, e = .returned (.tuple #[u, .int .i64 er]) ∧ Below v.heap.size v w' ∧ OwnG v.heap.size u l0 w') →
          Calls Tryd.prog 8 #[.int .i64 (n : Nat), .agg #[.int .i64 sd, .float .f64 dt, .float .f64 gr, .float .f64 dr, .int .i64 lim, .bool rv, .slice pr lr cr], .agg #[.slice pb lb cb, .slice pw lw cw, .slice pt lt ct, .slice ps ls cs, .int .i64 sky, .int .i64 st]] w fun x w' => x = .returned (.bool true) ∧ Below w.heap.size w w' := fun l0 er h0 K => by
        refine keeps16_go n sd dt gr dr lim rv pr lr cr pb lb cb B pw lw cw Wt pt lt ct ps ls cs Sp sky st Tr l0 er w hn hF (hid ⟨by omega, by omega, by omega, by omega⟩) h0 (fun v hv => lives16_at OC SC v (hF.to hv)) LG (fun gb tb tw tt ts v _ g i1 i2 i3 => K gb _ (lb + 9) _ (lw + 9) _ (lt + 9) _ (ls + 9) v g i1 i2 i3) (fun gb v hv g => K gb pb cb pw cw pt ct ps cs v g (IB.below hv) (IW.below hv) (IS.below hv)) (fun gb tb tw tt ts v _ g i1 i2 i3 => ?_) (fun gb tb tw tt ts v _ g i1 i2 i3 => ?_) IB IW IT IS
        · have h := OC n gb _ lb (lb + 9) B _ lw (lw + 9) Wt (some ⟨tt, 0, none⟩) lt (lt + 9) (some ⟨ts, 0, none⟩) ls (ls + 9) sky st 0 v hn g i1 i2 ⟨_, i3⟩ (by omega)
          by_cases q : has4 n lb lw lt ls 0
          · exact (h.1 q).mono fun _ _ h => ⟨_, h⟩
          · exact (h.2 q).mono fun _ _ h => ⟨_, h⟩
        · have h := VC n gb sd dt gr dr lim rv pr lr cr _ lb (lb + 9) B _ lw (lw + 9) Wt (some ⟨tt, 0, none⟩) lt (lt + 9) _ ls (ls + 9) Sp sky st 0 v hn g i1 i2 i3 hp (by omega)
          by_cases q : has4 n lb lw lt ls 0
          · exact (h.1 q).mono fun _ _ h => ⟨_, h⟩
          · exact (h.2 q).mono fun _ _ h => ⟨_, h⟩
      by_cases hf : fit4 n lb lw lt ls
      · refine key ((List.range (12 * n * n)).map (spE n gr dt dr B Wt Sp)) 0 ⟨by simpa using m2, fun x hx => ?_⟩ (fun gb pb' cb' pw' cw' pt' ct' ps' cs' v g i1 i2 i3 => (SC n gb sd dt gr dr lim rv pr lr cr pb' lb cb' B pw' lw cw' Wt pt' lt ct' ps' ls cs' Sp sky st v hn g i1 i2 i3 hp).1 hf)
        obtain ⟨i, _, rfl⟩ := List.mem_map.1 hx
        exact (spE_in n gr dt dr B Wt Sp i).1
      · refine key [] 1 ⟨by simp, fun x hx => by simp at hx⟩ (fun gb pb' cb' pw' cw' pt' ct' ps' cs' v g i1 i2 i3 => ((SC n gb sd dt gr dr lim rv pr lr cr pb' lb cb' B pw' lw cw' Wt pt' lt ct' ps' ls cs' Sp sky st v hn g i1 i2 i3 hp).2 hf).mono ?_)
        rintro e w' ⟨rfl, b⟩
        exact ⟨_, rfl, b, by simp, .inl ⟨rfl, rfl⟩⟩
  · exact keeps16_side side sd dt gr dr lim rv pr lr cr pb lb cb pw lw cw pt lt ct ps ls cs sky st w hs (fun v hv => lives16_at OC SC v (hF.to hv))
end Fc
end Go.Proofs.YtpfoohpncbkkfaaDoor

namespace Go.Proofs.YtpfoohpncbkkfaaDoor
open Go.RowKit
namespace Rl
/-- what the operations left, one more -/
def updV (x : Nat → Value) (i : Nat) (v : Value) : Nat → Value := fun j => if j = i then v else x j
/-- the frame behind them -/
def putAll : List Oper → Nat → (Nat → Value) → Act → Act
  | [], _, _, a => a
  | o :: r, i, x, a => putAll r (i + 1) x (a.put o.dst (x i))
/-- whether an operation waits for another -/
def depB (o : Oper) (j : Nat) : Bool := o.after.any fun e => e.on == j && Region.binds .any e
/-- each operation, from whatever its forerunners left -/
def relAll (P : Program) (l : List Oper) (a : Act) (R : Nat → Value → Prop) (C : World → Prop) (Q : Exit → Act → World → Prop) : Nat → List Oper → Prop
  | _, [] => True
  | i, o :: rest => (∀ (x : Nat → Value) (w : World), C w → (∀ j, depB o j = true → R j (x j)) → ∀ K : Act → World → Prop, Hid (∀ v w', R i v → C w' → K ((putAll l 0 x a).put o.dst v) w') → o.wp P (putAll l 0 x a) w K Q) ∧ relAll P l a R C Q (i + 1) rest
theorem rel_cons {P : Program} {l : List Oper} {a : Act} {R : Nat → Value → Prop} {C : World → Prop} {Q : Exit → Act → World → Prop} {i : Nat} {o : Oper} {rest : List Oper} (j : Nat) (Ri : Value → Prop) (hRi : R i = Ri) (hj : i + 1 = j)
    (h : ∀ (x : Nat → Value) (w : World), C w → (∀ k, depB o k = true → R k (x k)) → ∀ K : Act → World → Prop, Hid (∀ v w', Ri v → C w' → K ((putAll l 0 x a).put o.dst v) w') → o.wp P (putAll l 0 x a) w K Q)
    (t : relAll P l a R C Q j rest) : relAll P l a R C Q i (o :: rest) := by
  subst hRi
  subst hj
  exact ⟨h, t⟩
theorem rel_nil {P : Program} {l : List Oper} {a : Act} {R : Nat → Value → Prop} {C : World → Prop} {Q : Exit → Act → World → Prop} {i : Nat} : relAll P l a R C Q i [] := trivial
/-- no slot is written twice, nothing is guarded -/
def plainB : List Oper → Bool
  | [] => true
  | o :: r => o.guard.isNone && (match o.dst with | some d => r.all (fun p => p.dst != some d) | none => true) && plainB r
theorem put_put (a : Act) (d : Option Tmp) (u v : Value) : (a.put d u).put d v = a.put d v := by
  cases d with
  | none => rfl
  | some d => simp [Act.put]
theorem putAll_later : ∀ (l : List Oper) (i : Nat) (x : Nat → Value) (k : Nat) (v : Value) (a : Act), k < i → putAll l i (updV x k v) a = putAll l i x a
  | [], _, _, _, _, _, _ => rfl
  | o :: r, i, x, k, v, a, h => by
    show putAll r (i + 1) (updV x k v) (a.put o.dst (updV x k v i)) = putAll r (i + 1) x (a.put o.dst (x i))
    have e : updV x k v i = x i := by unfold updV; rw [if_neg (by omega)]
    rw [e, putAll_later r (i + 1) x k v _ (by omega)]
theorem putAll_put : ∀ (l : List Oper) (i : Nat) (x : Nat → Value) (a : Act) (d : Option Tmp) (v : Value), (∀ t, d = some t → l.all (fun p => p.dst != some t) = true) → putAll l i x (a.put d v) = (putAll l i x a).put d v
  | [], _, _, _, _, _, _ => rfl
  | o :: r, i, x, a, d, v, h => by
    show putAll r (i + 1) x ((a.put d v).put o.dst (x i)) = (putAll r (i + 1) x (a.put o.dst (x i))).put d v
    rw [Act.put_comm a v (x i) (fun t ht => by have := h t ht; simp at this; exact this.1)]
    exact putAll_put r (i + 1) x _ d v (fun t ht => by have := h t ht; simp at this ⊢; exact this.2)
theorem putAll_upd : ∀ (l : List Oper) (i : Nat) (x : Nat → Value) (a : Act) (k : Nat) (o : Oper) (v : Value), plainB l = true → l[k]? = some o → putAll l i (updV x (i + k) v) a = (putAll l i x a).put o.dst v
  | [], _, _, _, _, _, _, _, h => by simp at h
  | p :: r, i, x, a, 0, o, v, hp, h => by
    simp at h
    subst h
    show putAll r (i + 1) (updV x i v) (a.put p.dst (updV x i v i)) = (putAll r (i + 1) x (a.put p.dst (x i))).put p.dst v
    have e : updV x i v i = v := by unfold updV; rw [if_pos rfl]
    simp only [plainB, Bool.and_eq_true] at hp
    rw [e, putAll_later r (i + 1) x i v _ (by omega), ← putAll_put r (i + 1) x _ p.dst v (fun t ht => by have := hp.1.2; rw [ht] at this; exact this), put_put]
  | p :: r, i, x, a, k + 1, o, v, hp, h => by
    simp at h
    simp only [plainB, Bool.and_eq_true] at hp
    show putAll r (i + 1) (updV x (i + (k + 1)) v) (a.put p.dst (updV x (i + (k + 1)) v i)) = (putAll r (i + 1) x (a.put p.dst (x i))).put o.dst v
    have e : updV x (i + (k + 1)) v i = x i := by unfold updV; rw [if_neg (by omega)]
    rw [e, show i + (k + 1) = i + 1 + k by omega]
    exact putAll_upd r (i + 1) x _ k o v hp.2 h
theorem put_own (a : Act) (d : Option Tmp) : a.put d (match d with | some t => a.tmps.getD t undef | none => undef) = a := by
  cases d with
  | none => rfl
  | some t =>
    show { a with tmps := a.tmps.setIfInBounds t (a.tmps.getD t undef) } = a
    have : a.tmps.setIfInBounds t (a.tmps.getD t undef) = a.tmps := by
      by_cases h : t < a.tmps.size
      · refine Array.ext (by simp) fun i h1 h2 => ?_
        rw [Array.getElem_setIfInBounds (by simpa using h2)]
        split
        · rename_i e; subst e; simp
        · rfl
      · exact Array.setIfInBounds_eq_of_size_le (Nat.le_of_not_lt h)
    rw [this]
/-- nothing is done: the frame is as it was -/
theorem putAll_own : ∀ (l : List Oper) (i : Nat) (a : Act), ∃ x, putAll l i x a = a
  | [], _, _ => ⟨fun _ => undef, rfl⟩
  | o :: r, i, a => by
    obtain ⟨x, hx⟩ := putAll_own r (i + 1) a
    refine ⟨updV x i (match o.dst with | some t => a.tmps.getD t undef | none => undef), ?_⟩
    show putAll r (i + 1) _ (a.put o.dst (updV x i _ i)) = a
    have e : ∀ v, updV x i v i = v := fun v => by unfold updV; rw [if_pos rfl]
    rw [e, put_own, putAll_later r (i + 1) x i _ _ (by omega), hx]
theorem relAll_at {P : Program} {l : List Oper} {a : Act} {R : Nat → Value → Prop} {C : World → Prop} {Q : Exit → Act → World → Prop} : ∀ (r : List Oper) (i k : Nat) (o : Oper), relAll P l a R C Q i r → r[k]? = some o →
    ∀ (x : Nat → Value) (w : World), C w → (∀ j, depB o j = true → R j (x j)) → ∀ K : Act → World → Prop, (∀ v w', R (i + k) v → C w' → K ((putAll l 0 x a).put o.dst v) w') → o.wp P (putAll l 0 x a) w K Q
  | [], _, _, _, _, h => by simp at h
  | p :: r, i, 0, o, h, he => by
    simp at he
    subst he
    exact fun x w hC hR K hK => h.1 x w hC hR K hK
  | p :: r, i, k + 1, o, h, he => by
    simp at he
    have := relAll_at r (i + 1) k o h.2 he
    rw [show i + 1 + k = i + (k + 1) by omega] at this
    exact this
/-- what is known on the way -/
def Inv (l : List Oper) (a : Act) (R : Nat → Value → Prop) (C : World → Prop) (listed : Array Bool) (b : Act) (w : World) : Prop :=
  ∃ x, b = putAll l 0 x a ∧ C w ∧ ∀ i, listed.getD i false = true → R i (x i)
theorem wpAny_rel {P : Program} {l : List Oper} {a : Act} {R : Nat → Value → Prop} {C : World → Prop} {Q : Exit → Act → World → Prop} (hp : plainB l = true) (hb : backB .any l.toArray l.length = true)
    (H : relAll P l a R C Q 0 l) (fin : ∀ (x : Nat → Value) (w : World), C w → (∀ i, i < l.length → R i (x i)) → Q .normal (putAll l 0 x a) w) :
    ∀ (fuel : Nat) (listed : Array Bool) (b : Act) (w : World), listed.size = l.length → l.length ≤ fuel + (listed.toList.filter id).length → Inv l a R C listed b w → wpAny P .any l.toArray Q fuel listed b w := by
  have guard : ∀ {i : Nat} {o : Oper}, l[i]? = some o → o.guard = none := by
    intro i o h
    have aux : ∀ (r : List Oper) (i : Nat), plainB r = true → r[i]? = some o → o.guard = none := by
      intro r
      induction r with
      | nil => intro i _ h; simp at h
      | cons p r ih =>
        intro i hp h
        simp only [plainB, Bool.and_eq_true] at hp
        cases i with
        | zero => simp at h; subst h; simpa using hp.1.1
        | succ i => simp at h; exact ih i hp.2 h
    exact aux l i hp h
  have allr : ∀ {listed : Array Bool}, listed.size = l.length → Region.ready .any l.toArray listed = [] → ∀ i, i < l.length → listed.getD i false = true := by
    intro listed hs h0 i hi
    rcases some_ready (md := .any) (ops := l.toArray) (n := l.length) (by simp) hb (listed := listed) (by omega) with all | ⟨j, _, hj⟩
    · rw [getD_tf (d' := true) (by omega)]; exact all i hi
    · rw [h0] at hj; cases hj
  intro fuel
  induction fuel with
  | zero =>
    intro listed b w hs hc inv
    have full : ∀ i, i < l.length → listed.getD i true = true := by
      intro i hi
      have e : (listed.toList.filter id).length = listed.toList.length := by
        have := List.length_filter_le id listed.toList
        simp at hc this ⊢
        omega
      have e2 := List.length_filter_eq_length_iff.1 e
      have hm : listed.getD i true = listed[i]'(by omega) := by simp [show i < listed.size by omega]
      rw [hm]
      exact e2 _ (by simp)
    have h0 : Region.ready .any l.toArray listed = [] := by
      rw [List.eq_nil_iff_forall_not_mem]
      intro i hi
      obtain ⟨u, o, ho, _⟩ := mem_ready.1 hi
      have lt : i < l.length := by have := (Array.getElem?_eq_some_iff.1 ho).1; simpa using this
      rw [full i lt] at u
      cases u
    obtain ⟨x, rfl, hC, hR⟩ := inv
    exact ⟨h0, fin x w hC (fun i hi => hR i (by rw [getD_tf (d' := true) (by omega)]; exact full i hi))⟩
  | succ fuel ih =>
    intro listed b w hs hc inv
    obtain ⟨x, rfl, hC, hR⟩ := inv
    refine ⟨fun h0 => fin x w hC (fun i hi => hR i (allr hs h0 i hi)), fun i hi => ?_⟩
    obtain ⟨u, o, ho, hd⟩ := mem_ready.1 hi
    have lt : i < l.length := by have := (Array.getElem?_eq_some_iff.1 ho).1; simpa using this
    have ho' : l[i]? = some o := by simpa using ho
    have cnt : l.length ≤ fuel + ((listed.setIfInBounds i true).toList.filter id).length := by
      have hf : listed.toList[i]? = some false := by
        have : listed.getD i true = listed[i]'(by omega) := by simp [show i < listed.size by omega]
        rw [this] at u
        simp [show i < listed.size by omega, u]
      have aux : ∀ (t : List Bool) (i : Nat), t[i]? = some false → ((t.set i true).filter id).length = (t.filter id).length + 1 := by
        intro t
        induction t with
        | nil => intro i h; simp at h
        | cons b t ih =>
          intro i h
          cases i with
          | zero => simp at h; subst h; simp
          | succ i =>
            simp at h
            have := ih i h
            cases b <;> simp [this]
      have := aux listed.toList i hf
      simp only [Array.toList_setIfInBounds]
      rw [this]
      omega
    unfold wpOp
    rw [ho]
    have hg : o.guard = none := guard ho'
    have hw : Region.wanted o (yielded l.toArray (putAll l 0 x a).tmps) = true := by simp [Region.wanted, hg]
    simp only [hw, if_true]
    left
    have step := relAll_at l 0 i o H ho' x w hC (fun j hj => by
      unfold depB at hj
      rw [← Array.any_toList] at hj
      obtain ⟨e, he', h2⟩ := List.any_eq_true.1 hj
      have he : e ∈ o.after := Array.mem_toList_iff.1 he'
      simp at h2
      have := hd e he h2.2
      rw [h2.1] at this
      exact hR j this)
    rw [Nat.zero_add] at step
    refine step _ (fun v w' hv hC' => ih _ _ w' (by simpa using hs) cnt ⟨updV x i v, ?_, hC', fun j hj => ?_⟩)
    · have := putAll_upd l 0 x a i o v hp ho'
      rw [Nat.zero_add] at this
      exact this.symm
    · by_cases e : j = i
      · subst e; unfold updV; rw [if_pos rfl]; exact hv
      · have : listed.getD j false = true := by rw [getD_set_ne false (Ne.symm e)] at hj; exact hj
        unfold updV; rw [if_neg e]; exact hR j this
/-- a region that draws its order, by relations -/
theorem region_rel {P : Program} {id : Nat} {Q : Exit → Act → World → Prop} {a : Act} {w : World} {l : List Oper} (R : Nat → Value → Prop) (C : World → Prop) (hm : P.follows .mixedOrders = true) (hp : plainB l = true) (hb : backB .any l.toArray l.length = true) (hC : C w.drew)
    (H : relAll P l a R C Q 0 l) (fin : ∀ (x : Nat → Value) (w : World), C w → (∀ i, i < l.length → R i (x i)) → Q .normal (putAll l 0 x a) w) : (Code.region id l.toArray true).wp P Q a w := by
  refine wp_region_any hm ?_
  obtain ⟨x, hx⟩ := putAll_own l 0 a
  exact wpAny_rel hp hb H fin _ _ a w.drew (by simp) (by simp) ⟨x, hx.symm, hC, fun i hi => by rw [getD_replicate_false] at hi; cases hi⟩
end Rl
end Go.Proofs.YtpfoohpncbkkfaaDoor
