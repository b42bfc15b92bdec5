/-
  Some of the texts of this proof, one behind the other.
-/
import Derived.Maps.AppendAt
import Ieee.Arith
import Derived.WalkKit
import Derived.WalkSpells
import Derived.WalkLawsBesides
import Derived.Test.YtdigecacmibkpaaGreatDoorSq02
set_option maxRecDepth 100000
set_option maxHeartbeats 400000000
namespace Go.Proofs.YtdigecacmibkpaaGreatDoor
open Go.RowKit Cu
theorem clN_nat {n : Nat} (hn : 1 <= n /\ n <= 32) : clN n = (6 * n * n : Nat) := by
  unfold clN
  rw [if_pos (by omega)]
  simp
theorem place_ok (n c : Nat) (hn : 1 <= n /\ n <= 32) (hc : c < 6 * n * n) (w : World) :
    Calls Tryz.prog 81 #[.int .i64 n, .int .i64 c] w fun e w' => e = .returned (.tuple #[.int .i64 (cf n c), .int .i64 (ci n c), .int .i64 (cj n c), .bool true]) /\ ∃ k, w' = w.drewN k := by
  have h := place_at n c w
  have hin : inR c (clN n) = true := by rw [inR_iff, clN_nat hn]; omega
  rw [hin, show pF n c = (cf n c : Nat) by simp [pF, hin, cf], show pI n c = (ci n c : Nat) by simp [pI, hin, ci], show pJ n c = (cj n c : Nat) by simp [pJ, hin, cj]] at h
  exact h
theorem cN_nat {n f i j : Nat} (hn : 1 <= n /\ n <= 32) (hf : f < 6) (hi : i < n) (hj : j < n) : cN n f i j = (nm n f i j : Nat) := by
  unfold cN
  rw [if_pos ⟨by omega, by rw [inR_iff]; omega, by rw [inR_iff]; omega, by rw [inR_iff]; omega⟩]
  simp [nm]
theorem sm_100 {p : P3} (h : (-100 <= p.1 /\ p.1 <= 100) /\ (-100 <= p.2.1 /\ p.2.1 <= 100) /\ (-100 <= p.2.2 /\ p.2.2 <= 100)) : Sm p := by unfold Sm; omega
theorem sm_pl {p q : P3} (h : (-100 <= p.1 /\ p.1 <= 100) /\ (-100 <= p.2.1 /\ p.2.1 <= 100) /\ (-100 <= p.2.2 /\ p.2.2 <= 100)) (k : Un q) : Sm (pl p q) := by unfold Un at k; simp only [Sm, pl]; omega
theorem beside_at (n c s : Nat) (w : World) (hn : 1 <= n /\ n <= 32) (hc : c < 6 * n * n) (hs : s < 4) (h : Fr w) :
    Calls Tryz.prog 112 #[.int .i64 n, .int .i64 c, .int .i64 s] w fun e w' => e = .returned (.tuple #[.int .i64 (bsC n c s), .int .i64 (bsS n c s)]) /\ Below w.heap.size w w' := by
  obtain ⟨h1, h2, h3, h4⟩ := dec_lt hn.1 hc
  have hm := md_le h1 h2 h3 hn.2
  have he := at_ah (s := s) hs h2 h3
  have hl := ah_lt (s := s) h2 h3
  have hms : md n (cf n c) (ci n c) (cj n c) = ms n (cf n c) s (ah n s (ci n c) (cj n c)) (lf n s (ci n c) (cj n c)) := by
    have := md_ms (f := cf n c) h1 hs hl.1 hl.2
    rwa [he.1, he.2] at this
  obtain ⟨d1, d2⟩ := ms_step (n := n) (a := ah n s (ci n c) (cj n c)) (b := lf n s (ci n c) (cj n c)) h1 hs
  rw [<- hms] at d1 d2
  obtain ⟨w1, w2⟩ := wy_back _ h1 s hs
  have PL := hid (place_ok n c hn hc)
  by_cases ha : ah n s (ci n c) (cj n c) + 1 < n
  · have k := at_lt (s := s) ha hl.2
    have hr := md_ms (f := cf n c) h1 hs ha hl.2
    have := beside_go n c (cf n c) (ci n c) (cj n c) s (cf n c) _ _ ((s + 2) % 4) _ _ _ _ _ w hn h1 hs h1 k.1 k.2 (by omega) h2 h3 h PL rfl rfl d1 (sm_100 hm) (sm_pl hm (un_wy h1)) hr rfl
      (Or.inl ⟨by omega, d2, w1⟩)
    rw [cN_nat hn h1 k.1 k.2] at this
    unfold bsC bsS
    rw [if_pos ha, if_pos ha]
    exact this
  · obtain ⟨n1, n2⟩ := nf_lt _ h1 s hs
    have h0 : 0 < n := by omega
    have k := at_lt (s := ns (cf n c) s) h0 hl.2
    have hr := md_ms n1 n2 h0 hl.2
    have hedge := ms_edge (n := n) (a := ah n s (ci n c) (cj n c)) (b := lf n s (ci n c) (cj n c)) h1 hs (by omega)
    rw [<- hms] at hedge
    have := beside_go n c (cf n c) (ci n c) (cj n c) s (nf (cf n c) s) _ _ ((ns (cf n c) s + 2) % 4) _ _ _ _ _ w hn h1 hs n1 k.1 k.2 (by omega) h2 h3 h PL rfl rfl d1 (sm_100 hm) (sm_pl hm (un_wy h1)) hr rfl
      (Or.inr ⟨by omega, hedge, w2⟩)
    rw [cN_nat hn n1 k.1 k.2] at this
    unfold bsC bsS
    rw [if_neg ha, if_neg ha]
    exact this
theorem turn_at (n t c : Nat) (w : World) (hn : 1 <= n /\ n <= 32) (hc : c < 6 * n * n) (ht : t < 24) (h : Fr w) :
    Calls Tryz.prog 50 #[.int .i64 n, .int .i64 t, .int .i64 c] w fun e w' => e = .returned (.tuple #[.int .i64 (tnC n t c), .int .i64 (tnS n t c)]) /\ Below w.heap.size w w' := by
  obtain ⟨h1, h2, h3, h4⟩ := dec_lt hn.1 hc
  obtain ⟨t1, t2⟩ := tf_lt t ht _ h1
  have k := at_lt (s := tq t (cf n c)) h2 h3
  have := turn_go n c (cf n c) (ci n c) (cj n c) t (tf t (cf n c)) _ _ (tq t (cf n c)) _ _ _ w hn h1 h2 h3 ht t1 k.1 k.2 t2 h (hid (place_ok n c hn hc)) rfl rfl (ro_md ht h1 h2 h3) rfl (ro_tab t ht _ h1).2.1
  rw [cN_nat hn t1 k.1 k.2] at this
  exact this
theorem cells_nat (n : Nat) (hn : 1 <= n /\ n <= 32) (w : World) : Calls Tryz.prog 29 #[.int .i64 n] w fun e w' => e = .returned (.int .i64 (6 * n * n : Nat)) /\ w' = w := by
  rw [<- clN_nat hn]; exact cells_at n w
end Go.Proofs.YtdigecacmibkpaaGreatDoor

namespace Go.Proofs.YtdigecacmibkpaaGreatDoor
open Go.RowKit Cu
def GE (B n T gb mb : Nat) (es v3 v4 v5 v6 : Value) (w : World) : Prop :=
  w.heap[gb]? = some (.cells #[.int .i64 n, es, .map (some mb), v3, v4, v5, v6] 93) /\ w.ownsRow B 84 4 es (eN n T) (edL n T) /\ MapIs w mb (2 * T) (gT n T) /\ (B <= gb /\ B <= mb /\ gb ≠ mb) /\ es.ownBlock ≠ some gb /\ es.ownBlock ≠ some mb
theorem GE.to {B n T gb mb : Nat} {es v3 v4 v5 v6 : Value} {w w' : World} (h : GE B n T gb mb es v3 v4 v5 v6 w) (a : Ab w w') : GE B n T gb mb es v3 v4 v5 v6 w' := by
  obtain ⟨h1, h2, h3, h4, h5⟩ := h
  refine ⟨a.heap h1, ?_, h3.block (Below.block a _ h3.lt), h4, h5⟩
  exact h2.kept (row := none) ⟨Below.os a, Below.tape a, Below.output a, Below.size a, fun k hk _ => Below.block a k hk⟩ (by cases es.ownBlock <;> simp)
theorem GE.cells {B n T gb mb : Nat} {es v3 v4 v5 v6 : Value} {w : World} (h : GE B n T gb mb es v3 v4 v5 v6 w) :
    w.cell? ⟨gb, 0, none⟩ = some (.int .i64 n) /\ w.cell? ⟨gb, 1, none⟩ = some es /\ w.cell? ⟨gb, 2, none⟩ = some (.map (some mb)) /\ w.frozen? ⟨gb, 1, none⟩ = false :=
  ⟨cell_of_row _ _ 0 _ _ _ h.1, cell_of_row _ _ 1 _ _ _ h.1, cell_of_row _ _ 2 _ _ _ h.1, free_row h.1 1⟩
theorem GE.sl {B n T gb mb : Nat} {es v3 v4 v5 v6 : Value} {w : World} (h : GE B n T gb mb es v3 v4 v5 v6 w) : ∃ a0 cap, es = .slice a0 (eN n T) cap := by
  rcases h.2.1.2 with ⟨rfl, h0⟩ | ⟨g, cap, cur, rfl, _⟩
  · exact ⟨none, 0, by rw [h0]⟩
  · exact ⟨_, cap, rfl⟩
theorem GE.maps {B n T gb mb : Nat} {es v3 v4 v5 v6 : Value} {w1 w2 w3 : World} (h : GE B n T gb mb es v3 v4 v5 v6 w1) (g1 : w1.grownBy w2 (some mb)) (g2 : w2.grownBy w3 (some mb)) :
    w3.heap[gb]? = some (.cells #[.int .i64 n, es, .map (some mb), v3, v4, v5, v6] 93) /\ w3.ownsRow B 84 4 es (eN n T) (edL n T) := by
  obtain ⟨h1, h2, h3, h4, h5⟩ := h
  have g := g1.trans g2
  exact ⟨(g.block gb (lt_of_block h1) (by simp; omega)).trans h1, h2.kept g (.inr h5.2)⟩
theorem grown_drew {w w' : World} {r : Option Nat} (h : w.drew.grownBy w' r) : w.grownBy w' r := ⟨h.os, h.tape, h.output, h.size, h.block⟩
theorem own_slice {w : World} {B : Nat} {e : TypeId} {sz k : Nat} {v : Value} {xs : List Value} (h : w.ownsRow B e sz v k xs) : ∃ a0 cap, v = .slice a0 k cap := by
  rcases h.2 with ⟨rfl, h0⟩ | ⟨g, cap, cur, rfl, _⟩
  · exact ⟨none, 0, by rw [h0]⟩
  · exact ⟨_, cap, rfl⟩
theorem row_after {w3 w5 : World} {o o' : Obj} {gb : Nat} {v : Value} (h : w3.heap[gb]? = some o) (hne : v.ownBlock ≠ some gb) (hg : (w3.alloc o').grownBy w5 v.ownBlock) : w5.heap[gb]? = some o :=
  (hg.block gb (by have := lt_of_block h; simp; omega) (fun e => hne e.symm)).trans ((Below.heap_alloc _ _ _ (lt_of_block h)).trans h)
theorem cell_four_new (w : World) (a b c d : Value) (t : TypeId) : ∀ j u, [a, b, c, d][j]? = some u -> (w.alloc (.cells #[a, b, c, d] t)).cell? ((⟨w.heap.size, 0, none⟩ : Addr).add j) = some u := by
  intro j u hj
  have ha : (⟨w.heap.size, 0, none⟩ : Addr).add j = ⟨w.heap.size, j, none⟩ := by unfold Addr.add; split <;> simp_all
  rw [ha, cell_of_row _ _ j _ _ (0, 0) (heap_alloc_new w _)]
  simpa using hj
theorem GE.next {B n T gb mb : Nat} {es v v3 v4 v5 v6 : Value} {o' : Obj} {w1 w3 w5 : World} (hn : 1 <= n) (hT : T < 24 * n * n) (hl : isL n T = true) (G : GE B n T gb mb es v3 v4 v5 v6 w1) (hm : w1.grownBy w3 (some mb)) (hg : (w3.alloc o').grownBy w5 es.ownBlock)
    (R5 : w5.heap[gb]? = some (.cells #[.int .i64 n, es, .map (some mb), v3, v4, v5, v6] 93)) (ho : w5.ownsRow B 84 4 v (eN n T + 1) (edL n T ++ edV n T)) (hat : v.ownBlock = es.ownBlock \/ v.ownBlock = some (w3.alloc o').heap.size)
    (M : MapIs w3 mb (2 * T + 1 + 1) (fun c s => if c = (bsC n (T / 4) (T % 4) : Nat) /\ s = (bsS n (T / 4) (T % 4) : Nat) then (((eN n T : Nat) : Int), -1) else if c = (T / 4 : Nat) /\ s = (T % 4 : Nat) then (((eN n T : Nat) : Int), 1) else gT n T c s)) :
    GE B n (T + 1) gb mb v v3 v4 v5 v6 (w5.setCell ⟨gb, 1, none⟩ v) := by
  obtain ⟨g1, g2, g3, g4, g5, g6⟩ := G
  have l1 := lt_of_block g1
  have l3 := hm.size
  have lm := M.lt
  have ne1 : v.ownBlock ≠ some gb := by
    rcases hat with h | h
    · rw [h]; exact g5
    · rw [h]; simp; omega
  have ne2 : v.ownBlock ≠ some mb := by
    rcases hat with h | h
    · rw [h]; exact g6
    · rw [h]; simp; omega
  have gs : w5.grownBy (w5.setCell ⟨gb, 1, none⟩ v) (some gb) := ⟨rfl, rfl, rfl, by simp [World.setCell], fun k _ hk => Below.heap_setCell _ _ _ _ (by simpa using hk)⟩
  refine ⟨?_, ?_, ?_, g4, ne1, ne2⟩
  · have := one_set (v := v) (k := 1) R5
    simpa using this
  · have h := ho.kept gs (.inr ne1)
    rw [<- eN_step hl, <- edL_step hl] at h
    exact h
  · have e : (w5.setCell ⟨gb, 1, none⟩ v).heap[mb]? = w3.heap[mb]? :=
      (gs.block mb (by have := hg.size; simp at this; omega) (by simp; omega)).trans ((hg.block mb (by simp; omega) (fun e => g6 e.symm)).trans (Below.heap_alloc _ _ _ lm))
    have h := (M.block e).congr (fun c s _ _ => gT_step hn hT hl c s)
    exact h.mono (by omega)
theorem infoEdge : (Tryz.prog.info? 84).map (fun i => (i.zero, i.size, i.bytes)) = some (some (.agg #[.int .i64 0, .int .i64 0, .int .i64 0, .int .i64 0]), 4, 32) := by kernel_rfl
theorem addEdges_at (n N gb mb : Nat) (v3 v4 v5 v6 : Value) (w0 w : World) (hn : 1 <= n /\ n <= 32) (hN : N = 6 * n * n) (hF : Fr w0) (A : Ab w0 w) (G : GE w0.heap.size n 0 gb mb (.slice none 0 0) v3 v4 v5 v6 w) :
    Calls Tryz.prog 64 #[.pointer (some ⟨gb, 0, none⟩), .int .i64 N] w fun e w' => e = .returned (.tuple #[]) /\ Ab w0 w' /\ ∃ es, GE w0.heap.size n (24 * n * n) gb mb es v3 v4 v5 v6 w' := by
  have HF := hid hF
  have HG := hid G
  have HA := hid A
  have HN := hid hN
  have HL : Hid (N <= 6144) := by
    show N <= 6144
    rw [hN, Nat.mul_assoc]
    have := Nat.mul_le_mul hn.2 hn.2
    omega
  have HE : Hid (24 * n * n = 4 * N) := by
    show 24 * n * n = 4 * N
    rw [hN, show 24 = 4 * 6 from rfl, Nat.mul_assoc 4 6 n, Nat.mul_assoc 4 (6 * n) n]
  obtain ⟨i0, hi, hz0, hz1, hz2⟩ := info_parts infoEdge
  have HI := hid (And.intro hi (And.intro hz0 (And.intro hz1 hz2)))
  have Hn := hid hn
  clear hF G A hN hi hz0 hz1 hz2 hn
  have hN' : (N : Int) <= 6144 := by have := HL.out; omega
  go_enter Tryz.func64, Tryz.ntmps64
  go_wp2
  go_loopw [9] (fun iv wr => ∃ c : Nat, c <= N /\ iv = .int .i64 (c : Nat) /\ Ab w0 wr /\ ∃ es, GE w0.heap.size n (4 * c) gb mb es v3 v4 v5 v6 wr) (fun iv _ => N - (intOf iv).toNat)
  case atStart => exact ⟨0, by omega, rfl, HA.out, _, HG.out⟩
  case round =>
    obtain ⟨c, hc, rfl, A, es, G⟩ := hrel
    have A1 := hid A
    have G1 := hid G
    clear A G HG HA
    by_cases hcN : c < N
    · have hcN' : (c : Int) < N := by omega
      go_wp2
      go_loopw [12] (fun iv wr => ∃ s : Nat, s <= 4 /\ iv = .int .i64 (s : Nat) /\ Ab w0 wr /\ ∃ es, GE w0.heap.size n (4 * c + s) gb mb es v3 v4 v5 v6 wr) (fun iv _ => 4 - (intOf iv).toNat)
      case atStart => exact ⟨0, by omega, rfl, A1.out, es, G1.out⟩
      case round =>
        clear A1 G1
        obtain ⟨s, hs, rfl, A, es', G⟩ := hrel
        by_cases hs4 : s < 4
        · have hs4' : (s : Int) < 4 := by omega
          obtain ⟨a0, cap, rfl⟩ := G.sl
          obtain ⟨c0, c1, c2, c3⟩ := G.cells
          have hc6 : c < 6 * n * n := by rw [<- HN.out]; exact hcN
          have BE := hid (beside_at n c s wr Hn.out hc6 hs4 (HF.out.to A))
          have AA := hid A
          have GG := hid G
          have HT := hid (t_lt hc6 hs4)
          obtain ⟨d6, b4⟩ := bs_lt Hn.out.1 hc6 hs4
          have hd6 : bsC n c s < 6144 := by have := HL.out; rw [HN.out] at this; omega
          have hT4 := hid (t_dec (c := c) hs4)
          have hlis : Hid (isL n (4 * c + s) = decide (c < bsC n c s)) := by show isL n (4 * c + s) = _; unfold isL; rw [hT4.out.1, hT4.out.2]
          have hKle : Hid (eN n (4 * c + s) <= 12 * n * n) := by
            have := eN_mono (n := n) (Nat.le_of_lt HT.out); rw [eN_all Hn.out.1] at this; exact this
          have hKb : eN n (4 * c + s) <= 12288 := by
            have h1 := hKle.out; have h2 := HE.out; have h3 := HL.out
            have : 2 * (12 * n * n) = 24 * n * n := by rw [show 24 = 2 * 12 from rfl, Nat.mul_assoc 2 12 n, Nat.mul_assoc 2 (12 * n) n]
            omega
          obtain ⟨d, hd⟩ : ∃ d, bsC n c s = d := ⟨_, rfl⟩
          obtain ⟨b, hb⟩ : ∃ b, bsS n c s = b := ⟨_, rfl⟩
          obtain ⟨K, hK⟩ : ∃ K, eN n (4 * c + s) = K := ⟨_, rfl⟩
          rw [hd, hb] at BE
          rw [hd] at hlis d6 hd6
          rw [hb] at b4
          rw [hK] at hKb c1
          have GG' : Hid (GE w0.heap.size n (4 * c + s) gb mb (.slice a0 K cap) v3 v4 v5 v6 wr) := by rw [<- hK]; exact GG.out
          have HD := hid (And.intro hd (And.intro hb hK))
          clear A G GG hd hb hK hKle hc6
          go_wp2_with fail
          refine BE.out.mono ?_
          rintro e w1 ⟨rfl, b1⟩
          have A2 : Hid (Ab w0 w1) := AA.out.call b1
          have G2 : Hid (GE w0.heap.size n (4 * c + s) gb mb (.slice a0 K cap) v3 v4 v5 v6 w1) := GG'.out.to b1
          clear c0 c1 c2 c3 AA GG' b1 BE
          by_cases hl : c < d
          · have hl' : (c : Int) < d := by omega
            have hisL : Hid (isL n (4 * c + s) = true) := by show _ = _; rw [hlis.out]; simp [hl]
            obtain ⟨w2, hu1, M1, g1⟩ := (G2.out.2.2.1.block (w' := w1.drew) rfl).upd (c := c) (s := s) (x := K) (y := 1) (by have := HL.out; have := HT.out; have := HE.out; omega) (by unfold W64; have := HL.out; omega) (by unfold W64; omega)
            obtain ⟨w3, hu2, M2, g2⟩ := (M1.block (w' := w2.drew) rfl).upd (c := d) (s := b) (x := K) (y := -1) (by have := HL.out; have := HT.out; have := HE.out; omega) (by unfold W64; omega) (by unfold W64; omega)
            replace g1 := grown_drew g1
            replace g2 := grown_drew g2
            obtain ⟨c0, c1, c2, c3⟩ := G2.out.cells
            have GM := hid (G2.out.maps g1 g2)
            have d1 : w2.cell? ⟨gb, 1, none⟩ = some (.slice a0 K cap) := g1.cell c1 (by have := G2.out.2.2.2.1.2.2; simp; omega)
            have d2 : w2.cell? ⟨gb, 2, none⟩ = some (.map (some mb)) := g1.cell c2 (by have := G2.out.2.2.2.1.2.2; simp; omega)
            have M2' := hid M2
            have g12 := hid (And.intro g1 g2)
            clear M1 M2 g1 g2
            go_upto_region 8 with fail
            go_region
            go_upto_region 9 with fail
            go_region
            clear c0 c1 c2 c3 d1 d2 hu1 hu2
            have c1 : w3.cell? ⟨gb, 1, none⟩ = some (.slice a0 K cap) := cell_of_row _ _ 1 _ _ _ GM.out.1
            have OW : Hid (w3.ownsRow w0.heap.size 84 4 (.slice a0 K cap) K (edL n (4 * c + s))) := by have h := GM.out.2; rw [HD.out.2.2] at h; exact h
            have A3 : Hid (Ab w0 w3) := (A2.out.grown (g12.out.1.trans g12.out.2) (Ab.size A2.out) (fun k hk => by cases hk; exact G2.out.2.2.2.1.2.1))
            obtain ⟨hi, hz0, hz1, hz2⟩ := HI.out
            go_upto_region 10 with fail
            go_wp2_with (first
              | (at_builtin; refine wpList_append_own_at _ rfl _ _ 90 rfl w0.heap.size 84 i0 (.agg #[.int .i64 0, .int .i64 0, .int .i64 0, .int .i64 0]) 4 32 Tryz.underlying90 hi hz0 hz1 hz2 rfl (by decide) _ _ _ rfl (OW.out.alloc _) ⟨w3.heap.size, 0, none⟩ 1 1 [.int .i64 c, .int .i64 s, .int .i64 d, .int .i64 b] rfl rfl (cell_four_new _ _ _ _ _ _) (by simp [Value.oneCell']) (by unfold maxLen; omega) (by omega) (by have := Ab.size A3.out; simp; omega) ?_; intro v' w5 ho hg _ hat; obtain ⟨a1, cap1, rfl⟩ := own_slice ho; have R5 := hid (row_after GM.out.1 G2.out.2.2.2.2.1 hg); have f1 := free_row R5.out 1; have x1 := cell_of_row _ _ 1 _ _ _ R5.out; have HO := hid (And.intro ho (And.intro hg hat)); clear ho hg hat))
            go_roundw
            case rel =>
              have hT := HT.out
              refine ⟨s + 1, by omega, by simp, ?_, (.slice a1 (K + 1) cap1), ?_⟩
              · exact Ab.setk (Below.grown (A3.out.alloc (.cells #[.int .i64 c, .int .i64 s, .int .i64 d, .int .i64 b] 84)) HO.out.2.1 (Ab.size (A3.out.alloc _)) (fun k hk => (OW.out.lt k hk).1)) G2.out.2.2.2.1.1 _
              · have e1 := hT4.out.1
                have e2 := hT4.out.2
                have e3 := HD.out
                have hed : edV n (4 * c + s) = [.int .i64 c, .int .i64 s, .int .i64 d, .int .i64 b] := by unfold edV; rw [e1, e2, e3.1, e3.2.1]
                refine GE.next (T := 4 * c + s) Hn.out.1 hT hisL.out G2.out (g12.out.1.trans g12.out.2) HO.out.2.1 R5.out ?_ HO.out.2.2 ?_
                · rw [hed, e3.2.2]; exact HO.out.1
                · rw [e1, e2, e3.1, e3.2.1, e3.2.2]; exact M2'.out
            case measure => simp [intOf]; omega
          · have hl' : ¬ (c : Int) < d := by omega
            have hisL : Hid (isL n (4 * c + s) = false) := by show _ = _; rw [hlis.out]; simp [hl]
            go_wp2
            go_roundw
            case rel =>
              refine ⟨s + 1, by omega, by simp, A2.out, (.slice a0 K cap), ?_⟩
              have g := G2.out
              have hh := hisL.out
              show GE w0.heap.size n (4 * c + s + 1) gb mb (.slice a0 K cap) v3 v4 v5 v6 w1
              exact ⟨g.1, by rw [eN_stay hh, edL_stay hh]; exact g.2.1, (g.2.2.1.congr (fun c' s' _ _ => gT_stay Hn.out.1 hh c' s')).mono (by omega), g.2.2.2⟩
            case measure => simp [intOf]; omega
        · obtain rfl : s = 4 := by omega
          have AA := hid A
          have GG := hid G
          clear A G
          go_wp2
          go_roundw
          case rel => exact ⟨c + 1, by omega, by simp, AA.out, _, GG.out⟩
          case measure => simp [intOf]; omega
    · obtain rfl : c = N := by omega
      go_wp2
      go_end0
      exact ⟨rfl, A1.out, es, by rw [HE.out]; exact G1.out⟩
end Go.Proofs.YtdigecacmibkpaaGreatDoor

namespace Go.Proofs.YtdigecacmibkpaaGreatDoor.Tf
def rne (n g : Nat) : Nat := n / g + (if g < 2 * (n % g) \/ (g = 2 * (n % g) /\ n / g % 2 = 1) then 1 else 0)
theorem pow_pos (k : Nat) : 0 < 2 ^ k := Nat.two_pow_pos k
theorem shl_one (d : Nat) : 1 <<< d = 2 ^ d := by rw [Nat.shiftLeft_eq, Nat.one_mul]
theorem cut_even (neg : Bool) (n d : Nat) : Ieee.Toward.even.cut neg n d = rne n (2 ^ d) := by
  unfold Ieee.Toward.cut rne
  simp only [shl_one]
  by_cases h : d <= n.log2 + 2
  · rw [Nat.min_eq_left h]
    by_cases a : 2 ^ d < 2 * (n % 2 ^ d)
    · simp [a]
    · by_cases b : 2 ^ d = 2 * (n % 2 ^ d)
      · by_cases c : n / 2 ^ d % 2 = 1
        · simp [<- b, c]
        · simp [<- b, c]
      · simp [a, b]
  · rw [Nat.min_eq_right (by omega)]
    have h1 : n < 2 ^ (n.log2 + 1) := Nat.lt_log2_self
    have h2 : 2 ^ (n.log2 + 2) = 2 * 2 ^ (n.log2 + 1) := by rw [Nat.pow_succ]; omega
    have h3 : 2 ^ (n.log2 + 2) <= 2 ^ d := Nat.pow_le_pow_right (by omega) (by omega)
    have q1 : n / 2 ^ (n.log2 + 2) = 0 := Nat.div_eq_of_lt (by omega)
    have q2 : n / 2 ^ d = 0 := Nat.div_eq_of_lt (by omega)
    have r1 : n % 2 ^ (n.log2 + 2) = n := Nat.mod_eq_of_lt (by omega)
    have r2 : n % 2 ^ d = n := Nat.mod_eq_of_lt (by omega)
    rw [q1, q2, r1, r2]
    have a1 : ¬ 2 ^ (n.log2 + 2) < 2 * n := by omega
    have a2 : ¬ 2 ^ d < 2 * n := by omega
    simp [a1, a2]
theorem rne_one (n : Nat) : rne n 1 = n := by
  unfold rne; simp [Nat.mod_one]
theorem rne_mul (q g : Nat) (hg : 0 < g) : rne (q * g) g = q := by
  unfold rne
  rw [Nat.mul_mod_left, Nat.mul_div_cancel _ hg]
  have : ¬ (g < 2 * 0 \/ g = 2 * 0 /\ q % 2 = 1) := by omega
  rw [if_neg this]; omega
theorem rne_scale (n g c : Nat) (hc : 0 < c) : rne (n * c) (g * c) = rne n g := by
  unfold rne
  rw [Nat.mul_div_mul_right _ _ hc, Nat.mul_mod_mul_right]
  have e1 : (g * c < 2 * (n % g * c)) ↔ g < 2 * (n % g) := by
    rw [<- Nat.mul_assoc]; exact Nat.mul_lt_mul_right hc
  have e2 : (g * c = 2 * (n % g * c)) ↔ g = 2 * (n % g) := by
    rw [<- Nat.mul_assoc]; exact Nat.mul_left_inj (by omega)
  simp only [e1, e2]
theorem rne_ge (n g : Nat) : n / g <= rne n g := by unfold rne; omega
theorem rne_le (n g : Nat) : rne n g <= n / g + 1 := by unfold rne; split <;> omega
theorem rne_mono {n n' : Nat} (g : Nat) (h : n <= n') : rne n g <= rne n' g := by
  have hd : n / g <= n' / g := Nat.div_le_div_right h
  by_cases e : n / g = n' / g
  · have m1 := Nat.div_add_mod n g
    have m2 := Nat.div_add_mod n' g
    rw [e] at m1
    have hm : n % g <= n' % g := by omega
    unfold rne; rw [e]
    by_cases c : g < 2 * (n % g) \/ (g = 2 * (n % g) /\ n' / g % 2 = 1)
    · rw [if_pos c, if_pos (by omega)]; omega
    · rw [if_neg c]; omega
  · have := rne_le n g
    have := rne_ge n' g
    omega
def mag (p r : Nat) : Nat := if r < 2 ^ p then r else (2 ^ p + r % 2 ^ p) * 2 ^ (r / 2 ^ p - 1)
def rung (p d V : Nat) : Nat := (V.log2 - (p + d)) * 2 ^ p + rne V (2 ^ (V.log2 - (p + d) + d))
theorem div_mod_succ (r g : Nat) (hg : 0 < g) : ((r + 1) % g = r % g + 1 /\ (r + 1) / g = r / g) \/ (r % g = g - 1 /\ (r + 1) % g = 0 /\ (r + 1) / g = r / g + 1) := by
  have h1 := Nat.div_add_mod r g
  have h2 := Nat.mod_lt r hg
  by_cases c : r % g + 1 < g
  · left
    have e : r + 1 = (r % g + 1) + g * (r / g) := by omega
    constructor
    · rw [e, Nat.add_mul_mod_self_left, Nat.mod_eq_of_lt c]
    · rw [e, Nat.add_mul_div_left _ _ hg, Nat.div_eq_of_lt c]; omega
  · right
    have e : r + 1 = g * (r / g + 1) := by rw [Nat.mul_add]; omega
    refine ⟨by omega, ?_, ?_⟩
    · rw [e, Nat.mul_mod_right]
    · rw [e, Nat.mul_div_cancel_left _ hg]
def gap (p r : Nat) : Nat := 2 ^ (r / 2 ^ p - 1)
theorem gap_pos (p r : Nat) : 0 < gap p r := pow_pos _
theorem mag_succ (p r : Nat) : mag p (r + 1) = mag p r + gap p r := by
  have hp := pow_pos p
  unfold mag gap
  by_cases h : r < 2 ^ p
  · rw [if_pos h, Nat.div_eq_of_lt h]
    by_cases h' : r + 1 < 2 ^ p
    · rw [if_pos h']
    · have e : r + 1 = 2 ^ p := by omega
      rw [if_neg h', e, Nat.mod_self, Nat.div_self hp]; simp
  · rw [if_neg h, if_neg (by omega)]
    have hk : 1 <= r / 2 ^ p := (Nat.le_div_iff_mul_le hp).2 (by omega)
    rcases div_mod_succ r (2 ^ p) hp with ⟨a, b⟩ | ⟨a, b, c⟩
    · rw [a, b, <- Nat.add_assoc, Nat.add_mul _ 1, Nat.one_mul]
    · rw [b, c, a]
      obtain ⟨k, hk'⟩ : ∃ k, r / 2 ^ p = k + 1 := ⟨r / 2 ^ p - 1, by omega⟩
      rw [hk']
      simp only [Nat.add_sub_cancel, Nat.add_zero]
      rw [Nat.pow_succ 2 k]
      have : 2 ^ p + (2 ^ p - 1) = 2 * 2 ^ p - 1 := by omega
      rw [this, Nat.sub_mul, Nat.one_mul]
      have h1 : 2 ^ k <= 2 * 2 ^ p * 2 ^ k := Nat.le_mul_of_pos_left _ (by omega)
      have h2 : 2 ^ p * (2 ^ k * 2) = 2 * 2 ^ p * 2 ^ k := by rw [Nat.mul_comm (2 ^ k) 2, <- Nat.mul_assoc, Nat.mul_comm (2 ^ p) 2]
      omega
theorem mag_zero (p : Nat) : mag p 0 = 0 := by unfold mag; rw [if_pos (pow_pos p)]
theorem mag_lt_of_lt {p r r' : Nat} (h : r < r') : mag p r < mag p r' := by
  induction r' with
  | zero => omega
  | succ n ih =>
    have := gap_pos p n
    rw [mag_succ]
    by_cases c : r = n
    · subst c; omega
    · have := ih (by omega); omega
theorem mag_lt {p r r' : Nat} : mag p r < mag p r' ↔ r < r' := by
  constructor
  · intro h
    by_cases c : r < r'
    · exact c
    · by_cases e : r = r'
      · subst e; omega
      · have := mag_lt_of_lt (p := p) (show r' < r by omega); omega
  · exact mag_lt_of_lt
theorem mag_le {p r r' : Nat} : mag p r <= mag p r' ↔ r <= r' := by
  have := @mag_lt p r' r
  omega
theorem mag_inj {p r r' : Nat} : mag p r = mag p r' ↔ r = r' := by
  have := @mag_lt p r' r
  have := @mag_lt p r r'
  omega
theorem le_mag (p r : Nat) : r <= mag p r := by
  induction r with
  | zero => omega
  | succ n ih => have := gap_pos p n; rw [mag_succ]; omega
theorem log2_of {n k : Nat} (h : 2 ^ k <= n) (h' : n < 2 ^ (k + 1)) : n.log2 = k := by
  have : n ≠ 0 := by have := pow_pos k; omega
  exact (Nat.log2_eq_iff this).2 ⟨h, h'⟩
theorem log2_small {n k : Nat} (h : n < 2 ^ (k + 1)) : n.log2 <= k := by
  by_cases c : n = 0
  · subst c; simp
  · have := (Nat.log2_lt c).2 h; omega
theorem rung_between (p d r V : Nat) (hp : 1 <= p) (h1 : mag p r * 2 ^ d <= V) (h2 : V < mag p (r + 1) * 2 ^ d) :
    rung p d V = if (mag p r + mag p (r + 1)) * 2 ^ d < 2 * V \/ ((mag p r + mag p (r + 1)) * 2 ^ d = 2 * V /\ r % 2 = 1) then r + 1 else r := by
  have hp0 := pow_pos p
  have hd0 := pow_pos d
  rw [mag_succ] at h2 ⊢
  have hg := gap_pos p r
  by_cases h : r < 2 ^ p
  · have em : mag p r = r := by unfold mag; rw [if_pos h]
    have eg : gap p r = 1 := by unfold gap; rw [Nat.div_eq_of_lt h]
    rw [em, eg] at h2 ⊢
    rw [em] at h1
    have hV : V < 2 ^ (p + d) := by
      rw [Nat.pow_add]
      exact Nat.lt_of_lt_of_le h2 (Nat.mul_le_mul_right _ (by omega))
    have hl : V.log2 - (p + d) = 0 := by
      obtain ⟨q, hq⟩ : ∃ q, p + d = q + 1 := ⟨p + d - 1, by omega⟩
      rw [hq] at hV
      have := log2_small hV; omega
    have hq : V / 2 ^ d = r := Nat.div_eq_of_lt_le h1 h2
    have hm := Nat.div_add_mod V (2 ^ d)
    rw [hq, Nat.mul_comm] at hm
    unfold rung
    rw [hl, Nat.zero_add, Nat.zero_mul, Nat.zero_add]
    unfold rne
    rw [hq]
    have e2 : (r + (r + 1)) * 2 ^ d = 2 * (r * 2 ^ d) + 2 ^ d := by
      rw [<- Nat.add_assoc, Nat.add_mul, Nat.one_mul, Nat.add_mul]; omega
    rw [e2]
    by_cases c : 2 ^ d < 2 * (V % 2 ^ d) \/ (2 ^ d = 2 * (V % 2 ^ d) /\ r % 2 = 1)
    · rw [if_pos c, if_pos (by omega)]
    · rw [if_neg c, if_neg (by omega)]; rfl
  · have hk : 1 <= r / 2 ^ p := (Nat.le_div_iff_mul_le hp0).2 (by omega)
    obtain ⟨k, hk'⟩ : ∃ k, r / 2 ^ p = k + 1 := ⟨r / 2 ^ p - 1, by omega⟩
    have eg : gap p r = 2 ^ k := by unfold gap; rw [hk']; rfl
    have em : mag p r = (2 ^ p + r % 2 ^ p) * 2 ^ k := by unfold mag; rw [if_neg h, hk']; rfl
    have hf := Nat.mod_lt r hp0
    have hdm := Nat.div_add_mod r (2 ^ p)
    rw [hk'] at hdm
    generalize hF : r % 2 ^ p = F at *
    have hk0 := pow_pos (k + d)
    have e1 : (2 ^ p + F) * 2 ^ k * 2 ^ d = (2 ^ p + F) * 2 ^ (k + d) := by rw [Nat.mul_assoc, <- Nat.pow_add]
    rw [em, eg, Nat.add_mul, e1, <- Nat.pow_add] at h2
    rw [em, e1] at h1
    rw [em, eg, <- Nat.add_assoc, Nat.add_mul _ (2 ^ k), Nat.add_mul, e1, <- Nat.pow_add]
    have hlo : 2 ^ (p + (k + d)) <= V := by
      rw [Nat.pow_add]
      exact Nat.le_trans (Nat.mul_le_mul_right _ (by omega)) h1
    have hhi : V < 2 ^ (p + (k + d) + 1) := by
      have : (2 ^ p + F) * 2 ^ (k + d) + 2 ^ (k + d) = (2 ^ p + F + 1) * 2 ^ (k + d) := by rw [Nat.add_mul _ 1, Nat.one_mul]
      have h3 : (2 ^ p + F + 1) * 2 ^ (k + d) <= (2 * 2 ^ p) * 2 ^ (k + d) := Nat.mul_le_mul_right _ (by omega)
      have h4 : (2 * 2 ^ p) * 2 ^ (k + d) = 2 ^ (p + (k + d) + 1) := by rw [Nat.pow_succ, Nat.pow_add 2 p, Nat.mul_comm _ 2, Nat.mul_assoc]
      omega
    have hlog := log2_of hlo hhi
    have es : V.log2 - (p + d) = k := by omega
    unfold rung
    rw [es]
    have hq : V / 2 ^ (k + d) = 2 ^ p + F := by
      refine Nat.div_eq_of_lt_le h1 ?_
      rw [Nat.add_mul _ 1, Nat.one_mul]; exact h2
    have hm := Nat.div_add_mod V (2 ^ (k + d))
    rw [hq, Nat.mul_comm] at hm
    unfold rne
    rw [hq]
    generalize hR : V % 2 ^ (k + d) = R at *
    generalize hA : (2 ^ p + F) * 2 ^ (k + d) = A at *
    generalize hG : 2 ^ (k + d) = G at *
    have hpar : (2 ^ p + F) % 2 = r % 2 := by
      obtain ⟨q, rfl⟩ : ∃ q, p = q + 1 := ⟨p - 1, by omega⟩
      rw [Nat.pow_succ] at hdm ⊢
      have : 2 ^ q * 2 * (k + 1) = 2 * (2 ^ q * (k + 1)) := by rw [Nat.mul_comm (2 ^ q) 2, Nat.mul_assoc]
      omega
    rw [hpar]
    have hr : k * 2 ^ p + (2 ^ p + F) = r := by
      rw [Nat.mul_add, Nat.mul_comm (2 ^ p) k] at hdm; omega
    by_cases c : G < 2 * R \/ (G = 2 * R /\ r % 2 = 1)
    · rw [if_pos c, if_pos (by omega)]; omega
    · rw [if_neg c, if_neg (by omega)]; omega
theorem floor_ex (p d V : Nat) : ∃ r, mag p r * 2 ^ d <= V /\ V < mag p (r + 1) * 2 ^ d := by
  have hd := pow_pos d
  have key : ∀ n, V < mag p n * 2 ^ d -> ∃ r, mag p r * 2 ^ d <= V /\ V < mag p (r + 1) * 2 ^ d := by
    intro n
    induction n with
    | zero => intro h; rw [mag_zero] at h; omega
    | succ n ih =>
      intro h
      by_cases c : V < mag p n * 2 ^ d
      · exact ih c
      · exact ⟨n, by omega, h⟩
  refine key (V + 1) ?_
  have h1 := le_mag p (V + 1)
  have h2 : mag p (V + 1) * 1 <= mag p (V + 1) * 2 ^ d := Nat.mul_le_mul_left _ hd
  omega
theorem rung_mag (p d r : Nat) (hp : 1 <= p) : rung p d (mag p r * 2 ^ d) = r := by
  have hd := pow_pos d
  have := gap_pos p r
  have e := mag_succ p r
  have hlt : mag p r * 2 ^ d < mag p (r + 1) * 2 ^ d := (Nat.mul_lt_mul_right hd).2 (by omega)
  rw [rung_between p d r _ hp (Nat.le_refl _) hlt]
  have e2 : (mag p r + mag p (r + 1)) * 2 ^ d = mag p r * 2 ^ d + mag p (r + 1) * 2 ^ d := Nat.add_mul ..
  rw [if_neg (by omega)]
theorem rung_mag0 (p r : Nat) (hp : 1 <= p) : rung p 0 (mag p r) = r := by
  have := rung_mag p 0 r hp
  rwa [Nat.pow_zero, Nat.mul_one] at this
theorem rung_floor (p d r V : Nat) (hp : 1 <= p) (h1 : mag p r * 2 ^ d <= V) (h2 : V < mag p (r + 1) * 2 ^ d) : r <= rung p d V /\ rung p d V <= r + 1 := by
  rw [rung_between p d r V hp h1 h2]; split <;> omega
theorem rung_mono {p d V V' : Nat} (hp : 1 <= p) (h : V <= V') : rung p d V <= rung p d V' := by
  have hd := pow_pos d
  obtain ⟨r, a, b⟩ := floor_ex p d V
  obtain ⟨r', a', b'⟩ := floor_ex p d V'
  have hr : r < r' + 1 := (mag_lt (p := p)).1 ((Nat.mul_lt_mul_right hd).1 (by omega))
  by_cases e : r = r'
  · subst e
    rw [rung_between p d r V hp a b, rung_between p d r V' hp a' b']
    split <;> split <;> omega
  · have h1 := rung_floor p d r V hp a b
    have h2 := rung_floor p d r' V' hp a' b'
    omega
theorem rung_ge {p d r V : Nat} (hp : 1 <= p) (h : mag p r * 2 ^ d <= V) : r <= rung p d V := by
  have := rung_mono (d := d) hp h
  rwa [rung_mag p d r hp] at this
theorem rung_le {p d r V : Nat} (hp : 1 <= p) (h : V <= mag p r * 2 ^ d) : rung p d V <= r := by
  have := rung_mono (d := d) hp h
  rwa [rung_mag p d r hp] at this
end Go.Proofs.YtdigecacmibkpaaGreatDoor.Tf

namespace Go.Proofs.YtdigecacmibkpaaGreatDoor.Tf
open Ieee
theorem log2_mul_pow (m c : Nat) (hm : m ≠ 0) : (m * 2 ^ c).log2 = m.log2 + c := by
  have h1 := Nat.log2_self_le hm
  have h2 : m < 2 ^ (m.log2 + 1) := Nat.lt_log2_self
  have hc := pow_pos c
  refine log2_of ?_ ?_
  · rw [Nat.pow_add]; exact Nat.mul_le_mul_right _ h1
  · rw [show m.log2 + c + 1 = (m.log2 + 1) + c from by omega, Nat.pow_add]
    exact (Nat.mul_lt_mul_right hc).2 h2
theorem shl (m c : Nat) : m <<< c = m * 2 ^ c := Nat.shiftLeft_eq ..
theorem nearest_scale (f : Format) (neg : Bool) (m c : Nat) (place : Int) : f.nearest neg (m * 2 ^ c) place = f.nearest neg m (place + c) := by
  by_cases hm : m = 0
  · subst hm; simp [Format.nearest]
  · have hc := pow_pos c
    have hmc : m * 2 ^ c ≠ 0 := Nat.mul_ne_zero hm (by omega)
    unfold Format.nearest
    rw [if_neg hm, if_neg hmc, log2_mul_pow m c hm]
    have el : max (place + ((m.log2 + c : Nat) : Int) - f.fractionBits) f.leastPlace = max (place + c + (m.log2 : Nat) - f.fractionBits) f.leastPlace := by
      congr 1; omega
    simp only [el, cut_even, shl]
    generalize max (place + (c : Int) + (m.log2 : Nat) - (f.fractionBits : Int)) f.leastPlace = last
    congr 3
    by_cases h1 : 0 <= place - last
    · have a1 : (last - place).toNat = 0 := by omega
      have a2 : (last - (place + c)).toNat = 0 := by omega
      have a3 : (place + c - last).toNat = c + (place - last).toNat := by omega
      rw [a1, a2, a3, Nat.pow_zero, rne_one, rne_one, Nat.pow_add, Nat.mul_assoc]
    · have b1 : (place - last).toNat = 0 := by omega
      rw [b1, Nat.pow_zero, Nat.mul_one]
      by_cases h2 : 0 <= place + c - last
      · have a2 : (last - (place + c)).toNat = 0 := by omega
        have a3 : c = (place + c - last).toNat + (last - place).toNat := by omega
        rw [a2, Nat.pow_zero, rne_one]
        rw (occs := .pos [1]) [a3]
        rw [Nat.pow_add, <- Nat.mul_assoc, rne_mul _ _ (pow_pos _)]
      · have a2 : (place + c - last).toNat = 0 := by omega
        have a3 : (last - place).toNat = (last - (place + c)).toNat + c := by omega
        rw [a2, Nat.pow_zero, Nat.mul_one, a3, Nat.pow_add, rne_scale _ _ _ hc]
theorem nearest_rung (f : Format) (neg : Bool) (m d : Nat) : f.nearest neg m (f.leastPlace - d) = f.word neg (min (rung f.fractionBits d m) f.infRung) := by
  unfold Format.nearest
  by_cases hm : m = 0
  · subst hm
    rw [if_pos rfl]
    have : rung f.fractionBits d 0 = 0 := by
      unfold rung
      simp [rne, Nat.zero_mod, Nat.zero_div]
    rw [this, Nat.zero_min]
  · rw [if_neg hm]
    have el : max (f.leastPlace - (d : Int) + (m.log2 : Nat) - (f.fractionBits : Int)) f.leastPlace = f.leastPlace + ((m.log2 - (f.fractionBits + d) : Nat) : Int) := by
      omega
    simp only [el, cut_even, shl]
    have a1 : (f.leastPlace - (d : Int) - (f.leastPlace + ((m.log2 - (f.fractionBits + d) : Nat) : Int))).toNat = 0 := by omega
    have a2 : (f.leastPlace + ((m.log2 - (f.fractionBits + d) : Nat) : Int) - (f.leastPlace - (d : Int))).toNat = m.log2 - (f.fractionBits + d) + d := by omega
    have a3 : (f.leastPlace + ((m.log2 - (f.fractionBits + d) : Nat) : Int) - f.leastPlace).toNat = m.log2 - (f.fractionBits + d) := by omega
    rw [a1, a2, a3, Nat.pow_zero, Nat.mul_one]
    rfl
def sg (f : Format) (x : Nat) : Bool := x / f.signWeight % 2 == 1
def rg (f : Format) (x : Nat) : Nat := x % f.signWeight
def sval (f : Format) (x : Nat) : Int := if sg f x then -(mag f.fractionBits (rg f x) : Int) else (mag f.fractionBits (rg f x) : Int)
theorem read_fin (f : Format) (x : Nat) (h : rg f x < f.infRung) : ∃ m a : Nat, f.read x = .number (sg f x) m (f.leastPlace + a) /\ m * 2 ^ a = mag f.fractionBits (rg f x) := by
  unfold Format.read
  simp only []
  change rg f x < f.infRung at h
  unfold mag
  by_cases c : rg f x < f.binade
  · refine ⟨rg f x, 0, ?_, ?_⟩
    · rw [if_pos (show x % f.signWeight < f.binade from c)]; simp [sg, rg]
    · rw [if_pos (show rg f x < 2 ^ f.fractionBits from c)]; omega
  · refine ⟨f.binade + rg f x % f.binade, rg f x / f.binade - 1, ?_, ?_⟩
    · rw [if_neg (show ¬ x % f.signWeight < f.binade from c), if_pos (show x % f.signWeight < f.infRung from h)]; rfl
    · rw [if_neg (show ¬ rg f x < 2 ^ f.fractionBits from c)]; rfl
theorem read_inf (f : Format) (x : Nat) (he : f.binade <= f.infRung) (h : rg f x = f.infRung) : f.read x = .infinity (sg f x) := by
  unfold Format.read
  simp only []
  unfold rg at h
  rw [if_neg (by omega), if_neg (by omega), if_pos h]; rfl
theorem read_nan (f : Format) (x : Nat) (he : f.binade <= f.infRung) (h : f.infRung < rg f x) : f.read x = .nan (sg f x) (rg f x - f.infRung) := by
  unfold Format.read
  simp only []
  unfold rg at h
  rw [if_neg (by omega), if_neg (by omega), if_neg (by omega)]; rfl
def nan (f : Format) (x : Nat) : Prop := f.infRung < rg f x
theorem order_nan_left (f : Format) (x y : Nat) (he : f.binade <= f.infRung) (h : f.infRung < rg f x) : f.order x y = none := by
  unfold Format.order; rw [read_nan f x he h]; rfl
theorem order_nan_right (f : Format) (x y : Nat) (he : f.binade <= f.infRung) (h : f.infRung < rg f y) : f.order x y = none := by
  unfold Format.order; rw [read_nan f y he h]; cases f.read x <;> rfl
theorem signed_mul (s : Bool) (m a : Nat) (c : Nat) : Ieee.signed s m a * (2 ^ c : Nat) = Ieee.signed s (m * 2 ^ a) c := by
  unfold Ieee.signed
  simp only [shl]
  cases s
  · simp
  · simp [Int.neg_mul]
theorem signed_at (s : Bool) (m a b : Nat) (h : b <= a) : Ieee.signed s m (a - b) * ((2 ^ b : Nat) : Int) = if s then -((m * 2 ^ a : Nat) : Int) else ((m * 2 ^ a : Nat) : Int) := by
  rw [signed_mul]
  unfold Ieee.signed
  simp only [shl]
  have e : m * 2 ^ (a - b) * 2 ^ b = m * 2 ^ a := by
    rw [Nat.mul_assoc, <- Nat.pow_add, Nat.sub_add_cancel h]
  rw [e]
theorem compare_mul (a b c : Int) (hc : 0 < c) : compare (a * c) (b * c) = compare a b := by
  have h1 : a * c < b * c ↔ a < b := Int.mul_lt_mul_right hc
  have h2 : b * c < a * c ↔ b < a := Int.mul_lt_mul_right hc
  have h3 : a * c = b * c ↔ a = b := by omega
  simp only [compare, compareOfLessAndEq, h1, h3]
theorem order_fin (f : Format) (x y : Nat) (hx : rg f x < f.infRung) (hy : rg f y < f.infRung) : f.order x y = some (compare (sval f x) (sval f y)) := by
  obtain ⟨m, a, e1, v1⟩ := read_fin f x hx
  obtain ⟨n, b, e2, v2⟩ := read_fin f y hy
  unfold Format.order
  rw [e1, e2]
  simp only [Datum.order]
  have eb : min (f.leastPlace + (a : Int)) (f.leastPlace + (b : Int)) = f.leastPlace + ((min a b : Nat) : Int) := by omega
  rw [eb]
  have t1 : (f.leastPlace + (a : Int) - (f.leastPlace + ((min a b : Nat) : Int))).toNat = a - min a b := by omega
  have t2 : (f.leastPlace + (b : Int) - (f.leastPlace + ((min a b : Nat) : Int))).toNat = b - min a b := by omega
  rw [t1, t2]
  rw [<- compare_mul _ _ ((2 ^ (min a b) : Nat) : Int) (by exact_mod_cast pow_pos _)]
  rw [signed_at _ _ _ _ (Nat.min_le_left a b), signed_at _ _ _ _ (Nat.min_le_right a b), v1, v2]
  rfl
def rnd (f : Format) (z : Bool) (v : Int) : Nat := f.word (if v = 0 then z else decide (v < 0)) (min (rung f.fractionBits 0 v.natAbs) f.infRung)
theorem sum_fin (f : Format) (s t : Bool) (m n a b : Nat) :
    ((Datum.number s m (f.leastPlace + a)).sum (.number t n (f.leastPlace + b))).map f.write
      = some (rnd f (s && t) ((if s then -((m * 2 ^ a : Nat) : Int) else ((m * 2 ^ a : Nat) : Int)) + (if t then -((n * 2 ^ b : Nat) : Int) else ((n * 2 ^ b : Nat) : Int)))) := by
  simp only [Datum.sum, Option.map, Format.write]
  have eb : min (f.leastPlace + (a : Int)) (f.leastPlace + (b : Int)) = f.leastPlace + ((min a b : Nat) : Int) := by omega
  rw [eb]
  have t1 : (f.leastPlace + (a : Int) - (f.leastPlace + ((min a b : Nat) : Int))).toNat = a - min a b := by omega
  have t2 : (f.leastPlace + (b : Int) - (f.leastPlace + ((min a b : Nat) : Int))).toNat = b - min a b := by omega
  rw [t1, t2]
  have hv : (Ieee.signed s m (a - min a b) + Ieee.signed t n (b - min a b)) * ((2 ^ (min a b) : Nat) : Int) = (if s then -((m * 2 ^ a : Nat) : Int) else ((m * 2 ^ a : Nat) : Int)) + (if t then -((n * 2 ^ b : Nat) : Int) else ((n * 2 ^ b : Nat) : Int)) := by
    rw [Int.add_mul, signed_at _ _ _ _ (Nat.min_le_left a b), signed_at _ _ _ _ (Nat.min_le_right a b)]
  rw [<- hv]
  generalize Ieee.signed s m (a - min a b) + Ieee.signed t n (b - min a b) = total
  generalize min a b = c
  have hc : (0 : Int) < ((2 ^ c : Nat) : Int) := by exact_mod_cast pow_pos c
  unfold rnd
  have n1 : (total * ((2 ^ c : Nat) : Int)).natAbs = total.natAbs * 2 ^ c := by rw [Int.natAbs_mul, Int.natAbs_natCast]
  have n2 : total * ((2 ^ c : Nat) : Int) = 0 ↔ total = 0 := by
    rw [Int.mul_eq_zero]; omega
  have n3 : total * ((2 ^ c : Nat) : Int) < 0 ↔ total < 0 := by
    have : total * ((2 ^ c : Nat) : Int) < 0 * ((2 ^ c : Nat) : Int) ↔ total < 0 := Int.mul_lt_mul_right hc
    rw [Int.zero_mul] at this; exact this
  rw [n1]
  simp only [n2, n3]
  rw [<- nearest_scale]
  have := nearest_rung f (if total = 0 then s && t else decide (total < 0)) (total.natAbs * 2 ^ c) 0
  rw [show f.leastPlace - ((0 : Nat) : Int) = f.leastPlace from by omega] at this
  rw [this]
theorem add_fin (f : Format) (x y : Nat) (hx : rg f x < f.infRung) (hy : rg f y < f.infRung) : f.add x y = some (rnd f (sg f x && sg f y) (sval f x + sval f y)) := by
  obtain ⟨m, a, e1, v1⟩ := read_fin f x hx
  obtain ⟨n, b, e2, v2⟩ := read_fin f y hy
  unfold Format.add
  rw [e1, e2, sum_fin, v1, v2]
  rfl
theorem mul_fin (f : Format) (x y d : Nat) (hd : f.leastPlace = -(d : Int)) (hx : rg f x < f.infRung) (hy : rg f y < f.infRung) :
    f.mul x y = some (f.word (sg f x ^^ sg f y) (min (rung f.fractionBits d (mag f.fractionBits (rg f x) * mag f.fractionBits (rg f y))) f.infRung)) := by
  obtain ⟨m, a, e1, v1⟩ := read_fin f x hx
  obtain ⟨n, b, e2, v2⟩ := read_fin f y hy
  unfold Format.mul
  rw [e1, e2]
  simp only [Datum.product, Option.map, Format.write]
  rw [<- nearest_rung, <- v1, <- v2]
  have e : m * 2 ^ a * (n * 2 ^ b) = m * n * 2 ^ (a + b) := by
    rw [Nat.pow_add]; simp only [Nat.mul_assoc, Nat.mul_left_comm]
  rw [e, nearest_scale]
  congr 2
  omega
end Go.Proofs.YtdigecacmibkpaaGreatDoor.Tf

namespace Go.Proofs.YtdigecacmibkpaaGreatDoor.Tf
open Ieee
theorem d_sw : double.signWeight = 9223372036854775808 := by decide
theorem d_inf : double.infRung = 9218868437227405312 := by decide
theorem d_bin : double.binade = 4503599627370496 := by decide
theorem d_he : double.binade <= double.infRung := by decide
theorem d_lp : double.leastPlace = -((1074 : Nat) : Int) := by decide
theorem d_fb : double.fractionBits = 52 := rfl
theorem d_word (neg : Bool) (r : Nat) : double.word neg r = if neg then 9223372036854775808 + r else r := by
  unfold Format.word; rw [d_sw]
def mg (x : Nat) : Nat := x % 9223372036854775808
def ng (x : Nat) : Bool := decide (9223372036854775808 <= x)
def isN (x : Nat) : Bool := decide (9218868437227405312 < mg x)
def rk (x : Nat) : Int := if ng x then -(mg x : Int) else (mg x : Int)
def mv (r : Nat) : Nat := mag 52 r
def sv (x : Nat) : Int := if ng x then -(mv (mg x) : Int) else (mv (mg x) : Int)
theorem mg_lt (x : Nat) : mg x < 9223372036854775808 := by unfold mg; omega
theorem rg_d (x : Nat) : rg double x = mg x := by unfold rg mg; rw [d_sw]
theorem sg_d (x : Nat) (hx : x < 18446744073709551616) : sg double x = ng x := by
  unfold sg ng; rw [d_sw]
  by_cases h : 9223372036854775808 <= x
  · have : x / 9223372036854775808 = 1 := by omega
    rw [this]; simp [h]
  · have : x / 9223372036854775808 = 0 := by omega
    rw [this]; simp [h]
theorem sval_d (x : Nat) (hx : x < 18446744073709551616) : sval double x = sv x := by
  unfold sval sv mv; rw [rg_d, sg_d x hx, d_fb]
theorem isN_false {x : Nat} : isN x = false ↔ mg x <= 9218868437227405312 := by unfold isN; simp
theorem isN_true {x : Nat} : isN x = true ↔ 9218868437227405312 < mg x := by unfold isN; simp
theorem sv_lt_iff (x y : Nat) : sv x < sv y ↔ rk x < rk y := by
  unfold sv rk mv
  have a := @mag_lt 52 (mg x) (mg y)
  have b := @mag_lt 52 (mg y) (mg x)
  have c := @mag_lt 52 0 (mg x)
  have d := @mag_lt 52 0 (mg y)
  rw [mag_zero] at c d
  by_cases h1 : ng x = true <;> by_cases h2 : ng y = true <;> simp only [h1, h2, if_true] <;> simp <;> omega
theorem compare_lt_congr (a b c d : Int) (h1 : a < b ↔ c < d) (h2 : b < a ↔ d < c) : compare a b = compare c d := by
  have h3 : a = b ↔ c = d := by omega
  simp only [compare, compareOfLessAndEq, h1, h3]
theorem comp_lt {a b : Int} (h : a < b) : compare a b = .lt := by simp [compare, compareOfLessAndEq, h]
theorem comp_gt {a b : Int} (h : b < a) : compare a b = .gt := by
  have h1 : ¬ a < b := by omega
  have h2 : ¬ a = b := by omega
  simp [compare, compareOfLessAndEq, h1, h2]
theorem order_rk (x y : Nat) (hx : x < 18446744073709551616) (hy : y < 18446744073709551616) (nx : isN x = false) (ny : isN y = false) :
    double.order x y = some (compare (rk x) (rk y)) := by
  rw [isN_false] at nx ny
  have ex := rg_d x
  have ey := rg_d y
  have ei := d_inf
  by_cases fx : mg x < 9218868437227405312
  · by_cases fy : mg y < 9218868437227405312
    · rw [order_fin double x y (by omega) (by omega), sval_d x hx, sval_d y hy]
      rw [compare_lt_congr _ _ _ _ (sv_lt_iff x y) (sv_lt_iff y x)]
    · obtain ⟨m, a, e1, v1⟩ := read_fin double x (by omega)
      unfold Format.order
      rw [e1, read_inf double y d_he (by omega), sg_d y hy]
      have hr : mg y = 9218868437227405312 := by omega
      unfold Datum.order rk
      rw [hr]
      cases h : ng y
      · have : (if ng x = true then -(mg x : Int) else (mg x : Int)) < ((9218868437227405312 : Nat) : Int) := by split <;> omega
        simp only [Bool.false_eq_true, if_false]; rw [comp_lt this]
      · have : -((9218868437227405312 : Nat) : Int) < (if ng x = true then -(mg x : Int) else (mg x : Int)) := by split <;> omega
        simp only [if_true]; rw [comp_gt this]
  · have hr : mg x = 9218868437227405312 := by omega
    by_cases fy : mg y < 9218868437227405312
    · obtain ⟨m, a, e1, v1⟩ := read_fin double y (by omega)
      unfold Format.order
      rw [e1, read_inf double x d_he (by omega), sg_d x hx]
      unfold Datum.order rk
      rw [hr]
      cases h : ng x
      · have : (if ng y = true then -(mg y : Int) else (mg y : Int)) < ((9218868437227405312 : Nat) : Int) := by split <;> omega
        simp only [Bool.false_eq_true, if_false]; rw [comp_gt this]
      · have : -((9218868437227405312 : Nat) : Int) < (if ng y = true then -(mg y : Int) else (mg y : Int)) := by split <;> omega
        simp only [if_true]; rw [comp_lt this]
    · have hr2 : mg y = 9218868437227405312 := by omega
      unfold Format.order
      rw [read_inf double x d_he (by omega), read_inf double y d_he (by omega), sg_d x hx, sg_d y hy]
      unfold Datum.order rk
      rw [hr, hr2]
      cases ng x <;> cases ng y <;> decide
theorem order_nan (x y : Nat) (h : isN x = true \/ isN y = true) : double.order x y = none := by
  rw [isN_true, isN_true] at h
  have ex := rg_d x
  have ey := rg_d y
  have ei := d_inf
  rcases h with h | h
  · exact order_nan_left double x y d_he (by omega)
  · exact order_nan_right double x y d_he (by omega)
def feq (x y : Nat) : Bool := double.order x y == some .eq
def flt (x y : Nat) : Bool := double.order x y == some .lt
def fgt (x y : Nat) : Bool := double.order x y == some .gt
theorem cmp_eq (a b : Int) : (some (compare a b) == some Ordering.eq) = decide (a = b) := by
  by_cases h : a = b
  · subst h; simp [compare, compareOfLessAndEq]
  · by_cases h' : a < b <;> simp [compare, compareOfLessAndEq, h, h']
theorem cmp_lt (a b : Int) : (some (compare a b) == some Ordering.lt) = decide (a < b) := by
  by_cases h' : a < b
  · simp [compare, compareOfLessAndEq, h']
  · by_cases h : a = b <;> simp [compare, compareOfLessAndEq, h, h']
theorem cmp_gt (a b : Int) : (some (compare a b) == some Ordering.gt) = decide (b < a) := by
  by_cases h' : a < b
  · have : ¬ b < a := by omega
    simp [compare, compareOfLessAndEq, h', this]
  · by_cases h : a = b
    · subst h; simp [compare, compareOfLessAndEq]
    · have : b < a := by omega
      simp [compare, compareOfLessAndEq, h, h', this]
theorem feq_rk (x y : Nat) (hx : x < 18446744073709551616) (hy : y < 18446744073709551616) : feq x y = (!isN x && !isN y && decide (rk x = rk y)) := by
  unfold feq
  cases nx : isN x
  · cases ny : isN y
    · rw [order_rk x y hx hy nx ny, cmp_eq]; simp
    · rw [order_nan x y (.inr ny)]; simp
  · rw [order_nan x y (.inl nx)]; simp
theorem flt_rk (x y : Nat) (hx : x < 18446744073709551616) (hy : y < 18446744073709551616) : flt x y = (!isN x && !isN y && decide (rk x < rk y)) := by
  unfold flt
  cases nx : isN x
  · cases ny : isN y
    · rw [order_rk x y hx hy nx ny, cmp_lt]; simp
    · rw [order_nan x y (.inr ny)]; simp
  · rw [order_nan x y (.inl nx)]; simp
theorem fgt_rk (x y : Nat) (hx : x < 18446744073709551616) (hy : y < 18446744073709551616) : fgt x y = (!isN x && !isN y && decide (rk y < rk x)) := by
  unfold fgt
  cases nx : isN x
  · cases ny : isN y
    · rw [order_rk x y hx hy nx ny, cmp_gt]; simp
    · rw [order_nan x y (.inr ny)]; simp
  · rw [order_nan x y (.inl nx)]; simp
end Go.Proofs.YtdigecacmibkpaaGreatDoor.Tf

namespace Go.Proofs.YtdigecacmibkpaaGreatDoor.Tf
open Ieee
def rn (z : Bool) (v : Int) : Nat :=
  if (if v = 0 then z else decide (v < 0)) then 9223372036854775808 + min (rung 52 0 v.natAbs) 9218868437227405312 else min (rung 52 0 v.natAbs) 9218868437227405312
theorem rnd_d (z : Bool) (v : Int) : rnd double z v = rn z v := by
  unfold rnd rn; rw [d_word, d_inf]; rfl
theorem rn_lt (z : Bool) (v : Int) : rn z v < 18446744073709551616 := by
  unfold rn
  generalize (if v = 0 then z else decide (v < 0)) = c
  cases c <;> simp <;> omega
theorem add_d (x y : Nat) (hx : x < 18446744073709551616) (hy : y < 18446744073709551616) (fx : mg x < 9218868437227405312) (fy : mg y < 9218868437227405312) :
    double.add x y = some (rn (ng x && ng y) (sv x + sv y)) := by
  have ei := d_inf
  rw [add_fin double x y (by rw [rg_d]; omega) (by rw [rg_d]; omega), rnd_d, sg_d x hx, sg_d y hy, sval_d x hx, sval_d y hy]
theorem mul_d (x y : Nat) (hx : x < 18446744073709551616) (hy : y < 18446744073709551616) (fx : mg x < 9218868437227405312) (fy : mg y < 9218868437227405312) :
    double.mul x y = some (if (ng x ^^ ng y) then 9223372036854775808 + min (rung 52 1074 (mv (mg x) * mv (mg y))) 9218868437227405312 else min (rung 52 1074 (mv (mg x) * mv (mg y))) 9218868437227405312) := by
  have ei := d_inf
  rw [mul_fin double x y 1074 d_lp (by rw [rg_d]; omega) (by rw [rg_d]; omega), sg_d x hx, sg_d y hy, rg_d, rg_d, d_word, d_inf]
  rfl
theorem mv_zero : mv 0 = 0 := mag_zero 52
theorem mv_lt {r r' : Nat} : mv r < mv r' ↔ r < r' := mag_lt
theorem mv_le {r r' : Nat} : mv r <= mv r' ↔ r <= r' := mag_le
theorem mv_inj {r r' : Nat} : mv r = mv r' ↔ r = r' := mag_inj
theorem rung_mv (r : Nat) : rung 52 0 (mv r) = r := rung_mag0 52 r (by omega)
theorem rn_zero (z : Bool) : rn z 0 = if z then 9223372036854775808 else 0 := by
  unfold rn
  have : rung 52 0 0 = 0 := by have := rung_mv 0; rwa [mv_zero] at this
  simp [this]
theorem mg_of_lt {x : Nat} (h : x < 9223372036854775808) : mg x = x := by unfold mg; omega
theorem mg_of_ge {x : Nat} (h : 9223372036854775808 <= x) (h' : x < 18446744073709551616) : mg x = x - 9223372036854775808 := by unfold mg; omega
theorem ng_of_lt {x : Nat} (h : x < 9223372036854775808) : ng x = false := by unfold ng; simp; omega
theorem ng_of_ge {x : Nat} (h : 9223372036854775808 <= x) : ng x = true := by unfold ng; simp; omega
theorem lt_of_ng {x : Nat} (h : ng x = false) : x < 9223372036854775808 := by unfold ng at h; simp at h; omega
theorem ge_of_ng {x : Nat} (h : ng x = true) : 9223372036854775808 <= x := by unfold ng at h; simp at h; omega
theorem word_eq (x : Nat) (hx : x < 18446744073709551616) : x = if ng x then 9223372036854775808 + mg x else mg x := by
  cases h : ng x
  · have := lt_of_ng h; simp [mg_of_lt this]
  · have := ge_of_ng h; simp [mg_of_ge this hx]; omega
end Go.Proofs.YtdigecacmibkpaaGreatDoor.Tf

namespace Go.Proofs.YtdigecacmibkpaaGreatDoor
open Go.RowKit Tf
theorem andNot_sign (x : Nat) (hx : x < 18446744073709551616) : bits .andNot .u64 (x : Int) 9223372036854775808 = ((mg x : Nat) : Int) := by
  unfold mg
  have h0 : (0 : Int) <= x := by omega
  have h1 : (x : Int) < 18446744073709551616 := by omega
  rw [show ((x % 9223372036854775808 : Nat) : Int) = (x : Int) % 9223372036854775808 from by omega]
  generalize (x : Int) = z at *
  go_bits2
theorem and_sign (x : Nat) (hx : x < 18446744073709551616) : (bits .and .u64 (x : Int) 9223372036854775808 != 0) = ng x := by
  unfold ng
  have h0 : (0 : Int) <= x := by omega
  have h1 : (x : Int) < 18446744073709551616 := by omega
  have e : bits .and .u64 (x : Int) 9223372036854775808 = (x : Int) - (x : Int) % 9223372036854775808 := by
    generalize (x : Int) = z at *
    go_bits2
  rw [e]
  by_cases h : 9223372036854775808 <= x
  · simp only [h, decide_true, bne_iff_ne]; omega
  · simp only [h, decide_false, bne_eq_false_iff_eq]; omega
theorem or_sign (x : Nat) (hx : x < 9223372036854775808) : bits .or .u64 (x : Int) 9223372036854775808 = ((x + 9223372036854775808 : Nat) : Int) := by
  have h0 : (0 : Int) <= x := by omega
  have h1 : (x : Int) < 9223372036854775808 := by omega
  rw [show ((x + 9223372036854775808 : Nat) : Int) = (x : Int) + 9223372036854775808 from by omega]
  generalize (x : Int) = z at *
  go_bits2
theorem not_all (x : Nat) (hx : x < 18446744073709551616) : bits .xor .u64 IntKind.u64.max (x : Int) = ((18446744073709551615 - x : Nat) : Int) := by
  show IntKind.u64.wrap ((BitVec.ofInt 64 IntKind.u64.max ^^^ BitVec.ofInt 64 (x : Int)).toNat : Int) = _
  have h1 : BitVec.ofInt 64 IntKind.u64.max = BitVec.allOnes 64 := by decide
  rw [h1, BitVec.allOnes_xor, BitVec.toNat_not, ofInt_u64 x (by omega)]
  simp [IntKind.wrap, IntKind.bits, IntKind.signed]
  omega
/-! The answers, as functions of the bits. -/
def quiet : Nat := 9221120237041090561
def classB (x : Nat) : Int := if mg x = 0 then 0 else if mg x < 4503599627370496 then 1 else if mg x < 9218868437227405312 then 2 else if mg x = 9218868437227405312 then 3 else 4
def canonB (x : Nat) : Nat := if isN x then quiet else if mg x = 0 then 0 else x
def negB (x : Nat) : Nat := if ng x then x - 9223372036854775808 else x + 9223372036854775808
def placeB (x : Nat) : Nat := if ng x then 18446744073709551615 - x else x + 9223372036854775808
def orderB (a b : Nat) : Int := if placeB a < placeB b then -1 else if placeB b < placeB a then 1 else 0
def fin (x : Nat) : Bool := decide (mg x < 9218868437227405312)
theorem quiet_lt : quiet < 18446744073709551616 := by decide
end Go.Proofs.YtdigecacmibkpaaGreatDoor

namespace Go.Proofs.YtdigecacmibkpaaGreatDoor
open Tf
def R (v : Int) : Int := if v < 0 then -(min (rung 52 0 v.natAbs) 9218868437227405312 : Nat) else (min (rung 52 0 v.natAbs) 9218868437227405312 : Nat)
theorem rn_mg (z : Bool) (v : Int) : mg (rn z v) = min (rung 52 0 v.natAbs) 9218868437227405312 := by
  unfold rn
  generalize (if v = 0 then z else decide (v < 0)) = c
  cases c
  · simp only [Bool.false_eq_true, if_false]; rw [mg_of_lt (by omega)]
  · simp only [if_true]; rw [mg_of_ge (by omega) (by omega)]; omega
theorem isN_rn (z : Bool) (v : Int) : isN (rn z v) = false := isN_false.2 (by rw [rn_mg]; omega)
theorem rung_zero : rung 52 0 0 = 0 := by have := rung_mv 0; rwa [mv_zero] at this
theorem R_mono {v v' : Int} (h : v <= v') : R v <= R v' := by
  unfold R
  by_cases a : v < 0
  · rw [if_pos a]
    by_cases b : v' < 0
    · rw [if_pos b]
      have := rung_mono (p := 52) (d := 0) (V := v'.natAbs) (V' := v.natAbs) (by omega) (by omega)
      omega
    · rw [if_neg b]; omega
  · rw [if_neg a, if_neg (by omega)]
    have := rung_mono (p := 52) (d := 0) (V := v.natAbs) (V' := v'.natAbs) (by omega) (by omega)
    omega
end Go.Proofs.YtdigecacmibkpaaGreatDoor
