/-
  Corners, middles, lengths, gaps and areas of cells by plain numbers (no program).
-/
import Derived.Test.YtdgkmaamjdglmaaDoorQa
import Derived.Test.YtdgkmaamjdglmaaDoorKt
namespace Go.Proofs.YtdgkmaamjdglmaaDoor
open Tf Ieee Cu
theorem turned_geo {n M c s t k : Nat} (hn : 1 ≤ n) (hM : 6 * n * n = M) (hc : c < M) (hs : s < 4) (ht : t < 24) (hk : k < M) :
    (tnC n t c < M ∧ tnS n t c < 4 ∧ bsC n c s < M ∧ bsS n c s < 4 ∧ tnS n t (bsC n c s) < 4) ∧ bsC n (tnC n t c) ((s + tnS n t c) % 4) = tnC n t (bsC n c s) ∧ bsS n (tnC n t c) ((s + tnS n t c) % 4) = (bsS n c s + tnS n t (bsC n c s)) % 4 ∧ (tnC n t k = tnC n t c ↔ k = c) ∧ tnC n 0 c = c ∧ tnS n 0 c = 0 := by
  subst hM
  obtain ⟨f, a, b, hf, ha, hb, rfl⟩ := Pn_ex hn hc hs
  obtain ⟨t1, t2⟩ := tf_lt t ht f hf
  obtain ⟨f1, f2⟩ := nf_lt f hf s hs
  obtain ⟨u1, u2⟩ := tf_lt t ht _ f1
  obtain ⟨b1, b2⟩ := bs_Pn (f := f) hs ha hb
  obtain ⟨c1, c2⟩ := tn_Pn ht hf hs ha hb
  obtain ⟨z1, z2⟩ := tf_zero f hf
  obtain ⟨d1, d2⟩ := tn_Pn (t := 0) (by omega) hf hs ha hb
  have hq : (s + tq t f) % 4 < 4 := by omega
  have hzero : tnC n 0 (Pn n f s a b) = Pn n f s a b ∧ tnS n 0 (Pn n f s a b) = 0 := by
    rw [d1, d2, z1, z2, Nat.add_zero, Nat.mod_eq_of_lt hs]; exact ⟨rfl, rfl⟩
  have hinj : tnC n t k = tnC n t (Pn n f s a b) ↔ k = Pn n f s a b := by
    obtain ⟨f', a', b', hf', ha', hb', rfl⟩ := Pn_ex hn hk hs
    obtain ⟨g1, g2⟩ := tn_Pn ht hf' hs ha' hb'
    refine ⟨fun e => ?_, fun e => by rw [e]⟩
    rw [g1, c1] at e
    have e1 := (Pn_dec (f := tf t f') (show (s + tq t f') % 4 < 4 by omega) ha' hb').1
    have e2 := (Pn_dec (f := tf t f) hq ha hb).1
    rw [e, e2] at e1
    have ef := tf_inj t ht f hf f' hf' e1
    subst ef
    obtain ⟨_, h1, h2⟩ := Pn_inj hq ha' hb' ha hb e
    rw [h1, h2]
  obtain ⟨v1, v2⟩ := nf_tf t ht f hf s hs
  by_cases h : a + 1 < n
  · rw [if_pos h] at b1 b2
    obtain ⟨e1, e2⟩ := tn_Pn (t := t) (f := f) (s := s) (b := b) ht hf hs h hb
    obtain ⟨g1, g2⟩ := bs_Pn (f := tf t f) hq ha hb
    rw [if_pos h] at g1 g2
    rw [b1, b2, e1, e2, c1, c2, g1, g2]
    refine ⟨⟨Pn_lt t1 ha hb, t2, Pn_lt hf h hb, by omega, t2⟩, rfl, by omega, ?_, hzero⟩
    rw [← c1]; exact hinj
  · rw [if_neg h] at b1 b2
    have h0 : 0 < n := by omega
    obtain ⟨e1, e2⟩ := tn_Pn (t := t) ht f1 f2 h0 hb
    obtain ⟨g1, g2⟩ := bs_Pn (f := tf t f) hq ha hb
    rw [if_neg h, v1, v2] at g1
    rw [if_neg h, v2] at g2
    rw [b1, b2, e1, e2, c1, c2, g1, g2]
    refine ⟨⟨Pn_lt t1 ha hb, t2, Pn_lt f1 h0 hb, by omega, u2⟩, rfl, by omega, ?_, hzero⟩
    rw [← c1]; exact hinj

/-- a corner of a face's net -/
def cr (n f i j : Nat) : P3 := pl (sc n (cC f)) (pl (sc (2 * i - n) (cR f)) (sc (2 * j - n) (cU f)))
/-- the two corners of a side -/
def e1 (n f s i j : Nat) : P3 := match s with | 0 => cr n f (i + 1) j | 1 => cr n f i (j + 1) | 2 => cr n f i j | _ => cr n f i j
def e2 (n f s i j : Nat) : P3 := match s with | 0 => cr n f (i + 1) (j + 1) | 1 => cr n f (i + 1) (j + 1) | 2 => cr n f i (j + 1) | _ => cr n f (i + 1) j
def Ep (n f s i j : Nat) : P3 := pl (pl (md n f i j) (wy f s)) (wy f ((s + 1) % 4))
def Em (n f s i j : Nat) : P3 := pl (pl (md n f i j) (wy f s)) (sc (-1) (wy f ((s + 1) % 4)))
theorem e_cases {n f s i j : Nat} (hf : f < 6) (hs : s < 4) : (e1 n f s i j = Ep n f s i j ∧ e2 n f s i j = Em n f s i j) ∨ (e1 n f s i j = Em n f s i j ∧ e2 n f s i j = Ep n f s i j) := by
  rcases Cu.four hs with rfl | rfl | rfl | rfl
  · right
    rcases six hf with rfl | rfl | rfl | rfl | rfl | rfl <;> simp only [e1, e2, Ep, Em, cr, md, pl, sc, cC, cR, cU, wy, Nat.reduceAdd, Nat.reduceMod, Prod.mk.injEq] <;> omega
  · left
    rcases six hf with rfl | rfl | rfl | rfl | rfl | rfl <;> simp only [e1, e2, Ep, Em, cr, md, pl, sc, cC, cR, cU, wy, Nat.reduceAdd, Nat.reduceMod, Prod.mk.injEq] <;> omega
  · left
    rcases six hf with rfl | rfl | rfl | rfl | rfl | rfl <;> simp only [e1, e2, Ep, Em, cr, md, pl, sc, cC, cR, cU, wy, Nat.reduceAdd, Nat.reduceMod, Prod.mk.injEq] <;> omega
  · right
    rcases six hf with rfl | rfl | rfl | rfl | rfl | rfl <;> simp only [e1, e2, Ep, Em, cr, md, pl, sc, cC, cR, cU, wy, Nat.reduceAdd, Nat.reduceMod, Prod.mk.injEq] <;> omega
/-- of a cell by its number: its middle, the corners of a side, their gap, the gap of the middles, twice its area -/
def MD (n c : Nat) : P3 := md n (cf n c) (ci n c) (cj n c)
def C1 (n c s : Nat) : P3 := e1 n (cf n c) s (ci n c) (cj n c)
def C2 (n c s : Nat) : P3 := e2 n (cf n c) s (ci n c) (cj n c)
def EP (n c s : Nat) : P3 := Ep n (cf n c) s (ci n c) (cj n c)
def EM (n c s : Nat) : P3 := Em n (cf n c) s (ci n c) (cj n c)
def LnC (n c s : Nat) : Nat := gp n (C1 n c s) (C2 n c s)
def GpC (n c s : Nat) : Nat := gp n (MD n c) (MD n (bsC n c s))
def ArC (n c : Nat) : Nat := ar n (cr n (cf n c) (ci n c) (cj n c)) (cr n (cf n c) (ci n c + 1) (cj n c)) (cr n (cf n c) (ci n c + 1) (cj n c + 1)) (cr n (cf n c) (ci n c) (cj n c + 1))
theorem LnC_pm {n c s : Nat} (hn : 1 ≤ n) (hc : c < 6 * n * n) (hs : s < 4) : LnC n c s = gp n (EP n c s) (EM n c s) := by
  have hf := (dec_lt hn hc).1
  unfold LnC C1 C2 EP EM
  rcases e_cases (n := n) (i := ci n c) (j := cj n c) hf hs with ⟨a, b⟩ | ⟨a, b⟩
  · rw [a, b]
  · rw [a, b, gp_comm]
theorem MD_Pn {n f s a b : Nat} (hf : f < 6) (hs : s < 4) (ha : a < n) (hb : b < n) : MD n (Pn n f s a b) = ms n f s a b ∧ cf n (Pn n f s a b) = f := by
  have h := at_lt (s := s) ha hb
  obtain ⟨h1, h2, h3⟩ := nm_dec (f := f) h.1 h.2
  unfold MD Pn
  rw [h1, h2, h3, md_ms hf hs ha hb]
  exact ⟨rfl, rfl⟩
theorem EP_MD (n c s : Nat) : EP n c s = pl (pl (MD n c) (wy (cf n c) s)) (wy (cf n c) ((s + 1) % 4)) := rfl
theorem EM_MD (n c s : Nat) : EM n c s = pl (pl (MD n c) (wy (cf n c) s)) (sc (-1) (wy (cf n c) ((s + 1) % 4))) := rfl
theorem alg1 (m w v : P3) : pl (pl (pl (pl m w) w) (sc (-1) w)) (sc (-1) v) = pl (pl m w) (sc (-1) v) := by simp only [pl, sc, Prod.mk.injEq]; omega
theorem alg2 (m w v : P3) : pl (pl (pl (pl m w) w) (sc (-1) w)) (sc (-1) (sc (-1) v)) = pl (pl m w) v := by simp only [pl, sc, Prod.mk.injEq]; omega
theorem alg3 (m w c v : P3) : pl (pl (pl (pl m w) (sc (-1) c)) c) (sc (-1) v) = pl (pl m w) (sc (-1) v) := by simp only [pl, sc, Prod.mk.injEq]; omega
theorem alg4 (m w c v : P3) : pl (pl (pl (pl m w) (sc (-1) c)) c) (sc (-1) (sc (-1) v)) = pl (pl m w) v := by simp only [pl, sc, Prod.mk.injEq]; omega
/-- the corners of a side are those of the side that lies there -/
theorem ends_beside {n c s : Nat} (hn : 1 ≤ n) (hc : c < 6 * n * n) (hs : s < 4) : EP n (bsC n c s) (bsS n c s) = EM n c s ∧ EM n (bsC n c s) (bsS n c s) = EP n c s := by
  obtain ⟨f, a, b, hf, ha, hb, rfl⟩ := Pn_ex hn hc hs
  obtain ⟨b1, b2⟩ := bs_Pn (f := f) hs ha hb
  obtain ⟨m1, m2⟩ := MD_Pn hf hs ha hb
  have hw := (wy_back f hf s hs).1
  by_cases h : a + 1 < n
  · rw [if_pos h] at b1 b2
    obtain ⟨m3, m4⟩ := MD_Pn hf hs h hb
    have hw' := (wy_back f hf ((s + 1) % 4) (by omega)).1
    rw [EP_MD, EM_MD, EP_MD, EM_MD, b1, b2, m1, m2, m3, m4, (ms_step hf hs).2.symm, ← hw, show ((s + 2) % 4 + 1) % 4 = ((s + 1) % 4 + 2) % 4 by omega, ← hw']
    exact ⟨alg1 _ _ _, alg2 _ _ _⟩
  · rw [if_neg h] at b1 b2
    obtain ⟨f1, f2⟩ := nf_lt f hf s hs
    obtain ⟨m3, m4⟩ := MD_Pn (b := b) f1 f2 (show 0 < n by omega) hb
    have hC := (wy_back f hf s hs).2
    have hw' := (wy_back (nf f s) f1 ((ns f s + 1) % 4) (by omega)).1
    have hon := (wy_on f hf s hs).2.2
    rw [EP_MD, EM_MD, EP_MD, EM_MD, b1, b2, m1, m2, m3, m4, (ms_edge (b := b) hf hs (show a + 1 = n by omega)).symm, ← hC, show ((ns f s + 2) % 4 + 1) % 4 = ((ns f s + 1) % 4 + 2) % 4 by omega, ← hw', hon]
    exact ⟨alg3 _ _ _ _, alg4 _ _ _ _⟩
theorem len_beside {n c s : Nat} (hn : 1 ≤ n) (hc : c < 6 * n * n) (hs : s < 4) (hc' : bsC n c s < 6 * n * n) (hs' : bsS n c s < 4) : LnC n (bsC n c s) (bsS n c s) = LnC n c s := by
  rw [LnC_pm hn hc hs, LnC_pm hn hc' hs', (ends_beside hn hc hs).1, (ends_beside hn hc hs).2, gp_comm]
theorem ro_pl (t : Nat) (p q : P3) : ro t (pl p q) = pl (ro t p) (ro t q) := by
  simp only [ro, pl, sc, Prod.mk.injEq]
  refine ⟨?_, ?_, ?_⟩ <;> simp only [Int.add_mul] <;> omega
theorem ro_sc (t : Nat) (k : Int) (p : P3) : ro t (sc k p) = sc k (ro t p) := by
  simp only [ro, pl, sc, Prod.mk.injEq]
  refine ⟨?_, ?_, ?_⟩ <;> simp only [Int.mul_add, Int.mul_assoc]
theorem ro_wy : ∀ t < 24, ∀ f < 6, ∀ s < 4, ro t (wy f s) = wy (tf t f) ((s + tq t f) % 4) := by decide +kernel
theorem tn_dec {n t c : Nat} (hn : 1 ≤ n) (hc : c < 6 * n * n) (ht : t < 24) : cf n (tnC n t c) = tf t (cf n c) ∧ MD n (tnC n t c) = ro t (MD n c) := by
  obtain ⟨h1, h2, h3, _⟩ := dec_lt hn hc
  obtain ⟨t1, t2⟩ := tf_lt t ht _ h1
  unfold tnC
  obtain ⟨m1, m2⟩ := MD_Pn t1 t2 h2 h3
  refine ⟨m2, ?_⟩
  rw [m1]
  unfold MD
  rw [ro_md ht h1 h2 h3, md_ms t1 t2 h2 h3]
theorem ends_turn {n t c s : Nat} (hn : 1 ≤ n) (hc : c < 6 * n * n) (hs : s < 4) (ht : t < 24) : EP n (tnC n t c) ((s + tnS n t c) % 4) = ro t (EP n c s) ∧ EM n (tnC n t c) ((s + tnS n t c) % 4) = ro t (EM n c s) := by
  have h1 := (dec_lt hn hc).1
  obtain ⟨d1, d2⟩ := tn_dec hn hc ht
  have w1 := ro_wy t ht _ h1 s hs
  have w2 := ro_wy t ht _ h1 ((s + 1) % 4) (by omega)
  rw [EP_MD, EM_MD, EP_MD, EM_MD, d1, d2]
  simp only [ro_pl, ro_sc, w1, w2]
  unfold tnS
  rw [show ((s + tq t (cf n c)) % 4 + 1) % 4 = ((s + 1) % 4 + tq t (cf n c)) % 4 by omega]
  exact ⟨rfl, rfl⟩
theorem len_turn {n t c s : Nat} (hn : 1 ≤ n) (h32 : n ≤ 32) (hc : c < 6 * n * n) (hs : s < 4) (ht : t < 24) (hc' : tnC n t c < 6 * n * n) : LnC n (tnC n t c) ((s + tnS n t c) % 4) = LnC n c s := by
  rw [LnC_pm hn hc hs, LnC_pm hn hc' (by omega), (ends_turn hn hc hs ht).1, (ends_turn hn hc hs ht).2, gp_ro hn h32 t ht]
theorem gap_turn {n t c s : Nat} (hn : 1 ≤ n) (h32 : n ≤ 32) (hc : c < 6 * n * n) (hs : s < 4) (ht : t < 24) : GpC n (tnC n t c) ((s + tnS n t c) % 4) = GpC n c s := by
  obtain ⟨h1, h2, -⟩ := turned_geo (k := c) hn rfl hc hs ht hc
  unfold GpC
  rw [h2, (tn_dec hn hc ht).2, (tn_dec hn h1.2.2.1 ht).2, gp_ro hn h32 t ht]
/-- the area, seen in another way -/
def Aw (n : Nat) (m w v : P3) : Nat := ar n (pl (pl m (sc (-1) w)) (sc (-1) v)) (pl (pl m w) (sc (-1) v)) (pl (pl m w) v) (pl (pl m (sc (-1) w)) v)
theorem Aw_rot (n : Nat) (m w v : P3) : Aw n m v (sc (-1) w) = Aw n m w v := by
  unfold Aw
  have a1 : pl (pl m (sc (-1) v)) (sc (-1) (sc (-1) w)) = pl (pl m w) (sc (-1) v) := by simp only [pl, sc, Prod.mk.injEq]; omega
  have a2 : pl (pl m v) (sc (-1) (sc (-1) w)) = pl (pl m w) v := by simp only [pl, sc, Prod.mk.injEq]; omega
  have a3 : pl (pl m v) (sc (-1) w) = pl (pl m (sc (-1) w)) v := by simp only [pl, sc, Prod.mk.injEq]; omega
  have a4 : pl (pl m (sc (-1) v)) (sc (-1) w) = pl (pl m (sc (-1) w)) (sc (-1) v) := by simp only [pl, sc, Prod.mk.injEq]; omega
  rw [a1, a2, a3, a4]
  exact ar_cyc _ _ _ _ _
theorem Aw_way (n f : Nat) (m : P3) {s : Nat} (hs : s < 4) : Aw n m (wy f s) (wy f ((s + 1) % 4)) = Aw n m (cR f) (cU f) := by
  have r2 : sc (-1) (sc (-1) (cR f)) = cR f := by simp only [sc]; ext <;> simp <;> omega
  rcases Cu.four hs with rfl | rfl | rfl | rfl
  · rfl
  · exact Aw_rot n m (cR f) (cU f)
  · exact (Aw_rot n m (cU f) (sc (-1) (cR f))).trans (Aw_rot n m (cR f) (cU f))
  · have h := Aw_rot n m (sc (-1) (cR f)) (sc (-1) (cU f))
    rw [r2] at h
    exact h.trans ((Aw_rot n m (cU f) (sc (-1) (cR f))).trans (Aw_rot n m (cR f) (cU f)))
theorem ArC_Aw {n c : Nat} (hn : 1 ≤ n) (hc : c < 6 * n * n) : ArC n c = Aw n (MD n c) (cR (cf n c)) (cU (cf n c)) := by
  have hf := (dec_lt hn hc).1
  unfold ArC Aw MD
  generalize cf n c = f at *
  generalize ci n c = i
  generalize cj n c = j
  have k1 : cr n f i j = pl (pl (md n f i j) (sc (-1) (cR f))) (sc (-1) (cU f)) := by
    rcases six hf with rfl | rfl | rfl | rfl | rfl | rfl <;> simp only [cr, md, pl, sc, cC, cR, cU, Prod.mk.injEq] <;> omega
  have k2 : cr n f (i + 1) j = pl (pl (md n f i j) (cR f)) (sc (-1) (cU f)) := by
    rcases six hf with rfl | rfl | rfl | rfl | rfl | rfl <;> simp only [cr, md, pl, sc, cC, cR, cU, Prod.mk.injEq] <;> omega
  have k3 : cr n f (i + 1) (j + 1) = pl (pl (md n f i j) (cR f)) (cU f) := by
    rcases six hf with rfl | rfl | rfl | rfl | rfl | rfl <;> simp only [cr, md, pl, sc, cC, cR, cU, Prod.mk.injEq] <;> omega
  have k4 : cr n f i (j + 1) = pl (pl (md n f i j) (sc (-1) (cR f))) (cU f) := by
    rcases six hf with rfl | rfl | rfl | rfl | rfl | rfl <;> simp only [cr, md, pl, sc, cC, cR, cU, Prod.mk.injEq] <;> omega
  rw [k1, k2, k3, k4]
theorem area_turn {n t c : Nat} (hn : 1 ≤ n) (h32 : n ≤ 32) (hc : c < 6 * n * n) (ht : t < 24) (hc' : tnC n t c < 6 * n * n) : ArC n (tnC n t c) = ArC n c := by
  have h1 := (dec_lt hn hc).1
  obtain ⟨t1, t2⟩ := tf_lt t ht _ h1
  obtain ⟨d1, d2⟩ := tn_dec hn hc ht
  obtain ⟨-, r1, r2⟩ := ro_tab t ht _ h1
  rw [ArC_Aw hn hc', ArC_Aw hn hc, d1, d2, ← Aw_way n (tf t (cf n c)) _ t2, ← r1, ← r2]
  unfold Aw
  simp only [← ro_pl, ← ro_sc]
  exact ar_ro hn h32 t ht _ _ _ _
end Go.Proofs.YtdgkmaamjdglmaaDoor
