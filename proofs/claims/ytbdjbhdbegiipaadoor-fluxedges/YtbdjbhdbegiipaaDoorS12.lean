/-
  Some of the texts of this proof, one behind the other.
-/
import Derived.Deep.AppendSrc
import Derived.Deep.AppendLies
import Derived.Deep.QuietTactic
import Derived.Test.YtbdjbhdbegiipaaDoorS11
namespace Go.Proofs.YtbdjbhdbegiipaaDoor
open Go.RowKit Tf Cu Go.Deep
theorem setCells_row {b : Nat} {t : TypeId} {N : Nat} : ∀ (news : List Value) (n : Nat) (f : Nat → Value) (w : World), w.rowIs b t N f → n + news.length ≤ N → (w.setCells b n news).rowIs b t N (fun j => if n ≤ j then (news[j - n]?).getD (f j) else f j) ∧ Abx w b N t (w.setCells b n news)
  | [], n, f, w, h, _ => by
    refine ⟨h.congr (fun i _ => by simp), ?_⟩
    obtain ⟨c, hb, hn, _⟩ := h
    exact (Ab.refl w).x hn hb
  | x :: xs, n, f, w, h, hn => by
    rw [List.length_cons] at hn
    have h1 := h.set n x
    obtain ⟨r1, r2⟩ := setCells_row xs (n + 1) _ _ h1 (by omega)
    refine ⟨r1.congr (fun j _ => ?_), ?_⟩
    · by_cases c : n ≤ j
      · by_cases c2 : j = n
        · subst c2
          simp [show ¬ j + 1 ≤ j by omega]
        · have e : j - n = (j - (n + 1)) + 1 := by omega
          simp [c, c2, show n + 1 ≤ j by omega, e]
      · simp [c, show ¬ n + 1 ≤ j by omega, show ¬ j = n by omega]
    · obtain ⟨c, hb, hc, _⟩ := h
      have a1 : Abx w b N t (w.setCell ⟨b, n, none⟩ x) := ((Ab.refl w).x hc hb).set n x
      obtain ⟨⟨p1, p2, p3, p4, p5⟩, _⟩ := a1
      obtain ⟨⟨q1, q2, q3, q4, q5⟩, q6⟩ := r2
      exact ⟨⟨q1.trans p1, q2.trans p2, q3.trans p3, Nat.le_trans p4 q4, fun k hk hne => (q5 k (by omega) hne).trans (p5 k hk hne)⟩, q6⟩
theorem step_app {P : Program} {ops : Array Oper} {o : Oper} {a : Act} {w : World} {K : Act → World → Prop} {Q : Exit → Act → World → Prop} {E : Prop} (hgd : o.guard = none) (s x : Operand) (t : TypeId)
    (ho : o.op = .call { callee := .builtin .append, args := #[s, x], argTypes := #[t, t] })
    (e : TypeId) (i : TypeInfo) (ht : P.underlying t = some (.slice e)) (hi : P.info? e = some i) (hsz : i.size = 1)
    (b n cap : Nat) (f : Nat → Value) (hs : a.eval s = .slice (some ⟨b, 0, none⟩) n cap) (row : w.rowIs b e cap f)
    (src : Value) (m : Nat) (news : List Value) (hx : a.eval x = src) (hsrc : Src P 1 t src m news w) (hroom : n + m ≤ cap) (nm : Nat) (hnm : n + m = nm)
    (h : ∀ w', w'.rowIs b e cap (fun j => if n ≤ j then (news[j - n]?).getD (f j) else f j) → Abx w b cap e w' → K (a.put o.dst (.slice (some ⟨b, 0, none⟩) nm cap)) w') :
    if Region.wanted o (yielded ops a.tmps) = true then Oper.wp P o a w K Q else E := by
  subst hnm
  have hw : Region.wanted o (yielded ops a.tmps) = true := by simp [Region.wanted, hgd]
  rw [if_pos hw]
  have hl : news.length = m := by have := hsrc.newsLen; omega
  have hr := run_append_room_src (P := P) w t t o.type e i ht hi b 0 n cap src m news (by rw [hsz]; exact hsrc) hroom
    (fun j hj => by rw [hsz]; simp only [Nat.zero_add, Nat.mul_one]; rw [row.cell (by omega)]; rfl) (fun j _ => by rw [hsz]; exact row.frozen _)
  rw [hsz, Nat.zero_add, Nat.mul_one] at hr
  obtain ⟨r1, r2⟩ := setCells_row news n f w row (by omega)
  unfold Oper.wp execOp
  simp only [ho, resolve, invoke, builtin, Sem.run_bind, Sem.run_pure, Result.andThen_ok, List.map_toArray, List.map_cons, List.map_nil, hs, hx, hr]
  exact h _ r1 r2
theorem info_f13 : ∃ i, Tryd.prog.info? 22 = some i ∧ i.size = 1 := by
  have h := infoF64
  cases e : Tryd.prog.info? 22 with
  | none => rw [e] at h; cases h
  | some i =>
    rw [e] at h
    simp at h
    exact ⟨i, rfl, h.2.1⟩
theorem info_i13 : ∃ i, Tryd.prog.info? 2 = some i ∧ i.size = 1 := by
  have h := info64
  cases e : Tryd.prog.info? 2 with
  | none => rw [e] at h; cases h
  | some i =>
    rw [e] at h
    simp at h
    exact ⟨i, rfl, h.2.1⟩
theorem src_fl {w : World} {pb : Option Addr} {L : Nat} {B : Nat → Nat} (h : IsFl w pb L B) (cb : Nat) : Src Tryd.prog 1 31 (.slice pb L cb) L ((List.range L).map fun k => Value.float .f64 (B k)) w := by
  have one : ∀ u ∈ (List.range L).map (fun k => Value.float .f64 (B k)), u.oneCell' = true := fun u hu => by
    obtain ⟨k, _, rfl⟩ := List.mem_map.1 hu
    rfl
  cases pb with
  | none =>
    have : L = 0 := by
      rcases Nat.eq_zero_or_pos L with h0 | h0
      · exact h0
      · obtain ⟨_, b, o, h2, _⟩ := h 0 h0
        cases h2
    subst this
    exact Src.ofNil w Tryd.underlying31 cb
  | some a =>
    refine Src.ofSlice w Tryd.underlying31 a L cb _ (by simp) (fun j u hu => ?_) one
    have hj : j < L := by
      rcases Nat.lt_or_ge j L with h1 | h1
      · exact h1
      · rw [List.getElem?_eq_none (by simpa using h1)] at hu; cases hu
    obtain ⟨_, b, o, h2, _, h4⟩ := h j hj
    cases h2
    simp [hj] at hu
    rw [add_off12, ← hu]
    exact h4
theorem src_in {w : World} {pb : Option Addr} {L : Nat} {B : Nat → Int} (h : IsIn w pb L B) (cb : Nat) : Src Tryd.prog 1 32 (.slice pb L cb) L ((List.range L).map fun k => Value.int .i64 (B k)) w := by
  have one : ∀ u ∈ (List.range L).map (fun k => Value.int .i64 (B k)), u.oneCell' = true := fun u hu => by
    obtain ⟨k, _, rfl⟩ := List.mem_map.1 hu
    rfl
  cases pb with
  | none =>
    have : L = 0 := by
      rcases Nat.eq_zero_or_pos L with h0 | h0
      · exact h0
      · obtain ⟨_, b, o, h2, _⟩ := h 0 h0
        cases h2
    subst this
    exact Src.ofNil w Tryd.underlying32 cb
  | some a =>
    refine Src.ofSlice w Tryd.underlying32 a L cb _ (by simp) (fun j u hu => ?_) one
    have hj : j < L := by
      rcases Nat.lt_or_ge j L with h1 | h1
      · exact h1
      · rw [List.getElem?_eq_none (by simpa using h1)] at hu; cases hu
    obtain ⟨_, b, o, h2, _, h4⟩ := h j hj
    cases h2
    simp [hj] at hu
    rw [add_off12, ← hu]
    exact h4
/-- a copied list: the numbers, the mark, noughts -/
def mkF (L : Nat) (g : Nat → Value) (m z : Value) (j : Nat) : Value := if j < L then g j else if j = L then m else z
theorem mk_two (L : Nat) (g : Nat → Value) (m z : Value) (j : Nat) :
    (if L ≤ j then ([m][j - L]?).getD (if 0 ≤ j then (((List.range L).map g)[j - 0]?).getD z else z) else (if 0 ≤ j then (((List.range L).map g)[j - 0]?).getD z else z)) = mkF L g m z j := by
  unfold mkF
  by_cases c : j < L
  · simp [c, show ¬ L ≤ j by omega]
  · by_cases c2 : j = L
    · subst c2
      simp
    · have e : j - L = (j - L - 1) + 1 := by omega
      rw [e]
      simp [c, c2, show L ≤ j by omega]
/-- a block of one number, in whatever world -/
theorem src_oneF {w : World} {q x : Nat} (h : w.heap[q]? = some (.cells #[.float .f64 x] 22 (0, 0))) : Src Tryd.prog 1 31 (.slice (some ⟨q, 0, none⟩) 1 1) 1 [.float .f64 x] w :=
  Src.ofSlice w Tryd.underlying31 ⟨q, 0, none⟩ 1 1 [.float .f64 x] rfl (World.news_of_block h) (fun u hu => by simp at hu; subst hu; rfl)
theorem src_oneI {w : World} {q : Nat} {x : Int} (h : w.heap[q]? = some (.cells #[.int .i64 x] 2 (0, 0))) : Src Tryd.prog 1 32 (.slice (some ⟨q, 0, none⟩) 1 1) 1 [.int .i64 x] w :=
  Src.ofSlice w Tryd.underlying32 ⟨q, 0, none⟩ 1 1 [.int .i64 x] rfl (World.news_of_block h) (fun u hu => by simp at hu; subst hu; rfl)
theorem Abx.far {V w w' : World} {g n b N : Nat} {T e : TypeId} (h : Abx V g n T w) (k : Abx w b N e w') (hb : V.heap.size ≤ b) (hg : g < V.heap.size) : Abx V g n T w' := by
  obtain ⟨⟨p1, p2, p3, p4, p5⟩, cs, p6, p7⟩ := h
  obtain ⟨⟨q1, q2, q3, q4, q5⟩, _⟩ := k
  exact ⟨⟨q1.trans p1, q2.trans p2, q3.trans p3, Nat.le_trans p4 q4, fun i hi hne => (q5 i (by omega) (by omega)).trans (p5 i hi hne)⟩, cs, p6, (q5 g (by omega) (by omega)).trans p7⟩
theorem abx_other {w w' : World} {b N q : Nat} {e : TypeId} {o : Obj} (k : Abx w b N e w') (h : w.heap[q]? = some o) (hne : q ≠ b) : w'.heap[q]? = some o := k.heap hne h
theorem make_f13 (L : Nat) (hL : L ≤ 65536) (w : World) : (Instr.makeSlice 31 (.int .i64 0) (.int .i64 ((L : Int) + 9))).run Tryd.prog w = .ok (.slice (some ⟨w.heap.size, 0, none⟩) 0 (L + 9)) (w.alloc (.cells (madeCells #[.float .f64 0] (L + 9)) 22)) := by
  obtain ⟨i, hi, hzz⟩ := Option.map_eq_some_iff.1 infoF64
  simp only [Prod.mk.injEq] at hzz
  obtain ⟨h1, h2, h3⟩ := hzz
  have h := run_make (P := Tryd.prog) w 31 22 i (.float .f64 0) Tryd.underlying31 hi h1 .i64 .i64 0 ((L : Int) + 9) (by omega) (by omega) (by rw [h3]; omega) (by omega)
  rw [h2, Nat.mul_one] at h
  have e : ((L : Int) + 9).toNat = L + 9 := by omega
  rw [e] at h
  exact h
theorem make_i13 (L : Nat) (hL : L ≤ 65536) (w : World) : (Instr.makeSlice 32 (.int .i64 0) (.int .i64 ((L : Int) + 9))).run Tryd.prog w = .ok (.slice (some ⟨w.heap.size, 0, none⟩) 0 (L + 9)) (w.alloc (.cells (madeCells #[.int .i64 0] (L + 9)) 2)) := by
  obtain ⟨i, hi, hzz⟩ := Option.map_eq_some_iff.1 info64
  simp only [Prod.mk.injEq] at hzz
  obtain ⟨h1, h2, h3⟩ := hzz
  have h := run_make (P := Tryd.prog) w 32 2 i (.int .i64 0) Tryd.underlying32 hi h1 .i64 .i64 0 ((L : Int) + 9) (by omega) (by omega) (by rw [h3]; omega) (by omega)
  rw [h2, Nat.mul_one] at h
  have e : ((L : Int) + 9).toNat = L + 9 := by omega
  rw [e] at h
  exact h
theorem wrap9 (L : Nat) (hL : L ≤ 65536) : IntKind.i64.wrap ((L : Int) + 9) = (L : Int) + 9 := by
  rw [IntKind.wrap_i64]
  omega
theorem row_m1 (V : World) (z : Value) (n : Nat) (t : TypeId) : (V.drew.alloc (.cells (madeCells #[z] n) t)).rowIs V.heap.size t n (fun _ => z) := World.rowIs_made V.drew z n t
theorem row_m2 (V : World) (z : Value) (n : Nat) (t : TypeId) (O : Obj) : ((V.drew.alloc (.cells (madeCells #[z] n) t)).alloc O).rowIs V.heap.size t n (fun _ => z) := (World.rowIs_made V.drew z n t).alloc O
theorem row_m3 (V : World) (z : Value) (n : Nat) (t : TypeId) (O : Obj) : ((V.drew.alloc O).alloc (.cells (madeCells #[z] n) t)).rowIs (V.heap.size + 1) t n (fun _ => z) := by
  have h := World.rowIs_made (V.drew.alloc O) z n t
  have e : (V.drew.alloc O).heap.size = V.heap.size + 1 := by
    show (V.heap.push O).size = _
    simp
  rwa [e] at h
theorem blk_m2 (V : World) (M O : Obj) : ((V.drew.alloc M).alloc O).heap[V.heap.size + 1]? = some O := heap_alloc2_new V.drew M O
theorem blk_m3 (V : World) (M O : Obj) : ((V.drew.alloc O).alloc M).heap[V.heap.size]? = some O := heap_alloc2_old V.drew O M
theorem rowIs_abx {V w : World} {b : Nat} {t : TypeId} {n : Nat} {f : Nat → Value} {g m : Nat} {T : TypeId} (h : V.rowIs b t n f) (a : Abx V g m T w) (hne : b ≠ g) : w.rowIs b t n f := h.of_block (a.1.2.2.2.2 b h.lt hne)
end Go.Proofs.YtbdjbhdbegiipaaDoor

namespace Go.Proofs.YtbdjbhdbegiipaaDoor
open Go.RowKit Tf Cu Go.Deep
attribute [local go_sem] run_bits run_from raw_feq raw_fne raw_flt raw_fgt run_neg run_store_float
section
variable {n : Nat} {lim : Int} {B : Nat → Nat} {Wt : Nat → Int} {Sp : Nat → Nat} {dt : Nat} {pb pw ps : Option Addr} {w : World}
end
theorem mk_fl {w : World} {b L : Nat} {B : Nat → Nat} {m z : Value} (h : w.rowIs b 22 (L + 9) (mkF L (fun k => .float .f64 (B k)) m z)) (hB : ∀ k, k < L → B k < 18446744073709551616) : IsFl w (some ⟨b, 0, none⟩) L B := fun k hk => ⟨hB k hk, b, 0, rfl, h.lt, by
  rw [Nat.zero_add, h.cell (show k < L + 9 by omega)]
  unfold mkF
  rw [if_pos hk]⟩
theorem mk_in {w : World} {b L : Nat} {B : Nat → Int} {m z : Value} (h : w.rowIs b 2 (L + 9) (mkF L (fun k => .int .i64 (B k)) m z)) (hB : ∀ k, k < L → -9223372036854775808 ≤ B k ∧ B k ≤ 9223372036854775807) : IsIn w (some ⟨b, 0, none⟩) L B := fun k hk => ⟨hB k hk, b, 0, rfl, h.lt, by
  rw [Nat.zero_add, h.cell (show k < L + 9 by omega)]
  unfold mkF
  rw [if_pos hk]⟩
theorem mk_set {w : World} {b L : Nat} {g : Nat → Value} {m z : Value} {T : TypeId} (h : w.rowIs b T (L + 9) (mkF L g m z)) (c : Nat) (x : Value) (hc : c < L) : (w.setCell ⟨b, c, none⟩ x).rowIs b T (L + 9) (mkF L (fun k => if k = c then x else g k) m z) := (h.set c x).congr (fun j _ => by
  unfold mkF
  by_cases e : j = c
  · subst e; simp [hc]
  · simp [e])
end Go.Proofs.YtbdjbhdbegiipaaDoor

namespace Go.Proofs.YtbdjbhdbegiipaaDoor
open Go.RowKit Tf Cu Go.Deep
/-- the four cells of an edge, by its Left's side -/
def four13 (n t c : Nat) : Bool := c == t / 4 || c == bsC n (t / 4) (t % 4) || c == bsC n (t / 4) ((t % 4 + 2) % 4) || c == bsC n (bsC n (t / 4) (t % 4)) ((bsS n (t / 4) (t % 4) + 2) % 4)
theorem fl_local {n k : Nat} {lim : Int} {B B' : Nat → Nat} {W W' : Nat → Int} {Sp Sp' : Nat → Nat} {dt : Nat} (hn : 1 ≤ n) (hk : k < 12 * n * n) (hB : ∀ c, c < 6 * n * n → four13 n (edT n k) c = true → B' c = B c) (hW : ∀ c, c < 6 * n * n → four13 n (edT n k) c = true → W' c = W c) (hS : Sp' k = Sp k) :
    flB n lim B' W' Sp' dt k = flB n lim B W Sp dt k := by
  obtain ⟨t1, t2, t3⟩ := edT_spec hn hk
  unfold flB rdAll
  rw [if_pos ⟨inR_iff.2 (by omega), rfl, rfl⟩, if_pos ⟨inR_iff.2 (by omega), rfl, rfl⟩, Int.toNat_natCast, hS]
  generalize edT n k = t at *
  have md := mt_dec hn t1
  have m1 := mt_lt hn t1
  have f1 : four13 n t (t / 4) = true := by unfold four13; simp
  have f2 : four13 n t (mt n t / 4) = true := by unfold four13; rw [md.1]; simp
  have f3 : four13 n t (bkC n t) = true := by unfold four13 bkC; simp
  have f4 : four13 n t (bkC n (mt n t)) = true := by unfold four13 bkC; rw [md.1, md.2]; simp
  have c1 := t_cell t1
  have c2 := t_cell m1
  have c3 : bkC n t < 6 * n * n := bk_lt hn t1
  have c4 : bkC n (mt n t) < 6 * n * n := bk_lt hn m1
  have e1 : sdD n lim (arC n) B' W' t = sdD n lim (arC n) B W t := sd_local (hB _ c1 f1) (hB _ c2 f2) (hW _ c1 f1) (hW _ c2 f2) (hW _ c3 f3)
  have e2 : sdD n lim (arC n) B' W' (mt n t) = sdD n lim (arC n) B W (mt n t) := sd_local (hB _ c2 f2) (by rw [mt_mt hn t1]; exact hB _ c1 f1) (hW _ c2 f2) (by rw [mt_mt hn t1]; exact hW _ c1 f1) (hW _ c4 f4)
  unfold rdT
  rw [e1, e2]
/-- a copied sea behind some stores -/
def CpX (v : World) (gt bb bw bt bs M N : Nat) (TR : Array Value) (T : TypeId) (mf mi zf zi : Value) (fb fw ft fs : Nat → Value) (u : World) : Prop :=
  Ab v u ∧ u.heap[gt]? = some (.cells TR T) ∧ u.rowIs bb 22 (M + 9) (mkF M fb mf zf) ∧ u.rowIs bw 2 (M + 9) (mkF M fw mi zi) ∧ u.rowIs bt 2 (M + 9) (mkF M ft mi zi) ∧ u.rowIs bs 22 (N + 9) (mkF N fs mf zf)
/-- the blocks are unlike, and new -/
def Unl (v : World) (gt bb bw bt bs : Nat) : Prop := (v.heap.size ≤ bb ∧ v.heap.size ≤ bw ∧ v.heap.size ≤ bt ∧ v.heap.size ≤ bs) ∧ (gt ≠ bb ∧ gt ≠ bw ∧ gt ≠ bt ∧ gt ≠ bs) ∧ bb ≠ bw ∧ bb ≠ bt ∧ bb ≠ bs ∧ bw ≠ bt ∧ bw ≠ bs ∧ bt ≠ bs
section
variable {v : World} {gt bb bw bt bs M N : Nat} {TR : Array Value} {T : TypeId} {mf mi zf zi : Value} {fb fw ft fs : Nat → Value} {u : World}
theorem CpX.to {u' : World} (h : CpX v gt bb bw bt bs M N TR T mf mi zf zi fb fw ft fs u) (a : Ab u u') : CpX v gt bb bw bt bs M N TR T mf mi zf zi fb fw ft fs u' := by
  obtain ⟨h1, h2, h3, h4, h5, h6⟩ := h
  exact ⟨h1.trans a, a.heap h2, rowIs.ab h3 a, rowIs.ab h4 a, rowIs.ab h5 a, rowIs.ab h6 a⟩
theorem CpX.setB (h : CpX v gt bb bw bt bs M N TR T mf mi zf zi fb fw ft fs u) (n : Unl v gt bb bw bt bs) (c : Nat) (x : Value) (hc : c < M) : CpX v gt bb bw bt bs M N TR T mf mi zf zi (fun k => if k = c then x else fb k) fw ft fs (u.setCell ⟨bb, c, none⟩ x) := by
  obtain ⟨h1, h2, h3, h4, h5, h6⟩ := h
  obtain ⟨⟨n1, n2, n3, n4⟩, ⟨g1, g2, g3, g4⟩, d1, d2, d3, d4, d5, d6⟩ := n
  exact ⟨h1.setk n1 _, by rw [heap_set_ne g1]; exact h2, mk_set h3 c x hc, h4.setOther d1.symm _, h5.setOther d2.symm _, h6.setOther d3.symm _⟩
theorem CpX.setW (h : CpX v gt bb bw bt bs M N TR T mf mi zf zi fb fw ft fs u) (n : Unl v gt bb bw bt bs) (c : Nat) (x : Value) (hc : c < M) : CpX v gt bb bw bt bs M N TR T mf mi zf zi fb (fun k => if k = c then x else fw k) ft fs (u.setCell ⟨bw, c, none⟩ x) := by
  obtain ⟨h1, h2, h3, h4, h5, h6⟩ := h
  obtain ⟨⟨n1, n2, n3, n4⟩, ⟨g1, g2, g3, g4⟩, d1, d2, d3, d4, d5, d6⟩ := n
  exact ⟨h1.setk n2 _, by rw [heap_set_ne g2]; exact h2, h3.setOther d1 _, mk_set h4 c x hc, h5.setOther d4.symm _, h6.setOther d5.symm _⟩
theorem CpX.setT (h : CpX v gt bb bw bt bs M N TR T mf mi zf zi fb fw ft fs u) (n : Unl v gt bb bw bt bs) (c : Nat) (x : Value) (hc : c < M) : CpX v gt bb bw bt bs M N TR T mf mi zf zi fb fw (fun k => if k = c then x else ft k) fs (u.setCell ⟨bt, c, none⟩ x) := by
  obtain ⟨h1, h2, h3, h4, h5, h6⟩ := h
  obtain ⟨⟨n1, n2, n3, n4⟩, ⟨g1, g2, g3, g4⟩, d1, d2, d3, d4, d5, d6⟩ := n
  exact ⟨h1.setk n3 _, by rw [heap_set_ne g3]; exact h2, h3.setOther d2 _, h4.setOther d4 _, mk_set h5 c x hc, h6.setOther d6.symm _⟩
theorem CpX.setS (h : CpX v gt bb bw bt bs M N TR T mf mi zf zi fb fw ft fs u) (n : Unl v gt bb bw bt bs) (c : Nat) (x : Value) (hc : c < N) : CpX v gt bb bw bt bs M N TR T mf mi zf zi fb fw ft (fun k => if k = c then x else fs k) (u.setCell ⟨bs, c, none⟩ x) := by
  obtain ⟨h1, h2, h3, h4, h5, h6⟩ := h
  obtain ⟨⟨n1, n2, n3, n4⟩, ⟨g1, g2, g3, g4⟩, d1, d2, d3, d4, d5, d6⟩ := n
  exact ⟨h1.setk n4 _, by rw [heap_set_ne g4]; exact h2, h3.setOther d3 _, h4.setOther d5 _, h5.setOther d6 _, mk_set h6 c x hc⟩
theorem mk_congr {L : Nat} {f g : Nat → Value} {m z : Value} (h : ∀ k, k < L → f k = g k) (j : Nat) : mkF L f m z j = mkF L g m z j := by
  unfold mkF
  by_cases c : j < L
  · rw [if_pos c, if_pos c, h j c]
  · rw [if_neg c, if_neg c]
theorem CpX.congr {gb gw gt' gs : Nat → Value} (h : CpX v gt bb bw bt bs M N TR T mf mi zf zi fb fw ft fs u) (e1 : ∀ k, k < M → fb k = gb k) (e2 : ∀ k, k < M → fw k = gw k) (e3 : ∀ k, k < M → ft k = gt' k) (e4 : ∀ k, k < N → fs k = gs k) : CpX v gt bb bw bt bs M N TR T mf mi zf zi gb gw gt' gs u := by
  obtain ⟨h1, h2, h3, h4, h5, h6⟩ := h
  exact ⟨h1, h2, h3.congr (fun j _ => mk_congr e1 j), h4.congr (fun j _ => mk_congr e2 j), h5.congr (fun j _ => mk_congr e3 j), h6.congr (fun j _ => mk_congr e4 j)⟩
end
theorem upd_yes {α : Type} (g : α → Value) {F : Nat → Bool} (X Y : Nat → α) {c : Nat} (h : F c = true) (k : Nat) : g (if k < c ∧ F k = false then X k else Y k) = g (if k < c + 1 ∧ F k = false then X k else Y k) := by
  by_cases e : k = c
  · subst e; simp [h]
  · by_cases l : k < c
    · simp [l, show k < c + 1 by omega]
    · simp [l, show ¬ k < c + 1 by omega]
theorem upd_no {α : Type} (g : α → Value) {F : Nat → Bool} (X Y : Nat → α) {c : Nat} (h : F c = false) (k : Nat) : (if k = c then g (X c) else g (if k < c ∧ F k = false then X k else Y k)) = g (if k < c + 1 ∧ F k = false then X k else Y k) := by
  by_cases e : k = c
  · subst e; simp [h]
  · by_cases l : k < c
    · simp [e, l, show k < c + 1 by omega]
    · simp [e, l, show ¬ k < c + 1 by omega]
theorem four_bool {a b c d x : Nat} : ((x == a || x == b || x == c || x == d) = true ∧ ((((x : Int) == (a : Int)) = true) ∨ (((x : Int) == (a : Int)) = false ∧ ((x : Int) == (b : Int)) = true) ∨ (((x : Int) == (a : Int)) = false ∧ ((x : Int) == (b : Int)) = false ∧ ((x : Int) == (c : Int)) = true) ∨ (((x : Int) == (a : Int)) = false ∧ ((x : Int) == (b : Int)) = false ∧ ((x : Int) == (c : Int)) = false ∧ ((x : Int) == (d : Int)) = true))) ∨ ((x == a || x == b || x == c || x == d) = false ∧ ((x : Int) == (a : Int)) = false ∧ ((x : Int) == (b : Int)) = false ∧ ((x : Int) == (c : Int)) = false ∧ ((x : Int) == (d : Int)) = false) := by
  have e : ∀ y : Nat, ((x : Int) == (y : Int)) = (x == y) := fun y => by
    rw [Bool.eq_iff_iff, beq_iff_eq, beq_iff_eq]
    omega
  rw [e, e, e, e]
  cases x == a <;> cases x == b <;> cases x == c <;> cases x == d <;> simp
end Go.Proofs.YtbdjbhdbegiipaaDoor

namespace Go.Proofs.YtbdjbhdbegiipaaDoor
open Go.RowKit Tf Cu
attribute [local go_sem] run_bits run_from raw_feq raw_fne raw_flt raw_fgt run_neg run_store_float
set_option maxRecDepth 100000 in
set_option maxHeartbeats 8000000 in
theorem long13_go (pb pw pt ps : Option Addr) (lb cb lw cw lt ct ls cs : Nat) (sky st : Int) (q : Bool) (w : World)
    (hq : (decide ((65536 : Int) < (lb : Int)) = true ∧ q = true) ∨ (decide ((65536 : Int) < (lb : Int)) = false ∧ decide ((65536 : Int) < (lw : Int)) = true ∧ q = true) ∨ (decide ((65536 : Int) < (lb : Int)) = false ∧ decide ((65536 : Int) < (lw : Int)) = false ∧ decide ((65536 : Int) < (lt : Int)) = true ∧ q = true) ∨ (decide ((65536 : Int) < (lb : Int)) = false ∧ decide ((65536 : Int) < (lw : Int)) = false ∧ decide ((65536 : Int) < (lt : Int)) = false ∧ decide ((65536 : Int) < (ls : Int)) = q)) :
    Calls Tryd.prog 9 #[.agg #[.slice pb lb cb, .slice pw lw cw, .slice pt lt ct, .slice ps ls cs, .int .i64 sky, .int .i64 st]] w fun e w' => e = .returned (.bool q) ∧ Below w.heap.size w w' := by
  have A0 : Hid (Ab w (w.alloc (.cells #[.slice pb lb cb, .slice pw lw cw, .slice pt lt ct, .slice ps ls cs, .int .i64 sky, .int .i64 st] 34))) := bl1 _ _
  have RO : Hid ((w.alloc (.cells #[.slice pb lb cb, .slice pw lw cw, .slice pt lt ct, .slice ps ls cs, .int .i64 sky, .int .i64 st] 34)).heap[w.heap.size]? = some (.cells #[.slice pb lb cb, .slice pw lw cw, .slice pt lt ct, .slice ps ls cs, .int .i64 sky, .int .i64 st] 34)) := heap_alloc_new _ _
  have s0 := cell_of_row _ _ 0 _ _ _ RO.out
  have s1 := cell_of_row _ _ 1 _ _ _ RO.out
  have s2 := cell_of_row _ _ 2 _ _ _ RO.out
  have s3 := cell_of_row _ _ 3 _ _ _ RO.out
  rcases hq with ⟨q1, rfl⟩ | ⟨q1, q2, rfl⟩ | ⟨q1, q2, q3, rfl⟩ | ⟨q1, q2, q3, q4⟩
  · go_enter Tryd.func9, Tryd.ntmps9
    go_wp2
    go_ret
    exact ⟨rfl, A0.out⟩
  · go_enter Tryd.func9, Tryd.ntmps9
    go_wp2
    go_ret
    exact ⟨rfl, A0.out⟩
  · go_enter Tryd.func9, Tryd.ntmps9
    go_wp2
    go_ret
    exact ⟨rfl, A0.out⟩
  · cases q with
    | true =>
      go_enter Tryd.func9, Tryd.ntmps9
      go_wp2
      go_ret
      exact ⟨rfl, A0.out⟩
    | false =>
      go_enter Tryd.func9, Tryd.ntmps9
      go_wp2
      go_ret
      exact ⟨rfl, A0.out⟩
theorem long13_at (pb pw pt ps : Option Addr) (lb cb lw cw lt ct ls cs : Nat) (sky st : Int) (w : World) : Calls Tryd.prog 9 #[.agg #[.slice pb lb cb, .slice pw lw cw, .slice pt lt ct, .slice ps ls cs, .int .i64 sky, .int .i64 st]] w fun e w' => e = .returned (.bool (decide (65536 < lb ∨ 65536 < lw ∨ 65536 < lt ∨ 65536 < ls))) ∧ Below w.heap.size w w' := by
  refine long13_go pb pw pt ps lb cb lw cw lt ct ls cs sky st _ w ?_
  by_cases c1 : 65536 < lb
  · exact .inl ⟨decide_eq_true (by omega), decide_eq_true (.inl c1)⟩
  · by_cases c2 : 65536 < lw
    · exact .inr (.inl ⟨decide_eq_false (by omega), decide_eq_true (by omega), decide_eq_true (.inr (.inl c2))⟩)
    · by_cases c3 : 65536 < lt
      · exact .inr (.inr (.inl ⟨decide_eq_false (by omega), decide_eq_false (by omega), decide_eq_true (by omega), decide_eq_true (.inr (.inr (.inl c3)))⟩))
      · refine .inr (.inr (.inr ⟨decide_eq_false (by omega), decide_eq_false (by omega), decide_eq_false (by omega), ?_⟩))
        by_cases c4 : 65536 < ls
        · rw [decide_eq_true (show (65536 : Int) < ls by omega), decide_eq_true (.inr (.inr (.inr c4)))]
        · rw [decide_eq_false (show ¬ (65536 : Int) < ls by omega), decide_eq_false (by omega)]
end Go.Proofs.YtbdjbhdbegiipaaDoor

namespace Go.Proofs.YtbdjbhdbegiipaaDoor
open Go.RowKit Tf Cu
attribute [local go_sem] run_bits run_from raw_feq raw_fne raw_flt raw_fgt run_neg run_store_float
set_option maxRecDepth 100000 in
set_option maxHeartbeats 8000000 in
theorem fe13_lo (side : Int) (sd : Int) (dt gr dr : Nat) (lim : Int) (rv : Bool) (pr : Option Addr) (lr cr : Nat) {pb pw pt ps : Option Addr} {lb cb lw cw lt ct ls cs : Nat} (sky st : Int) (e : Int) {qb qw qt qs : Option Addr} {mb db mw dw mt dt2 ms ds : Nat} (sky2 st2 : Int) (w : World) (LV : Hid (∀ v, Ab w v → Calls Tryd.prog 6 #[] v fun e w' => e = .returned (.bool true) ∧ Below v.heap.size v w'))
    (hside : ¬ (1 ≤ side ∧ side ≤ 32)) (q1 : decide (side < 1) = true) :
    Calls Tryd.prog 4 #[.int .i64 side, .agg #[.int .i64 sd, .float .f64 dt, .float .f64 gr, .float .f64 dr, .int .i64 lim, .bool rv, .slice pr lr cr], .agg #[.slice pb lb cb, .slice pw lw cw, .slice pt lt ct, .slice ps ls cs, .int .i64 sky, .int .i64 st], .int .i64 e, .agg #[.slice qb mb db, .slice qw mw dw, .slice qt mt dt2, .slice qs ms ds, .int .i64 sky2, .int .i64 st2]] w fun e w' => e = .returned (.bool true) ∧ Below w.heap.size w w' := by
  have A0 : Hid (Ab w (((w.alloc (.cells #[.int .i64 sd, .float .f64 dt, .float .f64 gr, .float .f64 dr, .int .i64 lim, .bool rv, .slice pr lr cr] 30)).alloc (.cells #[.slice pb lb cb, .slice pw lw cw, .slice pt lt ct, .slice ps ls cs, .int .i64 sky, .int .i64 st] 34)).alloc (.cells #[.slice qb mb db, .slice qw mw dw, .slice qt mt dt2, .slice qs ms ds, .int .i64 sky2, .int .i64 st2] 34))) := bl3 _ _ _ _
  have RP : Hid ((((w.alloc (.cells #[.int .i64 sd, .float .f64 dt, .float .f64 gr, .float .f64 dr, .int .i64 lim, .bool rv, .slice pr lr cr] 30)).alloc (.cells #[.slice pb lb cb, .slice pw lw cw, .slice pt lt ct, .slice ps ls cs, .int .i64 sky, .int .i64 st] 34)).alloc (.cells #[.slice qb mb db, .slice qw mw dw, .slice qt mt dt2, .slice qs ms ds, .int .i64 sky2, .int .i64 st2] 34)).heap[w.heap.size]? = some (.cells #[.int .i64 sd, .float .f64 dt, .float .f64 gr, .float .f64 dr, .int .i64 lim, .bool rv, .slice pr lr cr] 30)) := Ab.heap (bl2 _ _ _) (heap_alloc_new _ _)
  have RO : Hid ((((w.alloc (.cells #[.int .i64 sd, .float .f64 dt, .float .f64 gr, .float .f64 dr, .int .i64 lim, .bool rv, .slice pr lr cr] 30)).alloc (.cells #[.slice pb lb cb, .slice pw lw cw, .slice pt lt ct, .slice ps ls cs, .int .i64 sky, .int .i64 st] 34)).alloc (.cells #[.slice qb mb db, .slice qw mw dw, .slice qt mt dt2, .slice qs ms ds, .int .i64 sky2, .int .i64 st2] 34)).heap[w.heap.size + 1]? = some (.cells #[.slice pb lb cb, .slice pw lw cw, .slice pt lt ct, .slice ps ls cs, .int .i64 sky, .int .i64 st] 34)) := Ab.heap (bl1 _ _) (heap_alloc2_new _ _ _)
  have RD : Hid ((((w.alloc (.cells #[.int .i64 sd, .float .f64 dt, .float .f64 gr, .float .f64 dr, .int .i64 lim, .bool rv, .slice pr lr cr] 30)).alloc (.cells #[.slice pb lb cb, .slice pw lw cw, .slice pt lt ct, .slice ps ls cs, .int .i64 sky, .int .i64 st] 34)).alloc (.cells #[.slice qb mb db, .slice qw mw dw, .slice qt mt dt2, .slice qs ms ds, .int .i64 sky2, .int .i64 st2] 34)).heap[w.heap.size + 2]? = some (.cells #[.slice qb mb db, .slice qw mw dw, .slice qt mt dt2, .slice qs ms ds, .int .i64 sky2, .int .i64 st2] 34)) := heap_alloc3_new _ _ _ _
  go_enter Tryd.func4, Tryd.ntmps4
  go_upto_region 1 with fail
  generalize hW : World.alloc (World.alloc (World.alloc w _) _) _ = W at *
  obtain ⟨gp, hgp⟩ : ∃ g, w.heap.size = g := ⟨_, rfl⟩
  obtain ⟨gs, hgs⟩ : ∃ g, w.heap.size + 1 = g := ⟨_, rfl⟩
  obtain ⟨go, hgo⟩ : ∃ g, w.heap.size + 2 = g := ⟨_, rfl⟩
  rw [hgp] at RP
  rw [hgs] at RO
  rw [hgo] at RD
  rw [hgo, hgs, hgp]
  clear hgs hgp hgo hW
  go_wp2_with fail
  refine (LV.out _ A0.out).mono ?_
  rintro e9 v1 ⟨rfl, b1⟩
  have A1 : Hid (Ab W v1) := b1
  clear b1
  go_wp2_with fail
  refine (new_no side v1 hside).mono ?_
  rintro e9 v2 ⟨rfl, rfl⟩
  
  go_wp2
  go_ret
  exact ⟨rfl, A0.out.trans A1.out⟩
set_option maxRecDepth 100000 in
set_option maxHeartbeats 8000000 in
theorem fe13_hi (side : Int) (sd : Int) (dt gr dr : Nat) (lim : Int) (rv : Bool) (pr : Option Addr) (lr cr : Nat) {pb pw pt ps : Option Addr} {lb cb lw cw lt ct ls cs : Nat} (sky st : Int) (e : Int) {qb qw qt qs : Option Addr} {mb db mw dw mt dt2 ms ds : Nat} (sky2 st2 : Int) (w : World) (LV : Hid (∀ v, Ab w v → Calls Tryd.prog 6 #[] v fun e w' => e = .returned (.bool true) ∧ Below v.heap.size v w'))
    (hside : ¬ (1 ≤ side ∧ side ≤ 32)) (q1 : decide (side < 1) = false) (q2 : decide (32 < side) = true) :
    Calls Tryd.prog 4 #[.int .i64 side, .agg #[.int .i64 sd, .float .f64 dt, .float .f64 gr, .float .f64 dr, .int .i64 lim, .bool rv, .slice pr lr cr], .agg #[.slice pb lb cb, .slice pw lw cw, .slice pt lt ct, .slice ps ls cs, .int .i64 sky, .int .i64 st], .int .i64 e, .agg #[.slice qb mb db, .slice qw mw dw, .slice qt mt dt2, .slice qs ms ds, .int .i64 sky2, .int .i64 st2]] w fun e w' => e = .returned (.bool true) ∧ Below w.heap.size w w' := by
  have A0 : Hid (Ab w (((w.alloc (.cells #[.int .i64 sd, .float .f64 dt, .float .f64 gr, .float .f64 dr, .int .i64 lim, .bool rv, .slice pr lr cr] 30)).alloc (.cells #[.slice pb lb cb, .slice pw lw cw, .slice pt lt ct, .slice ps ls cs, .int .i64 sky, .int .i64 st] 34)).alloc (.cells #[.slice qb mb db, .slice qw mw dw, .slice qt mt dt2, .slice qs ms ds, .int .i64 sky2, .int .i64 st2] 34))) := bl3 _ _ _ _
  have RP : Hid ((((w.alloc (.cells #[.int .i64 sd, .float .f64 dt, .float .f64 gr, .float .f64 dr, .int .i64 lim, .bool rv, .slice pr lr cr] 30)).alloc (.cells #[.slice pb lb cb, .slice pw lw cw, .slice pt lt ct, .slice ps ls cs, .int .i64 sky, .int .i64 st] 34)).alloc (.cells #[.slice qb mb db, .slice qw mw dw, .slice qt mt dt2, .slice qs ms ds, .int .i64 sky2, .int .i64 st2] 34)).heap[w.heap.size]? = some (.cells #[.int .i64 sd, .float .f64 dt, .float .f64 gr, .float .f64 dr, .int .i64 lim, .bool rv, .slice pr lr cr] 30)) := Ab.heap (bl2 _ _ _) (heap_alloc_new _ _)
  have RO : Hid ((((w.alloc (.cells #[.int .i64 sd, .float .f64 dt, .float .f64 gr, .float .f64 dr, .int .i64 lim, .bool rv, .slice pr lr cr] 30)).alloc (.cells #[.slice pb lb cb, .slice pw lw cw, .slice pt lt ct, .slice ps ls cs, .int .i64 sky, .int .i64 st] 34)).alloc (.cells #[.slice qb mb db, .slice qw mw dw, .slice qt mt dt2, .slice qs ms ds, .int .i64 sky2, .int .i64 st2] 34)).heap[w.heap.size + 1]? = some (.cells #[.slice pb lb cb, .slice pw lw cw, .slice pt lt ct, .slice ps ls cs, .int .i64 sky, .int .i64 st] 34)) := Ab.heap (bl1 _ _) (heap_alloc2_new _ _ _)
  have RD : Hid ((((w.alloc (.cells #[.int .i64 sd, .float .f64 dt, .float .f64 gr, .float .f64 dr, .int .i64 lim, .bool rv, .slice pr lr cr] 30)).alloc (.cells #[.slice pb lb cb, .slice pw lw cw, .slice pt lt ct, .slice ps ls cs, .int .i64 sky, .int .i64 st] 34)).alloc (.cells #[.slice qb mb db, .slice qw mw dw, .slice qt mt dt2, .slice qs ms ds, .int .i64 sky2, .int .i64 st2] 34)).heap[w.heap.size + 2]? = some (.cells #[.slice qb mb db, .slice qw mw dw, .slice qt mt dt2, .slice qs ms ds, .int .i64 sky2, .int .i64 st2] 34)) := heap_alloc3_new _ _ _ _
  go_enter Tryd.func4, Tryd.ntmps4
  go_upto_region 1 with fail
  generalize hW : World.alloc (World.alloc (World.alloc w _) _) _ = W at *
  obtain ⟨gp, hgp⟩ : ∃ g, w.heap.size = g := ⟨_, rfl⟩
  obtain ⟨gs, hgs⟩ : ∃ g, w.heap.size + 1 = g := ⟨_, rfl⟩
  obtain ⟨go, hgo⟩ : ∃ g, w.heap.size + 2 = g := ⟨_, rfl⟩
  rw [hgp] at RP
  rw [hgs] at RO
  rw [hgo] at RD
  rw [hgo, hgs, hgp]
  clear hgs hgp hgo hW
  go_wp2_with fail
  refine (LV.out _ A0.out).mono ?_
  rintro e9 v1 ⟨rfl, b1⟩
  have A1 : Hid (Ab W v1) := b1
  clear b1
  go_wp2_with fail
  refine (new_no side v1 hside).mono ?_
  rintro e9 v2 ⟨rfl, rfl⟩
  
  go_wp2
  go_ret
  exact ⟨rfl, A0.out.trans A1.out⟩
set_option maxRecDepth 100000 in
set_option maxHeartbeats 8000000 in
theorem fe13_long (n : Nat) (sd : Int) (dt gr dr : Nat) (lim : Int) (rv : Bool) (pr : Option Addr) (lr cr : Nat) {pb pw pt ps : Option Addr} {lb cb lw cw lt ct ls cs : Nat} (sky st : Int) (e : Int) {qb qw qt qs : Option Addr} {mb db mw dw mt dt2 ms ds : Nat} (sky2 st2 : Int) (w : World) (LV : Hid (∀ v, Ab w v → Calls Tryd.prog 6 #[] v fun e w' => e = .returned (.bool true) ∧ Below v.heap.size v w')) (HN : Hid (1 ≤ n ∧ n ≤ 32)) (HF : Hid (Fr w))
    (LG : Hid (∀ v, Calls Tryd.prog 9 #[.agg #[.slice pb lb cb, .slice pw lw cw, .slice pt lt ct, .slice ps ls cs, .int .i64 sky, .int .i64 st]] v fun e w' => e = .returned (.bool true) ∧ Below v.heap.size v w')) :
    Calls Tryd.prog 4 #[.int .i64 (n : Nat), .agg #[.int .i64 sd, .float .f64 dt, .float .f64 gr, .float .f64 dr, .int .i64 lim, .bool rv, .slice pr lr cr], .agg #[.slice pb lb cb, .slice pw lw cw, .slice pt lt ct, .slice ps ls cs, .int .i64 sky, .int .i64 st], .int .i64 e, .agg #[.slice qb mb db, .slice qw mw dw, .slice qt mt dt2, .slice qs ms ds, .int .i64 sky2, .int .i64 st2]] w fun e w' => e = .returned (.bool true) ∧ Below w.heap.size w w' := by
  have A0 : Hid (Ab w (((w.alloc (.cells #[.int .i64 sd, .float .f64 dt, .float .f64 gr, .float .f64 dr, .int .i64 lim, .bool rv, .slice pr lr cr] 30)).alloc (.cells #[.slice pb lb cb, .slice pw lw cw, .slice pt lt ct, .slice ps ls cs, .int .i64 sky, .int .i64 st] 34)).alloc (.cells #[.slice qb mb db, .slice qw mw dw, .slice qt mt dt2, .slice qs ms ds, .int .i64 sky2, .int .i64 st2] 34))) := bl3 _ _ _ _
  have RP : Hid ((((w.alloc (.cells #[.int .i64 sd, .float .f64 dt, .float .f64 gr, .float .f64 dr, .int .i64 lim, .bool rv, .slice pr lr cr] 30)).alloc (.cells #[.slice pb lb cb, .slice pw lw cw, .slice pt lt ct, .slice ps ls cs, .int .i64 sky, .int .i64 st] 34)).alloc (.cells #[.slice qb mb db, .slice qw mw dw, .slice qt mt dt2, .slice qs ms ds, .int .i64 sky2, .int .i64 st2] 34)).heap[w.heap.size]? = some (.cells #[.int .i64 sd, .float .f64 dt, .float .f64 gr, .float .f64 dr, .int .i64 lim, .bool rv, .slice pr lr cr] 30)) := Ab.heap (bl2 _ _ _) (heap_alloc_new _ _)
  have RO : Hid ((((w.alloc (.cells #[.int .i64 sd, .float .f64 dt, .float .f64 gr, .float .f64 dr, .int .i64 lim, .bool rv, .slice pr lr cr] 30)).alloc (.cells #[.slice pb lb cb, .slice pw lw cw, .slice pt lt ct, .slice ps ls cs, .int .i64 sky, .int .i64 st] 34)).alloc (.cells #[.slice qb mb db, .slice qw mw dw, .slice qt mt dt2, .slice qs ms ds, .int .i64 sky2, .int .i64 st2] 34)).heap[w.heap.size + 1]? = some (.cells #[.slice pb lb cb, .slice pw lw cw, .slice pt lt ct, .slice ps ls cs, .int .i64 sky, .int .i64 st] 34)) := Ab.heap (bl1 _ _) (heap_alloc2_new _ _ _)
  have RD : Hid ((((w.alloc (.cells #[.int .i64 sd, .float .f64 dt, .float .f64 gr, .float .f64 dr, .int .i64 lim, .bool rv, .slice pr lr cr] 30)).alloc (.cells #[.slice pb lb cb, .slice pw lw cw, .slice pt lt ct, .slice ps ls cs, .int .i64 sky, .int .i64 st] 34)).alloc (.cells #[.slice qb mb db, .slice qw mw dw, .slice qt mt dt2, .slice qs ms ds, .int .i64 sky2, .int .i64 st2] 34)).heap[w.heap.size + 2]? = some (.cells #[.slice qb mb db, .slice qw mw dw, .slice qt mt dt2, .slice qs ms ds, .int .i64 sky2, .int .i64 st2] 34)) := heap_alloc3_new _ _ _ _
  go_enter Tryd.func4, Tryd.ntmps4
  go_upto_region 1 with fail
  generalize hW : World.alloc (World.alloc (World.alloc w _) _) _ = W at *
  obtain ⟨gp, hgp⟩ : ∃ g, w.heap.size = g := ⟨_, rfl⟩
  obtain ⟨gs, hgs⟩ : ∃ g, w.heap.size + 1 = g := ⟨_, rfl⟩
  obtain ⟨go, hgo⟩ : ∃ g, w.heap.size + 2 = g := ⟨_, rfl⟩
  rw [hgp] at RP
  rw [hgs] at RO
  rw [hgo] at RD
  rw [hgo, hgs, hgp]
  clear hgs hgp hgo hW
  go_wp2_with fail
  refine (LV.out _ A0.out).mono ?_
  rintro e9 v1 ⟨rfl, b1⟩
  have A1 : Hid (Ab W v1) := b1
  clear b1
  go_wp2_with fail
  refine (new_at n v1 HN.out (HF.out.to (A0.out.trans A1.out))).mono ?_
  rintro e9 v2 ⟨gb, rfl, a2, -, g2⟩
  have A2 : Hid (Ab W v2) := A1.out.trans a2
  have G2 : Hid (GridOf n gb v2) := g2
  clear a2 g2 A1
  have s0 := cell_of_row _ _ 0 _ _ _ (A2.out.heap RO.out)
  have s1 := cell_of_row _ _ 1 _ _ _ (A2.out.heap RO.out)
  have s2 := cell_of_row _ _ 2 _ _ _ (A2.out.heap RO.out)
  have s3 := cell_of_row _ _ 3 _ _ _ (A2.out.heap RO.out)
  have s4 := cell_of_row _ _ 4 _ _ _ (A2.out.heap RO.out)
  have s5 := cell_of_row _ _ 5 _ _ _ (A2.out.heap RO.out)
  have o0 := cell_of_row _ _ 0 _ _ _ (A2.out.heap RD.out)
  have o1 := cell_of_row _ _ 1 _ _ _ (A2.out.heap RD.out)
  have o2 := cell_of_row _ _ 2 _ _ _ (A2.out.heap RD.out)
  have o3 := cell_of_row _ _ 3 _ _ _ (A2.out.heap RD.out)
  have o4 := cell_of_row _ _ 4 _ _ _ (A2.out.heap RD.out)
  have o5 := cell_of_row _ _ 5 _ _ _ (A2.out.heap RD.out)
  go_wp2_with fail
  refine (LG.out v2).mono ?_
  rintro e9 v3 ⟨rfl, b3⟩
  have A3 : Hid (Ab W v3) := A2.out.trans b3
  have G3 : Hid (GridOf n gb v3) := G2.out.to b3
  clear b3 A2 G2 s0 s1 s2 s3 s4 s5 o0 o1 o2 o3 o4 o5
  have nf1 : decide ((n : Int) < 1) = false := by rw [decide_eq_false_iff_not]; have := HN.out; omega
  have nf2 : decide (32 < (n : Int)) = false := by rw [decide_eq_false_iff_not]; have := HN.out; omega
  go_wp2
  go_ret
  exact ⟨rfl, A0.out.trans A3.out⟩
set_option maxRecDepth 100000 in
set_option maxHeartbeats 8000000 in
theorem fe13_odd (n : Nat) (sd : Int) (dt gr dr : Nat) (lim : Int) (rv : Bool) (pr : Option Addr) (lr cr : Nat) {pb pw pt ps : Option Addr} {lb cb lw cw lt ct ls cs : Nat} (sky st : Int) (e : Int) {qb qw qt qs : Option Addr} {mb db mw dw mt dt2 ms ds : Nat} (sky2 st2 : Int) (w : World) (LV : Hid (∀ v, Ab w v → Calls Tryd.prog 6 #[] v fun e w' => e = .returned (.bool true) ∧ Below v.heap.size v w')) (HN : Hid (1 ≤ n ∧ n ≤ 32)) (HF : Hid (Fr w))
    (LG : Hid (∀ v, Calls Tryd.prog 9 #[.agg #[.slice pb lb cb, .slice pw lw cw, .slice pt lt ct, .slice ps ls cs, .int .i64 sky, .int .i64 st]] v fun e w' => e = .returned (.bool false) ∧ Below v.heap.size v w'))
    (LO : Hid (∀ v, Calls Tryd.prog 9 #[.agg #[.slice qb mb db, .slice qw mw dw, .slice qt mt dt2, .slice qs ms ds, .int .i64 sky2, .int .i64 st2]] v fun e w' => e = .returned (.bool true) ∧ Below v.heap.size v w')) :
    Calls Tryd.prog 4 #[.int .i64 (n : Nat), .agg #[.int .i64 sd, .float .f64 dt, .float .f64 gr, .float .f64 dr, .int .i64 lim, .bool rv, .slice pr lr cr], .agg #[.slice pb lb cb, .slice pw lw cw, .slice pt lt ct, .slice ps ls cs, .int .i64 sky, .int .i64 st], .int .i64 e, .agg #[.slice qb mb db, .slice qw mw dw, .slice qt mt dt2, .slice qs ms ds, .int .i64 sky2, .int .i64 st2]] w fun e w' => e = .returned (.bool true) ∧ Below w.heap.size w w' := by
  have A0 : Hid (Ab w (((w.alloc (.cells #[.int .i64 sd, .float .f64 dt, .float .f64 gr, .float .f64 dr, .int .i64 lim, .bool rv, .slice pr lr cr] 30)).alloc (.cells #[.slice pb lb cb, .slice pw lw cw, .slice pt lt ct, .slice ps ls cs, .int .i64 sky, .int .i64 st] 34)).alloc (.cells #[.slice qb mb db, .slice qw mw dw, .slice qt mt dt2, .slice qs ms ds, .int .i64 sky2, .int .i64 st2] 34))) := bl3 _ _ _ _
  have RP : Hid ((((w.alloc (.cells #[.int .i64 sd, .float .f64 dt, .float .f64 gr, .float .f64 dr, .int .i64 lim, .bool rv, .slice pr lr cr] 30)).alloc (.cells #[.slice pb lb cb, .slice pw lw cw, .slice pt lt ct, .slice ps ls cs, .int .i64 sky, .int .i64 st] 34)).alloc (.cells #[.slice qb mb db, .slice qw mw dw, .slice qt mt dt2, .slice qs ms ds, .int .i64 sky2, .int .i64 st2] 34)).heap[w.heap.size]? = some (.cells #[.int .i64 sd, .float .f64 dt, .float .f64 gr, .float .f64 dr, .int .i64 lim, .bool rv, .slice pr lr cr] 30)) := Ab.heap (bl2 _ _ _) (heap_alloc_new _ _)
  have RO : Hid ((((w.alloc (.cells #[.int .i64 sd, .float .f64 dt, .float .f64 gr, .float .f64 dr, .int .i64 lim, .bool rv, .slice pr lr cr] 30)).alloc (.cells #[.slice pb lb cb, .slice pw lw cw, .slice pt lt ct, .slice ps ls cs, .int .i64 sky, .int .i64 st] 34)).alloc (.cells #[.slice qb mb db, .slice qw mw dw, .slice qt mt dt2, .slice qs ms ds, .int .i64 sky2, .int .i64 st2] 34)).heap[w.heap.size + 1]? = some (.cells #[.slice pb lb cb, .slice pw lw cw, .slice pt lt ct, .slice ps ls cs, .int .i64 sky, .int .i64 st] 34)) := Ab.heap (bl1 _ _) (heap_alloc2_new _ _ _)
  have RD : Hid ((((w.alloc (.cells #[.int .i64 sd, .float .f64 dt, .float .f64 gr, .float .f64 dr, .int .i64 lim, .bool rv, .slice pr lr cr] 30)).alloc (.cells #[.slice pb lb cb, .slice pw lw cw, .slice pt lt ct, .slice ps ls cs, .int .i64 sky, .int .i64 st] 34)).alloc (.cells #[.slice qb mb db, .slice qw mw dw, .slice qt mt dt2, .slice qs ms ds, .int .i64 sky2, .int .i64 st2] 34)).heap[w.heap.size + 2]? = some (.cells #[.slice qb mb db, .slice qw mw dw, .slice qt mt dt2, .slice qs ms ds, .int .i64 sky2, .int .i64 st2] 34)) := heap_alloc3_new _ _ _ _
  go_enter Tryd.func4, Tryd.ntmps4
  go_upto_region 1 with fail
  generalize hW : World.alloc (World.alloc (World.alloc w _) _) _ = W at *
  obtain ⟨gp, hgp⟩ : ∃ g, w.heap.size = g := ⟨_, rfl⟩
  obtain ⟨gs, hgs⟩ : ∃ g, w.heap.size + 1 = g := ⟨_, rfl⟩
  obtain ⟨go, hgo⟩ : ∃ g, w.heap.size + 2 = g := ⟨_, rfl⟩
  rw [hgp] at RP
  rw [hgs] at RO
  rw [hgo] at RD
  rw [hgo, hgs, hgp]
  clear hgs hgp hgo hW
  go_wp2_with fail
  refine (LV.out _ A0.out).mono ?_
  rintro e9 v1 ⟨rfl, b1⟩
  have A1 : Hid (Ab W v1) := b1
  clear b1
  go_wp2_with fail
  refine (new_at n v1 HN.out (HF.out.to (A0.out.trans A1.out))).mono ?_
  rintro e9 v2 ⟨gb, rfl, a2, -, g2⟩
  have A2 : Hid (Ab W v2) := A1.out.trans a2
  have G2 : Hid (GridOf n gb v2) := g2
  clear a2 g2 A1
  have s0 := cell_of_row _ _ 0 _ _ _ (A2.out.heap RO.out)
  have s1 := cell_of_row _ _ 1 _ _ _ (A2.out.heap RO.out)
  have s2 := cell_of_row _ _ 2 _ _ _ (A2.out.heap RO.out)
  have s3 := cell_of_row _ _ 3 _ _ _ (A2.out.heap RO.out)
  have s4 := cell_of_row _ _ 4 _ _ _ (A2.out.heap RO.out)
  have s5 := cell_of_row _ _ 5 _ _ _ (A2.out.heap RO.out)
  have o0 := cell_of_row _ _ 0 _ _ _ (A2.out.heap RD.out)
  have o1 := cell_of_row _ _ 1 _ _ _ (A2.out.heap RD.out)
  have o2 := cell_of_row _ _ 2 _ _ _ (A2.out.heap RD.out)
  have o3 := cell_of_row _ _ 3 _ _ _ (A2.out.heap RD.out)
  have o4 := cell_of_row _ _ 4 _ _ _ (A2.out.heap RD.out)
  have o5 := cell_of_row _ _ 5 _ _ _ (A2.out.heap RD.out)
  go_wp2_with fail
  refine (LG.out v2).mono ?_
  rintro e9 v3 ⟨rfl, b3⟩
  have A3 : Hid (Ab W v3) := A2.out.trans b3
  have G3 : Hid (GridOf n gb v3) := G2.out.to b3
  clear b3 A2 G2 s0 s1 s2 s3 s4 s5 o0 o1 o2 o3 o4 o5
  have o0 := cell_of_row _ _ 0 _ _ _ (A3.out.heap RD.out)
  have o1 := cell_of_row _ _ 1 _ _ _ (A3.out.heap RD.out)
  have o2 := cell_of_row _ _ 2 _ _ _ (A3.out.heap RD.out)
  have o3 := cell_of_row _ _ 3 _ _ _ (A3.out.heap RD.out)
  have o4 := cell_of_row _ _ 4 _ _ _ (A3.out.heap RD.out)
  have o5 := cell_of_row _ _ 5 _ _ _ (A3.out.heap RD.out)
  go_wp2_with fail
  refine (LO.out v3).mono ?_
  rintro e9 v4 ⟨rfl, b4⟩
  have A4 : Hid (Ab W v4) := A3.out.trans b4
  have G4 : Hid (GridOf n gb v4) := G3.out.to b4
  clear b4 A3 G3 o0 o1 o2 o3 o4 o5
  have nf1 : decide ((n : Int) < 1) = false := by rw [decide_eq_false_iff_not]; have := HN.out; omega
  have nf2 : decide (32 < (n : Int)) = false := by rw [decide_eq_false_iff_not]; have := HN.out; omega
  go_wp2
  go_ret
  exact ⟨rfl, A0.out.trans A4.out⟩
set_option maxRecDepth 100000 in
set_option maxHeartbeats 8000000 in
theorem fe13_no (n : Nat) (sd : Int) (dt gr dr : Nat) (lim : Int) (rv : Bool) (pr : Option Addr) (lr cr : Nat) {pb pw pt ps : Option Addr} {lb cb lw cw lt ct ls cs : Nat} (sky st : Int) (e : Int) {qb qw qt qs : Option Addr} {mb db mw dw mt dt2 ms ds : Nat} (sky2 st2 : Int) (w : World) (LV : Hid (∀ v, Ab w v → Calls Tryd.prog 6 #[] v fun e w' => e = .returned (.bool true) ∧ Below v.heap.size v w')) (HN : Hid (1 ≤ n ∧ n ≤ 32)) (HF : Hid (Fr w))
    (LG : Hid (∀ v, Calls Tryd.prog 9 #[.agg #[.slice pb lb cb, .slice pw lw cw, .slice pt lt ct, .slice ps ls cs, .int .i64 sky, .int .i64 st]] v fun e w' => e = .returned (.bool false) ∧ Below v.heap.size v w'))
    (LO : Hid (∀ v, Calls Tryd.prog 9 #[.agg #[.slice qb mb db, .slice qw mw dw, .slice qt mt dt2, .slice qs ms ds, .int .i64 sky2, .int .i64 st2]] v fun e w' => e = .returned (.bool false) ∧ Below v.heap.size v w'))
    (CA : Hid (∀ gb v, Ab w v → GridOf n gb v → Calls Tryd.prog 10 #[.pointer (some ⟨gb, 0, none⟩), .agg #[.int .i64 sd, .float .f64 dt, .float .f64 gr, .float .f64 dr, .int .i64 lim, .bool rv, .slice pr lr cr], .agg #[.slice pb lb cb, .slice pw lw cw, .slice pt lt ct, .slice ps ls cs, .int .i64 sky, .int .i64 st]] v fun e w' => e = .returned (.tuple #[.slice none 0 0, .int .i64 1]) ∧ Below v.heap.size v w')) :
    Calls Tryd.prog 4 #[.int .i64 (n : Nat), .agg #[.int .i64 sd, .float .f64 dt, .float .f64 gr, .float .f64 dr, .int .i64 lim, .bool rv, .slice pr lr cr], .agg #[.slice pb lb cb, .slice pw lw cw, .slice pt lt ct, .slice ps ls cs, .int .i64 sky, .int .i64 st], .int .i64 e, .agg #[.slice qb mb db, .slice qw mw dw, .slice qt mt dt2, .slice qs ms ds, .int .i64 sky2, .int .i64 st2]] w fun e w' => e = .returned (.bool true) ∧ Below w.heap.size w w' := by
  have A0 : Hid (Ab w (((w.alloc (.cells #[.int .i64 sd, .float .f64 dt, .float .f64 gr, .float .f64 dr, .int .i64 lim, .bool rv, .slice pr lr cr] 30)).alloc (.cells #[.slice pb lb cb, .slice pw lw cw, .slice pt lt ct, .slice ps ls cs, .int .i64 sky, .int .i64 st] 34)).alloc (.cells #[.slice qb mb db, .slice qw mw dw, .slice qt mt dt2, .slice qs ms ds, .int .i64 sky2, .int .i64 st2] 34))) := bl3 _ _ _ _
  have RP : Hid ((((w.alloc (.cells #[.int .i64 sd, .float .f64 dt, .float .f64 gr, .float .f64 dr, .int .i64 lim, .bool rv, .slice pr lr cr] 30)).alloc (.cells #[.slice pb lb cb, .slice pw lw cw, .slice pt lt ct, .slice ps ls cs, .int .i64 sky, .int .i64 st] 34)).alloc (.cells #[.slice qb mb db, .slice qw mw dw, .slice qt mt dt2, .slice qs ms ds, .int .i64 sky2, .int .i64 st2] 34)).heap[w.heap.size]? = some (.cells #[.int .i64 sd, .float .f64 dt, .float .f64 gr, .float .f64 dr, .int .i64 lim, .bool rv, .slice pr lr cr] 30)) := Ab.heap (bl2 _ _ _) (heap_alloc_new _ _)
  have RO : Hid ((((w.alloc (.cells #[.int .i64 sd, .float .f64 dt, .float .f64 gr, .float .f64 dr, .int .i64 lim, .bool rv, .slice pr lr cr] 30)).alloc (.cells #[.slice pb lb cb, .slice pw lw cw, .slice pt lt ct, .slice ps ls cs, .int .i64 sky, .int .i64 st] 34)).alloc (.cells #[.slice qb mb db, .slice qw mw dw, .slice qt mt dt2, .slice qs ms ds, .int .i64 sky2, .int .i64 st2] 34)).heap[w.heap.size + 1]? = some (.cells #[.slice pb lb cb, .slice pw lw cw, .slice pt lt ct, .slice ps ls cs, .int .i64 sky, .int .i64 st] 34)) := Ab.heap (bl1 _ _) (heap_alloc2_new _ _ _)
  have RD : Hid ((((w.alloc (.cells #[.int .i64 sd, .float .f64 dt, .float .f64 gr, .float .f64 dr, .int .i64 lim, .bool rv, .slice pr lr cr] 30)).alloc (.cells #[.slice pb lb cb, .slice pw lw cw, .slice pt lt ct, .slice ps ls cs, .int .i64 sky, .int .i64 st] 34)).alloc (.cells #[.slice qb mb db, .slice qw mw dw, .slice qt mt dt2, .slice qs ms ds, .int .i64 sky2, .int .i64 st2] 34)).heap[w.heap.size + 2]? = some (.cells #[.slice qb mb db, .slice qw mw dw, .slice qt mt dt2, .slice qs ms ds, .int .i64 sky2, .int .i64 st2] 34)) := heap_alloc3_new _ _ _ _
  go_enter Tryd.func4, Tryd.ntmps4
  go_upto_region 1 with fail
  generalize hW : World.alloc (World.alloc (World.alloc w _) _) _ = W at *
  obtain ⟨gp, hgp⟩ : ∃ g, w.heap.size = g := ⟨_, rfl⟩
  obtain ⟨gs, hgs⟩ : ∃ g, w.heap.size + 1 = g := ⟨_, rfl⟩
  obtain ⟨go, hgo⟩ : ∃ g, w.heap.size + 2 = g := ⟨_, rfl⟩
  rw [hgp] at RP
  rw [hgs] at RO
  rw [hgo] at RD
  rw [hgo, hgs, hgp]
  clear hgs hgp hgo hW
  go_wp2_with fail
  refine (LV.out _ A0.out).mono ?_
  rintro e9 v1 ⟨rfl, b1⟩
  have A1 : Hid (Ab W v1) := b1
  clear b1
  go_wp2_with fail
  refine (new_at n v1 HN.out (HF.out.to (A0.out.trans A1.out))).mono ?_
  rintro e9 v2 ⟨gb, rfl, a2, -, g2⟩
  have A2 : Hid (Ab W v2) := A1.out.trans a2
  have G2 : Hid (GridOf n gb v2) := g2
  clear a2 g2 A1
  have s0 := cell_of_row _ _ 0 _ _ _ (A2.out.heap RO.out)
  have s1 := cell_of_row _ _ 1 _ _ _ (A2.out.heap RO.out)
  have s2 := cell_of_row _ _ 2 _ _ _ (A2.out.heap RO.out)
  have s3 := cell_of_row _ _ 3 _ _ _ (A2.out.heap RO.out)
  have s4 := cell_of_row _ _ 4 _ _ _ (A2.out.heap RO.out)
  have s5 := cell_of_row _ _ 5 _ _ _ (A2.out.heap RO.out)
  have o0 := cell_of_row _ _ 0 _ _ _ (A2.out.heap RD.out)
  have o1 := cell_of_row _ _ 1 _ _ _ (A2.out.heap RD.out)
  have o2 := cell_of_row _ _ 2 _ _ _ (A2.out.heap RD.out)
  have o3 := cell_of_row _ _ 3 _ _ _ (A2.out.heap RD.out)
  have o4 := cell_of_row _ _ 4 _ _ _ (A2.out.heap RD.out)
  have o5 := cell_of_row _ _ 5 _ _ _ (A2.out.heap RD.out)
  go_wp2_with fail
  refine (LG.out v2).mono ?_
  rintro e9 v3 ⟨rfl, b3⟩
  have A3 : Hid (Ab W v3) := A2.out.trans b3
  have G3 : Hid (GridOf n gb v3) := G2.out.to b3
  clear b3 A2 G2 s0 s1 s2 s3 s4 s5 o0 o1 o2 o3 o4 o5
  have o0 := cell_of_row _ _ 0 _ _ _ (A3.out.heap RD.out)
  have o1 := cell_of_row _ _ 1 _ _ _ (A3.out.heap RD.out)
  have o2 := cell_of_row _ _ 2 _ _ _ (A3.out.heap RD.out)
  have o3 := cell_of_row _ _ 3 _ _ _ (A3.out.heap RD.out)
  have o4 := cell_of_row _ _ 4 _ _ _ (A3.out.heap RD.out)
  have o5 := cell_of_row _ _ 5 _ _ _ (A3.out.heap RD.out)
  go_wp2_with fail
  refine (LO.out v3).mono ?_
  rintro e9 v4 ⟨rfl, b4⟩
  have A4 : Hid (Ab W v4) := A3.out.trans b4
  have G4 : Hid (GridOf n gb v4) := G3.out.to b4
  clear b4 A3 G3 o0 o1 o2 o3 o4 o5
  have s0 := cell_of_row _ _ 0 _ _ _ (A4.out.heap RO.out)
  have s1 := cell_of_row _ _ 1 _ _ _ (A4.out.heap RO.out)
  have s2 := cell_of_row _ _ 2 _ _ _ (A4.out.heap RO.out)
  have s3 := cell_of_row _ _ 3 _ _ _ (A4.out.heap RO.out)
  have s4 := cell_of_row _ _ 4 _ _ _ (A4.out.heap RO.out)
  have s5 := cell_of_row _ _ 5 _ _ _ (A4.out.heap RO.out)
  have p0 := cell_of_row _ _ 0 _ _ _ (A4.out.heap RP.out)
  have p1 := cell_of_row _ _ 1 _ _ _ (A4.out.heap RP.out)
  have p2 := cell_of_row _ _ 2 _ _ _ (A4.out.heap RP.out)
  have p3 := cell_of_row _ _ 3 _ _ _ (A4.out.heap RP.out)
  have p4 := cell_of_row _ _ 4 _ _ _ (A4.out.heap RP.out)
  have p5 := cell_of_row _ _ 5 _ _ _ (A4.out.heap RP.out)
  have p6 := cell_of_row _ _ 6 _ _ _ (A4.out.heap RP.out)
  go_wp2_with fail
  refine (CA.out gb v4 (A0.out.trans A4.out) G4.out).mono ?_
  rintro e9 v5 ⟨rfl, b5⟩
  have A5 : Hid (Ab W v5) := A4.out.trans b5
  clear b5 s0 s1 s2 s3 s4 s5 p0 p1 p2 p3 p4 p5 p6
  go_wp2
  go_ret
  exact ⟨rfl, A0.out.trans A5.out⟩
set_option maxRecDepth 100000 in
set_option maxHeartbeats 8000000 in
theorem fe13_out (n N : Nat) (sd : Int) (dt gr dr : Nat) (lim : Int) (rv : Bool) (pr : Option Addr) (lr cr : Nat) {pb pw pt ps : Option Addr} {lb cb lw cw lt ct ls cs : Nat} (sky st : Int) (e : Int) {D : Nat → Int} {qb qw qt qs : Option Addr} {mb db mw dw mt dt2 ms ds : Nat} (sky2 st2 : Int) (w : World) (LV : Hid (∀ v, Ab w v → Calls Tryd.prog 6 #[] v fun e w' => e = .returned (.bool true) ∧ Below v.heap.size v w')) (HN : Hid (1 ≤ n ∧ n ≤ 32)) (HF : Hid (Fr w))
    (LG : Hid (∀ v, Calls Tryd.prog 9 #[.agg #[.slice pb lb cb, .slice pw lw cw, .slice pt lt ct, .slice ps ls cs, .int .i64 sky, .int .i64 st]] v fun e w' => e = .returned (.bool false) ∧ Below v.heap.size v w'))
    (LO : Hid (∀ v, Calls Tryd.prog 9 #[.agg #[.slice qb mb db, .slice qw mw dw, .slice qt mt dt2, .slice qs ms ds, .int .i64 sky2, .int .i64 st2]] v fun e w' => e = .returned (.bool false) ∧ Below v.heap.size v w'))
    (CA : Hid (∀ gb v, Ab w v → GridOf n gb v → Calls Tryd.prog 10 #[.pointer (some ⟨gb, 0, none⟩), .agg #[.int .i64 sd, .float .f64 dt, .float .f64 gr, .float .f64 dr, .int .i64 lim, .bool rv, .slice pr lr cr], .agg #[.slice pb lb cb, .slice pw lw cw, .slice pt lt ct, .slice ps ls cs, .int .i64 sky, .int .i64 st]] v fun e w' => ∃ b, e = .returned (.tuple #[.slice (some ⟨b, 0, none⟩) N N, .int .i64 0]) ∧ Below v.heap.size v w' ∧ w'.rowIs b 2 N (fun i => .int .i64 (D i)) ∧ v.heap.size ≤ b))
    (EI : Hid (inR e (12 * n * n : Nat) = false)) :
    Calls Tryd.prog 4 #[.int .i64 (n : Nat), .agg #[.int .i64 sd, .float .f64 dt, .float .f64 gr, .float .f64 dr, .int .i64 lim, .bool rv, .slice pr lr cr], .agg #[.slice pb lb cb, .slice pw lw cw, .slice pt lt ct, .slice ps ls cs, .int .i64 sky, .int .i64 st], .int .i64 e, .agg #[.slice qb mb db, .slice qw mw dw, .slice qt mt dt2, .slice qs ms ds, .int .i64 sky2, .int .i64 st2]] w fun e w' => e = .returned (.bool true) ∧ Below w.heap.size w w' := by
  have A0 : Hid (Ab w (((w.alloc (.cells #[.int .i64 sd, .float .f64 dt, .float .f64 gr, .float .f64 dr, .int .i64 lim, .bool rv, .slice pr lr cr] 30)).alloc (.cells #[.slice pb lb cb, .slice pw lw cw, .slice pt lt ct, .slice ps ls cs, .int .i64 sky, .int .i64 st] 34)).alloc (.cells #[.slice qb mb db, .slice qw mw dw, .slice qt mt dt2, .slice qs ms ds, .int .i64 sky2, .int .i64 st2] 34))) := bl3 _ _ _ _
  have RP : Hid ((((w.alloc (.cells #[.int .i64 sd, .float .f64 dt, .float .f64 gr, .float .f64 dr, .int .i64 lim, .bool rv, .slice pr lr cr] 30)).alloc (.cells #[.slice pb lb cb, .slice pw lw cw, .slice pt lt ct, .slice ps ls cs, .int .i64 sky, .int .i64 st] 34)).alloc (.cells #[.slice qb mb db, .slice qw mw dw, .slice qt mt dt2, .slice qs ms ds, .int .i64 sky2, .int .i64 st2] 34)).heap[w.heap.size]? = some (.cells #[.int .i64 sd, .float .f64 dt, .float .f64 gr, .float .f64 dr, .int .i64 lim, .bool rv, .slice pr lr cr] 30)) := Ab.heap (bl2 _ _ _) (heap_alloc_new _ _)
  have RO : Hid ((((w.alloc (.cells #[.int .i64 sd, .float .f64 dt, .float .f64 gr, .float .f64 dr, .int .i64 lim, .bool rv, .slice pr lr cr] 30)).alloc (.cells #[.slice pb lb cb, .slice pw lw cw, .slice pt lt ct, .slice ps ls cs, .int .i64 sky, .int .i64 st] 34)).alloc (.cells #[.slice qb mb db, .slice qw mw dw, .slice qt mt dt2, .slice qs ms ds, .int .i64 sky2, .int .i64 st2] 34)).heap[w.heap.size + 1]? = some (.cells #[.slice pb lb cb, .slice pw lw cw, .slice pt lt ct, .slice ps ls cs, .int .i64 sky, .int .i64 st] 34)) := Ab.heap (bl1 _ _) (heap_alloc2_new _ _ _)
  have RD : Hid ((((w.alloc (.cells #[.int .i64 sd, .float .f64 dt, .float .f64 gr, .float .f64 dr, .int .i64 lim, .bool rv, .slice pr lr cr] 30)).alloc (.cells #[.slice pb lb cb, .slice pw lw cw, .slice pt lt ct, .slice ps ls cs, .int .i64 sky, .int .i64 st] 34)).alloc (.cells #[.slice qb mb db, .slice qw mw dw, .slice qt mt dt2, .slice qs ms ds, .int .i64 sky2, .int .i64 st2] 34)).heap[w.heap.size + 2]? = some (.cells #[.slice qb mb db, .slice qw mw dw, .slice qt mt dt2, .slice qs ms ds, .int .i64 sky2, .int .i64 st2] 34)) := heap_alloc3_new _ _ _ _
  go_enter Tryd.func4, Tryd.ntmps4
  go_upto_region 1 with fail
  generalize hW : World.alloc (World.alloc (World.alloc w _) _) _ = W at *
  obtain ⟨gp, hgp⟩ : ∃ g, w.heap.size = g := ⟨_, rfl⟩
  obtain ⟨gs, hgs⟩ : ∃ g, w.heap.size + 1 = g := ⟨_, rfl⟩
  obtain ⟨go, hgo⟩ : ∃ g, w.heap.size + 2 = g := ⟨_, rfl⟩
  rw [hgp] at RP
  rw [hgs] at RO
  rw [hgo] at RD
  rw [hgo, hgs, hgp]
  clear hgs hgp hgo hW
  go_wp2_with fail
  refine (LV.out _ A0.out).mono ?_
  rintro e9 v1 ⟨rfl, b1⟩
  have A1 : Hid (Ab W v1) := b1
  clear b1
  go_wp2_with fail
  refine (new_at n v1 HN.out (HF.out.to (A0.out.trans A1.out))).mono ?_
  rintro e9 v2 ⟨gb, rfl, a2, -, g2⟩
  have A2 : Hid (Ab W v2) := A1.out.trans a2
  have G2 : Hid (GridOf n gb v2) := g2
  clear a2 g2 A1
  have s0 := cell_of_row _ _ 0 _ _ _ (A2.out.heap RO.out)
  have s1 := cell_of_row _ _ 1 _ _ _ (A2.out.heap RO.out)
  have s2 := cell_of_row _ _ 2 _ _ _ (A2.out.heap RO.out)
  have s3 := cell_of_row _ _ 3 _ _ _ (A2.out.heap RO.out)
  have s4 := cell_of_row _ _ 4 _ _ _ (A2.out.heap RO.out)
  have s5 := cell_of_row _ _ 5 _ _ _ (A2.out.heap RO.out)
  have o0 := cell_of_row _ _ 0 _ _ _ (A2.out.heap RD.out)
  have o1 := cell_of_row _ _ 1 _ _ _ (A2.out.heap RD.out)
  have o2 := cell_of_row _ _ 2 _ _ _ (A2.out.heap RD.out)
  have o3 := cell_of_row _ _ 3 _ _ _ (A2.out.heap RD.out)
  have o4 := cell_of_row _ _ 4 _ _ _ (A2.out.heap RD.out)
  have o5 := cell_of_row _ _ 5 _ _ _ (A2.out.heap RD.out)
  go_wp2_with fail
  refine (LG.out v2).mono ?_
  rintro e9 v3 ⟨rfl, b3⟩
  have A3 : Hid (Ab W v3) := A2.out.trans b3
  have G3 : Hid (GridOf n gb v3) := G2.out.to b3
  clear b3 A2 G2 s0 s1 s2 s3 s4 s5 o0 o1 o2 o3 o4 o5
  have o0 := cell_of_row _ _ 0 _ _ _ (A3.out.heap RD.out)
  have o1 := cell_of_row _ _ 1 _ _ _ (A3.out.heap RD.out)
  have o2 := cell_of_row _ _ 2 _ _ _ (A3.out.heap RD.out)
  have o3 := cell_of_row _ _ 3 _ _ _ (A3.out.heap RD.out)
  have o4 := cell_of_row _ _ 4 _ _ _ (A3.out.heap RD.out)
  have o5 := cell_of_row _ _ 5 _ _ _ (A3.out.heap RD.out)
  go_wp2_with fail
  refine (LO.out v3).mono ?_
  rintro e9 v4 ⟨rfl, b4⟩
  have A4 : Hid (Ab W v4) := A3.out.trans b4
  have G4 : Hid (GridOf n gb v4) := G3.out.to b4
  clear b4 A3 G3 o0 o1 o2 o3 o4 o5
  have s0 := cell_of_row _ _ 0 _ _ _ (A4.out.heap RO.out)
  have s1 := cell_of_row _ _ 1 _ _ _ (A4.out.heap RO.out)
  have s2 := cell_of_row _ _ 2 _ _ _ (A4.out.heap RO.out)
  have s3 := cell_of_row _ _ 3 _ _ _ (A4.out.heap RO.out)
  have s4 := cell_of_row _ _ 4 _ _ _ (A4.out.heap RO.out)
  have s5 := cell_of_row _ _ 5 _ _ _ (A4.out.heap RO.out)
  have p0 := cell_of_row _ _ 0 _ _ _ (A4.out.heap RP.out)
  have p1 := cell_of_row _ _ 1 _ _ _ (A4.out.heap RP.out)
  have p2 := cell_of_row _ _ 2 _ _ _ (A4.out.heap RP.out)
  have p3 := cell_of_row _ _ 3 _ _ _ (A4.out.heap RP.out)
  have p4 := cell_of_row _ _ 4 _ _ _ (A4.out.heap RP.out)
  have p5 := cell_of_row _ _ 5 _ _ _ (A4.out.heap RP.out)
  have p6 := cell_of_row _ _ 6 _ _ _ (A4.out.heap RP.out)
  go_wp2_with fail
  refine (CA.out gb v4 (A0.out.trans A4.out) G4.out).mono ?_
  rintro e9 v5 ⟨bl, rfl, b5, r5, -⟩
  have A5 : Hid (Ab W v5) := A4.out.trans b5
  have G5 : Hid (GridOf n gb v5) := G4.out.to b5
  have R5 := hid r5
  clear b5 r5 A4 G4 s0 s1 s2 s3 s4 s5 p0 p1 p2 p3 p4 p5 p6
  go_wp2_with fail
  refine (gEdge_no EI.out G5.out).mono ?_
  rintro e9 v6 ⟨rfl, b6⟩
  have A6 : Hid (Ab W v6) := A5.out.trans b6
  have G6 : Hid (GridOf n gb (v6.alloc (.cells #[.int .i64 0, .int .i64 0, .int .i64 0, .int .i64 0] 43))) := (G5.out.to b6).to (bl1 _ _)
  clear b6 A5 G5
  go_wp2_with fail
  refine (gBehind_no EI.out G6.out).mono ?_
  rintro e9 v7 ⟨rfl, b7⟩
  have A7 : Hid (Ab W v7) := (Ab.alloc A6.out _).trans b7
  clear b7
  go_wp2
  go_ret
  exact ⟨rfl, A0.out.trans A7.out⟩
end Go.Proofs.YtbdjbhdbegiipaaDoor
