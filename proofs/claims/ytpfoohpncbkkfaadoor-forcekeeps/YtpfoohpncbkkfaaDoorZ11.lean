/-
  Some of the texts of this proof, one behind the other.
-/
import Derived.Deep.AppendSrc
import Derived.Deep.AppendLies
import Derived.Deep.QuietTactic
import Derived.Test.YtpfoohpncbkkfaaDoorZ10
namespace Go.Proofs.YtpfoohpncbkkfaaDoor
open Go.RowKit Tf Cu Go.Deep
theorem setCells_row {b : Nat} {t : TypeId} {N : Nat} : ∀ (news : List Value) (n : Nat) (f : Nat → Value) (w : World), w.rowIs b t N f → n + news.length ≤ N → (w.setCells b n news).rowIs b t N (fun j => if n ≤ j then (news[j - n]?).getD (f j) else f j) ∧ Abx w b N t (w.setCells b n news)
  | [], n, f, w, h, _ => by
    refine ⟨h.congr (fun i _ => by simp), ?_⟩
    obtain ⟨c, hb, hn, _⟩ := h
    exact (Ab.refl w).x hn hb
  | x :: xs, n, f, w, h, hn => by
    rw [List.length_cons] at hn
    have h1 := h.set n x
    obtain ⟨r1, r2⟩ := setCells_row xs (n + 1) _ _ h1 (by omega)
    refine ⟨r1.congr (fun j _ => ?_), ?_⟩
    · by_cases c : n ≤ j
      · by_cases c2 : j = n
        · subst c2
          simp [show ¬ j + 1 ≤ j by omega]
        · have e : j - n = (j - (n + 1)) + 1 := by omega
          simp [c, c2, show n + 1 ≤ j by omega, e]
      · simp [c, show ¬ n + 1 ≤ j by omega, show ¬ j = n by omega]
    · obtain ⟨c, hb, hc, _⟩ := h
      have a1 : Abx w b N t (w.setCell ⟨b, n, none⟩ x) := ((Ab.refl w).x hc hb).set n x
      obtain ⟨⟨p1, p2, p3, p4, p5⟩, _⟩ := a1
      obtain ⟨⟨q1, q2, q3, q4, q5⟩, q6⟩ := r2
      exact ⟨⟨q1.trans p1, q2.trans p2, q3.trans p3, Nat.le_trans p4 q4, fun k hk hne => (q5 k (by omega) hne).trans (p5 k hk hne)⟩, q6⟩
theorem step_app {P : Program} {ops : Array Oper} {o : Oper} {a : Act} {w : World} {K : Act → World → Prop} {Q : Exit → Act → World → Prop} {E : Prop} (hgd : o.guard = none) (s x : Operand) (t : TypeId)
    (ho : o.op = .call { callee := .builtin .append, args := #[s, x], argTypes := #[t, t] })
    (e : TypeId) (i : TypeInfo) (ht : P.underlying t = some (.slice e)) (hi : P.info? e = some i) (hsz : i.size = 1)
    (b n cap : Nat) (f : Nat → Value) (hs : a.eval s = .slice (some ⟨b, 0, none⟩) n cap) (row : w.rowIs b e cap f)
    (src : Value) (m : Nat) (news : List Value) (hx : a.eval x = src) (hsrc : Src P 1 t src m news w) (hroom : n + m ≤ cap) (nm : Nat) (hnm : n + m = nm)
    (h : ∀ w', w'.rowIs b e cap (fun j => if n ≤ j then (news[j - n]?).getD (f j) else f j) → Abx w b cap e w' → K (a.put o.dst (.slice (some ⟨b, 0, none⟩) nm cap)) w') :
    if Region.wanted o (yielded ops a.tmps) = true then Oper.wp P o a w K Q else E := by
  subst hnm
  have hw : Region.wanted o (yielded ops a.tmps) = true := by simp [Region.wanted, hgd]
  rw [if_pos hw]
  have hl : news.length = m := by have := hsrc.newsLen; omega
  have hr := run_append_room_src (P := P) w t t o.type e i ht hi b 0 n cap src m news (by rw [hsz]; exact hsrc) hroom
    (fun j hj => by rw [hsz]; simp only [Nat.zero_add, Nat.mul_one]; rw [row.cell (by omega)]; rfl) (fun j _ => by rw [hsz]; exact row.frozen _)
  rw [hsz, Nat.zero_add, Nat.mul_one] at hr
  obtain ⟨r1, r2⟩ := setCells_row news n f w row (by omega)
  unfold Oper.wp execOp
  simp only [ho, resolve, invoke, builtin, Sem.run_bind, Sem.run_pure, Result.andThen_ok, List.map_toArray, List.map_cons, List.map_nil, hs, hx, hr]
  exact h _ r1 r2
theorem info_f13 : ∃ i, Tryd.prog.info? 22 = some i ∧ i.size = 1 := by
  have h := infoF64
  cases e : Tryd.prog.info? 22 with
  | none => rw [e] at h; cases h
  | some i =>
    rw [e] at h
    simp at h
    exact ⟨i, rfl, h.2.1⟩
theorem info_i13 : ∃ i, Tryd.prog.info? 2 = some i ∧ i.size = 1 := by
  have h := info64
  cases e : Tryd.prog.info? 2 with
  | none => rw [e] at h; cases h
  | some i =>
    rw [e] at h
    simp at h
    exact ⟨i, rfl, h.2.1⟩
theorem src_fl {w : World} {pb : Option Addr} {L : Nat} {B : Nat → Nat} (h : IsFl w pb L B) (cb : Nat) : Src Tryd.prog 1 26 (.slice pb L cb) L ((List.range L).map fun k => Value.float .f64 (B k)) w := by
  have one : ∀ u ∈ (List.range L).map (fun k => Value.float .f64 (B k)), u.oneCell' = true := fun u hu => by
    obtain ⟨k, _, rfl⟩ := List.mem_map.1 hu
    rfl
  cases pb with
  | none =>
    have : L = 0 := by
      rcases Nat.eq_zero_or_pos L with h0 | h0
      · exact h0
      · obtain ⟨_, b, o, h2, _⟩ := h 0 h0
        cases h2
    subst this
    exact Src.ofNil w Tryd.underlying26 cb
  | some a =>
    refine Src.ofSlice w Tryd.underlying26 a L cb _ (by simp) (fun j u hu => ?_) one
    have hj : j < L := by
      rcases Nat.lt_or_ge j L with h1 | h1
      · exact h1
      · rw [List.getElem?_eq_none (by simpa using h1)] at hu; cases hu
    obtain ⟨_, b, o, h2, _, h4⟩ := h j hj
    cases h2
    simp [hj] at hu
    rw [add_off12, ← hu]
    exact h4
theorem src_in {w : World} {pb : Option Addr} {L : Nat} {B : Nat → Int} (h : IsIn w pb L B) (cb : Nat) : Src Tryd.prog 1 27 (.slice pb L cb) L ((List.range L).map fun k => Value.int .i64 (B k)) w := by
  have one : ∀ u ∈ (List.range L).map (fun k => Value.int .i64 (B k)), u.oneCell' = true := fun u hu => by
    obtain ⟨k, _, rfl⟩ := List.mem_map.1 hu
    rfl
  cases pb with
  | none =>
    have : L = 0 := by
      rcases Nat.eq_zero_or_pos L with h0 | h0
      · exact h0
      · obtain ⟨_, b, o, h2, _⟩ := h 0 h0
        cases h2
    subst this
    exact Src.ofNil w Tryd.underlying27 cb
  | some a =>
    refine Src.ofSlice w Tryd.underlying27 a L cb _ (by simp) (fun j u hu => ?_) one
    have hj : j < L := by
      rcases Nat.lt_or_ge j L with h1 | h1
      · exact h1
      · rw [List.getElem?_eq_none (by simpa using h1)] at hu; cases hu
    obtain ⟨_, b, o, h2, _, h4⟩ := h j hj
    cases h2
    simp [hj] at hu
    rw [add_off12, ← hu]
    exact h4
/-- a copied list: the numbers, the mark, noughts -/
def mkF (L : Nat) (g : Nat → Value) (m z : Value) (j : Nat) : Value := if j < L then g j else if j = L then m else z
theorem mk_two (L : Nat) (g : Nat → Value) (m z : Value) (j : Nat) :
    (if L ≤ j then ([m][j - L]?).getD (if 0 ≤ j then (((List.range L).map g)[j - 0]?).getD z else z) else (if 0 ≤ j then (((List.range L).map g)[j - 0]?).getD z else z)) = mkF L g m z j := by
  unfold mkF
  by_cases c : j < L
  · simp [c, show ¬ L ≤ j by omega]
  · by_cases c2 : j = L
    · subst c2
      simp
    · have e : j - L = (j - L - 1) + 1 := by omega
      rw [e]
      simp [c, c2, show L ≤ j by omega]
/-- a block of one number, in whatever world -/
theorem src_oneF {w : World} {q x : Nat} (h : w.heap[q]? = some (.cells #[.float .f64 x] 22 (0, 0))) : Src Tryd.prog 1 26 (.slice (some ⟨q, 0, none⟩) 1 1) 1 [.float .f64 x] w :=
  Src.ofSlice w Tryd.underlying26 ⟨q, 0, none⟩ 1 1 [.float .f64 x] rfl (World.news_of_block h) (fun u hu => by simp at hu; subst hu; rfl)
theorem src_oneI {w : World} {q : Nat} {x : Int} (h : w.heap[q]? = some (.cells #[.int .i64 x] 2 (0, 0))) : Src Tryd.prog 1 27 (.slice (some ⟨q, 0, none⟩) 1 1) 1 [.int .i64 x] w :=
  Src.ofSlice w Tryd.underlying27 ⟨q, 0, none⟩ 1 1 [.int .i64 x] rfl (World.news_of_block h) (fun u hu => by simp at hu; subst hu; rfl)
theorem Abx.far {V w w' : World} {g n b N : Nat} {T e : TypeId} (h : Abx V g n T w) (k : Abx w b N e w') (hb : V.heap.size ≤ b) (hg : g < V.heap.size) : Abx V g n T w' := by
  obtain ⟨⟨p1, p2, p3, p4, p5⟩, cs, p6, p7⟩ := h
  obtain ⟨⟨q1, q2, q3, q4, q5⟩, _⟩ := k
  exact ⟨⟨q1.trans p1, q2.trans p2, q3.trans p3, Nat.le_trans p4 q4, fun i hi hne => (q5 i (by omega) (by omega)).trans (p5 i hi hne)⟩, cs, p6, (q5 g (by omega) (by omega)).trans p7⟩
theorem abx_other {w w' : World} {b N q : Nat} {e : TypeId} {o : Obj} (k : Abx w b N e w') (h : w.heap[q]? = some o) (hne : q ≠ b) : w'.heap[q]? = some o := k.heap hne h
theorem make_f13 (L : Nat) (hL : L ≤ 65536) (w : World) : (Instr.makeSlice 26 (.int .i64 0) (.int .i64 ((L : Int) + 9))).run Tryd.prog w = .ok (.slice (some ⟨w.heap.size, 0, none⟩) 0 (L + 9)) (w.alloc (.cells (madeCells #[.float .f64 0] (L + 9)) 22)) := by
  obtain ⟨i, hi, hzz⟩ := Option.map_eq_some_iff.1 infoF64
  simp only [Prod.mk.injEq] at hzz
  obtain ⟨h1, h2, h3⟩ := hzz
  have h := run_make (P := Tryd.prog) w 26 22 i (.float .f64 0) Tryd.underlying26 hi h1 .i64 .i64 0 ((L : Int) + 9) (by omega) (by omega) (by rw [h3]; omega) (by omega)
  rw [h2, Nat.mul_one] at h
  have e : ((L : Int) + 9).toNat = L + 9 := by omega
  rw [e] at h
  exact h
theorem make_i13 (L : Nat) (hL : L ≤ 65536) (w : World) : (Instr.makeSlice 27 (.int .i64 0) (.int .i64 ((L : Int) + 9))).run Tryd.prog w = .ok (.slice (some ⟨w.heap.size, 0, none⟩) 0 (L + 9)) (w.alloc (.cells (madeCells #[.int .i64 0] (L + 9)) 2)) := by
  obtain ⟨i, hi, hzz⟩ := Option.map_eq_some_iff.1 info64
  simp only [Prod.mk.injEq] at hzz
  obtain ⟨h1, h2, h3⟩ := hzz
  have h := run_make (P := Tryd.prog) w 27 2 i (.int .i64 0) Tryd.underlying27 hi h1 .i64 .i64 0 ((L : Int) + 9) (by omega) (by omega) (by rw [h3]; omega) (by omega)
  rw [h2, Nat.mul_one] at h
  have e : ((L : Int) + 9).toNat = L + 9 := by omega
  rw [e] at h
  exact h
theorem wrap9 (L : Nat) (hL : L ≤ 65536) : IntKind.i64.wrap ((L : Int) + 9) = (L : Int) + 9 := by
  rw [IntKind.wrap_i64]
  omega
theorem row_m1 (V : World) (z : Value) (n : Nat) (t : TypeId) : (V.drew.alloc (.cells (madeCells #[z] n) t)).rowIs V.heap.size t n (fun _ => z) := World.rowIs_made V.drew z n t
theorem row_m2 (V : World) (z : Value) (n : Nat) (t : TypeId) (O : Obj) : ((V.drew.alloc (.cells (madeCells #[z] n) t)).alloc O).rowIs V.heap.size t n (fun _ => z) := (World.rowIs_made V.drew z n t).alloc O
theorem row_m3 (V : World) (z : Value) (n : Nat) (t : TypeId) (O : Obj) : ((V.drew.alloc O).alloc (.cells (madeCells #[z] n) t)).rowIs (V.heap.size + 1) t n (fun _ => z) := by
  have h := World.rowIs_made (V.drew.alloc O) z n t
  have e : (V.drew.alloc O).heap.size = V.heap.size + 1 := by
    show (V.heap.push O).size = _
    simp
  rwa [e] at h
theorem blk_m2 (V : World) (M O : Obj) : ((V.drew.alloc M).alloc O).heap[V.heap.size + 1]? = some O := heap_alloc2_new V.drew M O
theorem blk_m3 (V : World) (M O : Obj) : ((V.drew.alloc O).alloc M).heap[V.heap.size]? = some O := heap_alloc2_old V.drew O M
theorem rowIs_abx {V w : World} {b : Nat} {t : TypeId} {n : Nat} {f : Nat → Value} {g m : Nat} {T : TypeId} (h : V.rowIs b t n f) (a : Abx V g m T w) (hne : b ≠ g) : w.rowIs b t n f := h.of_block (a.1.2.2.2.2 b h.lt hne)
end Go.Proofs.YtpfoohpncbkkfaaDoor

namespace Go.Proofs.YtpfoohpncbkkfaaDoor
open Go.RowKit Tf Cu
attribute [local go_sem] run_bits run_from raw_feq raw_fne raw_flt raw_fgt run_neg run_store_float
set_option maxRecDepth 100000 in
set_option maxHeartbeats 8000000 in
theorem copied16_at (pb pw pt ps : Option Addr) (lb cb lw cw lt ct ls cs : Nat) (B : Nat → Nat) (Wt Tr : Nat → Int) (Sp : Nat → Nat) (sky st : Int) (w : World)
    (hB : IsFl w pb lb B) (hW : IsIn w pw lw Wt) (hT : IsIn w pt lt Tr) (hS : IsFl w ps ls Sp)
    (hl : lb ≤ 65536 ∧ lw ≤ 65536 ∧ lt ≤ 65536 ∧ ls ≤ 65536) :
    Calls Tryd.prog 19 #[.agg #[.slice pb lb cb, .slice pw lw cw, .slice pt lt ct, .slice ps ls cs, .int .i64 sky, .int .i64 st]] w fun e w' => ∃ bb bw bt bs, e = .returned (.agg #[.slice (some ⟨bb, 0, none⟩) lb (lb + 9), .slice (some ⟨bw, 0, none⟩) lw (lw + 9), .slice (some ⟨bt, 0, none⟩) lt (lt + 9), .slice (some ⟨bs, 0, none⟩) ls (ls + 9), .int .i64 sky, .int .i64 st]) ∧ Below w.heap.size w w' ∧ w'.rowIs bb 22 (lb + 9) (mkF lb (fun k => .float .f64 (B k)) (.float .f64 4635118810238550016) (.float .f64 0)) ∧ w'.rowIs bw 2 (lw + 9) (mkF lw (fun k => .int .i64 (Wt k)) (.int .i64 77) (.int .i64 0)) ∧ w'.rowIs bt 2 (lt + 9) (mkF lt (fun k => .int .i64 (Tr k)) (.int .i64 77) (.int .i64 0)) ∧ w'.rowIs bs 22 (ls + 9) (mkF ls (fun k => .float .f64 (Sp k)) (.float .f64 4635118810238550016) (.float .f64 0)) ∧ (w.heap.size ≤ bb ∧ w.heap.size ≤ bw ∧ w.heap.size ≤ bt ∧ w.heap.size ≤ bs ∧ bb ≠ bw ∧ bb ≠ bt ∧ bb ≠ bs ∧ bw ≠ bt ∧ bw ≠ bs ∧ bt ≠ bs) := by
  have A0 : Hid (Ab w (((w.alloc (.cells #[.slice pb lb cb, .slice pw lw cw, .slice pt lt ct, .slice ps ls cs, .int .i64 sky, .int .i64 st] 29)).alloc (.cells #[.slice none 0 0, .slice none 0 0, .slice none 0 0, .slice none 0 0, .int .i64 0, .int .i64 0] 29)).alloc (.cells #[.slice pb lb cb, .slice pw lw cw, .slice pt lt ct, .slice ps ls cs, .int .i64 sky, .int .i64 st] 29))) := bl3 _ _ _ _
  have GS : Hid ((((w.alloc (.cells #[.slice pb lb cb, .slice pw lw cw, .slice pt lt ct, .slice ps ls cs, .int .i64 sky, .int .i64 st] 29)).alloc (.cells #[.slice none 0 0, .slice none 0 0, .slice none 0 0, .slice none 0 0, .int .i64 0, .int .i64 0] 29)).alloc (.cells #[.slice pb lb cb, .slice pw lw cw, .slice pt lt ct, .slice ps ls cs, .int .i64 sky, .int .i64 st] 29)).heap[w.heap.size]? = some (.cells #[.slice pb lb cb, .slice pw lw cw, .slice pt lt ct, .slice ps ls cs, .int .i64 sky, .int .i64 st] 29)) := Ab.heap (bl2 _ _ _) (heap_alloc_new _ _)
  have GR : Hid ((((w.alloc (.cells #[.slice pb lb cb, .slice pw lw cw, .slice pt lt ct, .slice ps ls cs, .int .i64 sky, .int .i64 st] 29)).alloc (.cells #[.slice none 0 0, .slice none 0 0, .slice none 0 0, .slice none 0 0, .int .i64 0, .int .i64 0] 29)).alloc (.cells #[.slice pb lb cb, .slice pw lw cw, .slice pt lt ct, .slice ps ls cs, .int .i64 sky, .int .i64 st] 29)).heap[w.heap.size + 1]? = some (.cells #[.slice none 0 0, .slice none 0 0, .slice none 0 0, .slice none 0 0, .int .i64 0, .int .i64 0] 29)) := Ab.heap (bl1 _ _) (heap_alloc2_new _ _ _)
  have GO : Hid ((((w.alloc (.cells #[.slice pb lb cb, .slice pw lw cw, .slice pt lt ct, .slice ps ls cs, .int .i64 sky, .int .i64 st] 29)).alloc (.cells #[.slice none 0 0, .slice none 0 0, .slice none 0 0, .slice none 0 0, .int .i64 0, .int .i64 0] 29)).alloc (.cells #[.slice pb lb cb, .slice pw lw cw, .slice pt lt ct, .slice ps ls cs, .int .i64 sky, .int .i64 st] 29)).heap[w.heap.size + 2]? = some (.cells #[.slice pb lb cb, .slice pw lw cw, .slice pt lt ct, .slice ps ls cs, .int .i64 sky, .int .i64 st] 29)) := heap_alloc3_new _ _ _ _
  have HL := hid hl
  have Hb := hid hB
  have Hw := hid hW
  have Ht := hid hT
  have Hs := hid hS
  clear hl hB hW hT hS
  go_enter Tryd.func19, Tryd.ntmps19
  go_upto_region 2 with fail
  generalize hV : World.alloc (World.alloc (World.alloc w _) _) _ = V at *
  obtain ⟨gs, hgs⟩ : ∃ x, w.heap.size = x := ⟨_, rfl⟩
  obtain ⟨gr, hgr⟩ : ∃ x, w.heap.size + 1 = x := ⟨_, rfl⟩
  obtain ⟨go, hgo⟩ : ∃ x, w.heap.size + 2 = x := ⟨_, rfl⟩
  have GSO : Hid (gs ≠ go) := by intro h; omega
  have GRO : Hid (gr ≠ go ∧ gs ≠ gr) := ⟨by intro h; omega, by intro h; omega⟩
  have GRW : Hid (w.heap.size ≤ gr ∧ gr < go ∧ w.heap.size ≤ go) := ⟨by omega, by omega, by omega⟩
  have GOW : Hid (w.heap.size ≤ go) := by show w.heap.size ≤ go; omega
  rw [hgs] at GS
  rw [hgr] at GR
  rw [hgo] at GO
  rw [hgo, hgr, hgs]
  have AV := A0
  clear hgs hgr hgo hV A0
  go_upto_region 2 with fail
  go_cut [] from 5 to 19 (fun V0 => ∃ bb : Nat, V.heap.size ≤ bb ∧ Abx V go 6 29 V0 ∧ V0.heap[go]? = some (.cells #[.slice (some ⟨bb, 0, none⟩) lb (lb + 9), .slice pw lw cw, .slice pt lt ct, .slice ps ls cs, .int .i64 sky, .int .i64 st] 29) ∧ V0.rowIs bb 22 (lb + 9) (mkF lb (fun k => .float .f64 (B k)) (.float .f64 4635118810238550016) (.float .f64 0)))
  case first =>
    obtain ⟨i0, hi0, hi1⟩ := info_f13
    have IP := hid (And.intro hi0 hi1)
    clear hi0 hi1
    have M1 : ∀ v : World, (Instr.makeSlice 26 (.int .i64 0) (.int .i64 (IntKind.i64.wrap ((lb : Int) + 9)))).run Tryd.prog v = .ok (.slice (some ⟨v.heap.size, 0, none⟩) 0 (lb + 9)) (v.alloc (.cells (madeCells #[.float .f64 0] (lb + 9)) 22)) := fun v => by rw [wrap9 _ HL.out.1]; exact make_f13 lb HL.out.1 v
    have WR : Hid (IntKind.i64.wrap ((lb : Int) + 9) = (lb : Int) + 9) := wrap9 _ HL.out.1
    have lb1 : (lb : Int) ≤ 65536 := by have := HL.out; omega
    have AX0 : Abx V go 6 29 V := (Ab.refl V).x rfl GO.out
    have lb2 : ((lb : Nat) : Int) ≤ ((lb + 9 : Nat) : Int) := by omega
    have lb3 : (lb : Int) ≤ (lb : Int) + 9 := by omega
    have lb4 : (0 : Int) ≤ (lb : Int) := by omega
    have AB0 := hid (Ab.refl V)
    have GX := hid (lt_of_block GO.out)
    have KS : Hid (∀ w', Abx V go 6 29 w' → Abx V go 6 29 w' ∧ w'.cell? ⟨gs, 0, none⟩ = some (.slice pb lb cb) ∧ w'.frozen? ⟨go, 0, none⟩ = false ∧ w'.cell? ⟨go, 0, none⟩ = some (rv w' go 0)) := fun w' h => ⟨h, cell_of_row _ _ 0 _ _ _ (h.heap GSO.out GS.out), h.free 0, h.some (by decide)⟩
    have SR : Hid (∀ v, Abx V go 6 29 v → Src Tryd.prog 1 26 (.slice pb lb cb) lb ((List.range lb).map fun k => Value.float .f64 (B k)) v) := fun v h => src_fl (Hb.out.below (h.ab AV.out GOW.out)) _
    go_region_held3 (fun w' => Abx V go 6 29 w' ∧ w'.cell? ⟨gs, 0, none⟩ = some (.slice pb lb cb) ∧ w'.frozen? ⟨go, 0, none⟩ = false ∧ w'.cell? ⟨go, 0, none⟩ = some (rv w' go 0)) ((refine KS.out _ ?_; (with_reducible (repeat (first | assumption | apply Abx.drew | apply Abx.alloc | apply Abx.set))); done)) (first
      | (have r1 := R1.out; have q1 := HQ.out; refine step_app (by rfl) _ _ 26 (by rfl) 22 i0 Tryd.underlying26 IP.out.1 IP.out.2 _ lb (lb + 9) _ (by rfl) r1 _ 1 _ (by rfl) (src_oneF q1) (by omega) (lb + 1) rfl ?_; intro w5 r5 x5; have AX5 := Abx.far AX4 x5 (by omega) GX.out; have AB5 := hid (Abx.ab x5 AB4.out (by omega)); have R2 := hid r5; clear r5 x5; clear r1 q1)
      | (have r1 := R1.out; refine step_app (by rfl) _ _ 26 (by rfl) 22 i0 Tryd.underlying26 IP.out.1 IP.out.2 _ lb (lb + 9) _ (by rfl) (r1.alloc _) _ 1 _ (by rfl) (src_oneF (heap_alloc_new w4 _)) (by omega) (lb + 1) rfl ?_; intro w5 r5 x5; have AX5 := Abx.far (AX4.alloc _) x5 (by omega) GX.out; have AB5 := hid (Abx.ab x5 (AB4.out.alloc _) (by omega)); have R2 := hid r5; clear r5 x5; clear r1)
      | (refine step_app (by rfl) _ _ 26 (by rfl) 22 i0 Tryd.underlying26 IP.out.1 IP.out.2 (V.heap.size + 1) 0 (lb + 9) (fun _ => .float .f64 0) (by rfl) (row_m3 V (.float .f64 0) (lb + 9) 22 (.cells #[.float .f64 4635118810238550016] 22)) (.slice pb lb cb) lb _ (by rfl) (SR.out _ ((AX0.drew.alloc (.cells #[.float .f64 4635118810238550016] 22)).alloc (.cells (madeCells #[.float .f64 0] (lb + 9)) 22))) (by omega) lb (by omega) ?_; intro w4 r4 x4; have AX4 := Abx.far ((AX0.drew.alloc (.cells #[.float .f64 4635118810238550016] 22)).alloc (.cells (madeCells #[.float .f64 0] (lb + 9)) 22)) x4 (by omega) GX.out; have AB4 := hid (Abx.ab x4 ((AB0.out.drew.alloc (.cells #[.float .f64 4635118810238550016] 22)).alloc (.cells (madeCells #[.float .f64 0] (lb + 9)) 22)) (by omega)); have R1 := hid r4; have HQ := hid (abx_other x4 (blk_m3 V _ (.cells #[.float .f64 4635118810238550016] 22)) (by omega)); clear r4 x4)
      | (refine step_app (by rfl) _ _ 26 (by rfl) 22 i0 Tryd.underlying26 IP.out.1 IP.out.2 V.heap.size 0 (lb + 9) (fun _ => .float .f64 0) (by rfl) (row_m2 V (.float .f64 0) (lb + 9) 22 (.cells #[.float .f64 4635118810238550016] 22)) (.slice pb lb cb) lb _ (by rfl) (SR.out _ ((AX0.drew.alloc (.cells (madeCells #[.float .f64 0] (lb + 9)) 22)).alloc (.cells #[.float .f64 4635118810238550016] 22))) (by omega) lb (by omega) ?_; intro w4 r4 x4; have AX4 := Abx.far ((AX0.drew.alloc (.cells (madeCells #[.float .f64 0] (lb + 9)) 22)).alloc (.cells #[.float .f64 4635118810238550016] 22)) x4 (by omega) GX.out; have AB4 := hid (Abx.ab x4 ((AB0.out.drew.alloc (.cells (madeCells #[.float .f64 0] (lb + 9)) 22)).alloc (.cells #[.float .f64 4635118810238550016] 22)) (by omega)); have R1 := hid r4; have HQ := hid (abx_other x4 (blk_m2 V _ (.cells #[.float .f64 4635118810238550016] 22)) (by omega)); clear r4 x4)
      | (refine step_app (by rfl) _ _ 26 (by rfl) 22 i0 Tryd.underlying26 IP.out.1 IP.out.2 V.heap.size 0 (lb + 9) (fun _ => .float .f64 0) (by rfl) (row_m1 V (.float .f64 0) (lb + 9) 22) (.slice pb lb cb) lb _ (by rfl) (SR.out _ (AX0.drew.alloc (.cells (madeCells #[.float .f64 0] (lb + 9)) 22))) (by omega) lb (by omega) ?_; intro w4 r4 x4; have AX4 := Abx.far (AX0.drew.alloc (.cells (madeCells #[.float .f64 0] (lb + 9)) 22)) x4 (by omega) GX.out; have AB4 := hid (Abx.ab x4 (AB0.out.drew.alloc (.cells (madeCells #[.float .f64 0] (lb + 9)) 22)) (by omega)); have R1 := hid r4; clear r4 x4))
    all_goals
      go_wp2_with fail
      go_meet
      exact ⟨_, by omega, AX5.set _ _, one_set (AB5.out.heap GO.out), (R2.out.setOther (Ne.symm (Nat.ne_of_lt (Nat.lt_of_lt_of_le GX.out (by omega)))) _).congr (fun j _ => mk_two _ _ _ _ _)⟩
  case rest =>
    rename World => V0
    obtain ⟨bb, h1, h2, h3, h4⟩ := hcut
    have LTb : Hid (V.heap.size ≤ bb ∧ bb < V0.heap.size ∧ go < V.heap.size) := ⟨h1, h4.lt, lt_of_block GO.out⟩
    have AV2 : Hid (Ab w V0) := h2.ab AV.out GOW.out
    have GS2 := hid (h2.heap GSO.out GS.out)
    have GR2 := hid (h2.heap GRO.out.1 GR.out)
    have Rb := hid h4
    clear AV GS GR GO 
    have AV := AV2
    have GS := GS2
    have GR := GR2
    have GO := hid h3
    clear AV2 GS2 GR2 h1 h2 h3 h4
    go_upto_region 3 with fail
    go_cut [] from 20 to 34 (fun V1 => ∃ bs : Nat, V0.heap.size ≤ bs ∧ Abx V0 go 6 29 V1 ∧ V1.heap[go]? = some (.cells #[.slice (some ⟨bb, 0, none⟩) lb (lb + 9), .slice pw lw cw, .slice pt lt ct, .slice (some ⟨bs, 0, none⟩) ls (ls + 9), .int .i64 sky, .int .i64 st] 29) ∧ V1.rowIs bs 22 (ls + 9) (mkF ls (fun k => .float .f64 (Sp k)) (.float .f64 4635118810238550016) (.float .f64 0)))
    case first =>
      obtain ⟨i0, hi0, hi1⟩ := info_f13
      have IP := hid (And.intro hi0 hi1)
      clear hi0 hi1
      have M1 : ∀ v : World, (Instr.makeSlice 26 (.int .i64 0) (.int .i64 (IntKind.i64.wrap ((ls : Int) + 9)))).run Tryd.prog v = .ok (.slice (some ⟨v.heap.size, 0, none⟩) 0 (ls + 9)) (v.alloc (.cells (madeCells #[.float .f64 0] (ls + 9)) 22)) := fun v => by rw [wrap9 _ HL.out.2.2.2]; exact make_f13 ls HL.out.2.2.2 v
      have WR : Hid (IntKind.i64.wrap ((ls : Int) + 9) = (ls : Int) + 9) := wrap9 _ HL.out.2.2.2
      have lb1 : (ls : Int) ≤ 65536 := by have := HL.out; omega
      have AX0 : Abx V0 go 6 29 V0 := (Ab.refl V0).x rfl GO.out
      have lb2 : ((ls : Nat) : Int) ≤ ((ls + 9 : Nat) : Int) := by omega
      have lb3 : (ls : Int) ≤ (ls : Int) + 9 := by omega
      have lb4 : (0 : Int) ≤ (ls : Int) := by omega
      have AB0 := hid (Ab.refl V0)
      have GX := hid (lt_of_block GO.out)
      have KS : Hid (∀ w', Abx V0 go 6 29 w' → Abx V0 go 6 29 w' ∧ w'.cell? ⟨gs, 3, none⟩ = some (.slice ps ls cs) ∧ w'.frozen? ⟨go, 3, none⟩ = false ∧ w'.cell? ⟨go, 3, none⟩ = some (rv w' go 3)) := fun w' h => ⟨h, cell_of_row _ _ 3 _ _ _ (h.heap GSO.out GS.out), h.free 3, h.some (by decide)⟩
      have SR : Hid (∀ v, Abx V0 go 6 29 v → Src Tryd.prog 1 26 (.slice ps ls cs) ls ((List.range ls).map fun k => Value.float .f64 (Sp k)) v) := fun v h => src_fl (Hs.out.below (h.ab AV.out GOW.out)) _
      go_region_held3 (fun w' => Abx V0 go 6 29 w' ∧ w'.cell? ⟨gs, 3, none⟩ = some (.slice ps ls cs) ∧ w'.frozen? ⟨go, 3, none⟩ = false ∧ w'.cell? ⟨go, 3, none⟩ = some (rv w' go 3)) ((refine KS.out _ ?_; (with_reducible (repeat (first | assumption | apply Abx.drew | apply Abx.alloc | apply Abx.set))); done)) (first
        | (have r1 := R1.out; have q1 := HQ.out; refine step_app (by rfl) _ _ 26 (by rfl) 22 i0 Tryd.underlying26 IP.out.1 IP.out.2 _ ls (ls + 9) _ (by rfl) r1 _ 1 _ (by rfl) (src_oneF q1) (by omega) (ls + 1) rfl ?_; intro w5 r5 x5; have AX5 := Abx.far AX4 x5 (by omega) GX.out; have AB5 := hid (Abx.ab x5 AB4.out (by omega)); have R2 := hid r5; clear r5 x5; clear r1 q1)
        | (have r1 := R1.out; refine step_app (by rfl) _ _ 26 (by rfl) 22 i0 Tryd.underlying26 IP.out.1 IP.out.2 _ ls (ls + 9) _ (by rfl) (r1.alloc _) _ 1 _ (by rfl) (src_oneF (heap_alloc_new w4 _)) (by omega) (ls + 1) rfl ?_; intro w5 r5 x5; have AX5 := Abx.far (AX4.alloc _) x5 (by omega) GX.out; have AB5 := hid (Abx.ab x5 (AB4.out.alloc _) (by omega)); have R2 := hid r5; clear r5 x5; clear r1)
        | (refine step_app (by rfl) _ _ 26 (by rfl) 22 i0 Tryd.underlying26 IP.out.1 IP.out.2 (V0.heap.size + 1) 0 (ls + 9) (fun _ => .float .f64 0) (by rfl) (row_m3 V0 (.float .f64 0) (ls + 9) 22 (.cells #[.float .f64 4635118810238550016] 22)) (.slice ps ls cs) ls _ (by rfl) (SR.out _ ((AX0.drew.alloc (.cells #[.float .f64 4635118810238550016] 22)).alloc (.cells (madeCells #[.float .f64 0] (ls + 9)) 22))) (by omega) ls (by omega) ?_; intro w4 r4 x4; have AX4 := Abx.far ((AX0.drew.alloc (.cells #[.float .f64 4635118810238550016] 22)).alloc (.cells (madeCells #[.float .f64 0] (ls + 9)) 22)) x4 (by omega) GX.out; have AB4 := hid (Abx.ab x4 ((AB0.out.drew.alloc (.cells #[.float .f64 4635118810238550016] 22)).alloc (.cells (madeCells #[.float .f64 0] (ls + 9)) 22)) (by omega)); have R1 := hid r4; have HQ := hid (abx_other x4 (blk_m3 V0 _ (.cells #[.float .f64 4635118810238550016] 22)) (by omega)); clear r4 x4)
        | (refine step_app (by rfl) _ _ 26 (by rfl) 22 i0 Tryd.underlying26 IP.out.1 IP.out.2 V0.heap.size 0 (ls + 9) (fun _ => .float .f64 0) (by rfl) (row_m2 V0 (.float .f64 0) (ls + 9) 22 (.cells #[.float .f64 4635118810238550016] 22)) (.slice ps ls cs) ls _ (by rfl) (SR.out _ ((AX0.drew.alloc (.cells (madeCells #[.float .f64 0] (ls + 9)) 22)).alloc (.cells #[.float .f64 4635118810238550016] 22))) (by omega) ls (by omega) ?_; intro w4 r4 x4; have AX4 := Abx.far ((AX0.drew.alloc (.cells (madeCells #[.float .f64 0] (ls + 9)) 22)).alloc (.cells #[.float .f64 4635118810238550016] 22)) x4 (by omega) GX.out; have AB4 := hid (Abx.ab x4 ((AB0.out.drew.alloc (.cells (madeCells #[.float .f64 0] (ls + 9)) 22)).alloc (.cells #[.float .f64 4635118810238550016] 22)) (by omega)); have R1 := hid r4; have HQ := hid (abx_other x4 (blk_m2 V0 _ (.cells #[.float .f64 4635118810238550016] 22)) (by omega)); clear r4 x4)
        | (refine step_app (by rfl) _ _ 26 (by rfl) 22 i0 Tryd.underlying26 IP.out.1 IP.out.2 V0.heap.size 0 (ls + 9) (fun _ => .float .f64 0) (by rfl) (row_m1 V0 (.float .f64 0) (ls + 9) 22) (.slice ps ls cs) ls _ (by rfl) (SR.out _ (AX0.drew.alloc (.cells (madeCells #[.float .f64 0] (ls + 9)) 22))) (by omega) ls (by omega) ?_; intro w4 r4 x4; have AX4 := Abx.far (AX0.drew.alloc (.cells (madeCells #[.float .f64 0] (ls + 9)) 22)) x4 (by omega) GX.out; have AB4 := hid (Abx.ab x4 (AB0.out.drew.alloc (.cells (madeCells #[.float .f64 0] (ls + 9)) 22)) (by omega)); have R1 := hid r4; clear r4 x4))
      all_goals
        go_wp2_with fail
        go_meet
        exact ⟨_, by omega, AX5.set _ _, one_set (AB5.out.heap GO.out), (R2.out.setOther (Ne.symm (Nat.ne_of_lt (Nat.lt_of_lt_of_le GX.out (by omega)))) _).congr (fun j _ => mk_two _ _ _ _ _)⟩
    case rest =>
      rename World => V1
      obtain ⟨bs, h1, h2, h3, h4⟩ := hcut
      have LTs : Hid (V0.heap.size ≤ bs ∧ bs < V1.heap.size ∧ go < V0.heap.size) := ⟨h1, h4.lt, lt_of_block GO.out⟩
      have AV2 : Hid (Ab w V1) := h2.ab AV.out GOW.out
      have GS2 := hid (h2.heap GSO.out GS.out)
      have GR2 := hid (h2.heap GRO.out.1 GR.out)
      have Rs := hid h4
      have Qb := hid (rowIs_abx Rb.out h2 (by have := LTb.out; omega))
      clear AV GS GR GO Rb
      have Rb := Qb
      clear Qb
      have AV := AV2
      have GS := GS2
      have GR := GR2
      have GO := hid h3
      clear AV2 GS2 GR2 h1 h2 h3 h4
      go_upto_region 4 with fail
      go_cut [] from 35 to 49 (fun V2 => ∃ bw : Nat, V1.heap.size ≤ bw ∧ Abx V1 go 6 29 V2 ∧ V2.heap[go]? = some (.cells #[.slice (some ⟨bb, 0, none⟩) lb (lb + 9), .slice (some ⟨bw, 0, none⟩) lw (lw + 9), .slice pt lt ct, .slice (some ⟨bs, 0, none⟩) ls (ls + 9), .int .i64 sky, .int .i64 st] 29) ∧ V2.rowIs bw 2 (lw + 9) (mkF lw (fun k => .int .i64 (Wt k)) (.int .i64 77) (.int .i64 0)))
      case first =>
        obtain ⟨i0, hi0, hi1⟩ := info_i13
        have IP := hid (And.intro hi0 hi1)
        clear hi0 hi1
        have M1 : ∀ v : World, (Instr.makeSlice 27 (.int .i64 0) (.int .i64 (IntKind.i64.wrap ((lw : Int) + 9)))).run Tryd.prog v = .ok (.slice (some ⟨v.heap.size, 0, none⟩) 0 (lw + 9)) (v.alloc (.cells (madeCells #[.int .i64 0] (lw + 9)) 2)) := fun v => by rw [wrap9 _ HL.out.2.1]; exact make_i13 lw HL.out.2.1 v
        have WR : Hid (IntKind.i64.wrap ((lw : Int) + 9) = (lw : Int) + 9) := wrap9 _ HL.out.2.1
        have lb1 : (lw : Int) ≤ 65536 := by have := HL.out; omega
        have AX0 : Abx V1 go 6 29 V1 := (Ab.refl V1).x rfl GO.out
        have lb2 : ((lw : Nat) : Int) ≤ ((lw + 9 : Nat) : Int) := by omega
        have lb3 : (lw : Int) ≤ (lw : Int) + 9 := by omega
        have lb4 : (0 : Int) ≤ (lw : Int) := by omega
        have AB0 := hid (Ab.refl V1)
        have GX := hid (lt_of_block GO.out)
        have KS : Hid (∀ w', Abx V1 go 6 29 w' → Abx V1 go 6 29 w' ∧ w'.cell? ⟨gs, 1, none⟩ = some (.slice pw lw cw) ∧ w'.frozen? ⟨go, 1, none⟩ = false ∧ w'.cell? ⟨go, 1, none⟩ = some (rv w' go 1)) := fun w' h => ⟨h, cell_of_row _ _ 1 _ _ _ (h.heap GSO.out GS.out), h.free 1, h.some (by decide)⟩
        have SR : Hid (∀ v, Abx V1 go 6 29 v → Src Tryd.prog 1 27 (.slice pw lw cw) lw ((List.range lw).map fun k => Value.int .i64 (Wt k)) v) := fun v h => src_in (Hw.out.below (h.ab AV.out GOW.out)) _
        go_region_held3 (fun w' => Abx V1 go 6 29 w' ∧ w'.cell? ⟨gs, 1, none⟩ = some (.slice pw lw cw) ∧ w'.frozen? ⟨go, 1, none⟩ = false ∧ w'.cell? ⟨go, 1, none⟩ = some (rv w' go 1)) ((refine KS.out _ ?_; (with_reducible (repeat (first | assumption | apply Abx.drew | apply Abx.alloc | apply Abx.set))); done)) (first
          | (have r1 := R1.out; have q1 := HQ.out; refine step_app (by rfl) _ _ 27 (by rfl) 2 i0 Tryd.underlying27 IP.out.1 IP.out.2 _ lw (lw + 9) _ (by rfl) r1 _ 1 _ (by rfl) (src_oneI q1) (by omega) (lw + 1) rfl ?_; intro w5 r5 x5; have AX5 := Abx.far AX4 x5 (by omega) GX.out; have AB5 := hid (Abx.ab x5 AB4.out (by omega)); have R2 := hid r5; clear r5 x5; clear r1 q1)
          | (have r1 := R1.out; refine step_app (by rfl) _ _ 27 (by rfl) 2 i0 Tryd.underlying27 IP.out.1 IP.out.2 _ lw (lw + 9) _ (by rfl) (r1.alloc _) _ 1 _ (by rfl) (src_oneI (heap_alloc_new w4 _)) (by omega) (lw + 1) rfl ?_; intro w5 r5 x5; have AX5 := Abx.far (AX4.alloc _) x5 (by omega) GX.out; have AB5 := hid (Abx.ab x5 (AB4.out.alloc _) (by omega)); have R2 := hid r5; clear r5 x5; clear r1)
          | (refine step_app (by rfl) _ _ 27 (by rfl) 2 i0 Tryd.underlying27 IP.out.1 IP.out.2 (V1.heap.size + 1) 0 (lw + 9) (fun _ => .int .i64 0) (by rfl) (row_m3 V1 (.int .i64 0) (lw + 9) 2 (.cells #[.int .i64 77] 2)) (.slice pw lw cw) lw _ (by rfl) (SR.out _ ((AX0.drew.alloc (.cells #[.int .i64 77] 2)).alloc (.cells (madeCells #[.int .i64 0] (lw + 9)) 2))) (by omega) lw (by omega) ?_; intro w4 r4 x4; have AX4 := Abx.far ((AX0.drew.alloc (.cells #[.int .i64 77] 2)).alloc (.cells (madeCells #[.int .i64 0] (lw + 9)) 2)) x4 (by omega) GX.out; have AB4 := hid (Abx.ab x4 ((AB0.out.drew.alloc (.cells #[.int .i64 77] 2)).alloc (.cells (madeCells #[.int .i64 0] (lw + 9)) 2)) (by omega)); have R1 := hid r4; have HQ := hid (abx_other x4 (blk_m3 V1 _ (.cells #[.int .i64 77] 2)) (by omega)); clear r4 x4)
          | (refine step_app (by rfl) _ _ 27 (by rfl) 2 i0 Tryd.underlying27 IP.out.1 IP.out.2 V1.heap.size 0 (lw + 9) (fun _ => .int .i64 0) (by rfl) (row_m2 V1 (.int .i64 0) (lw + 9) 2 (.cells #[.int .i64 77] 2)) (.slice pw lw cw) lw _ (by rfl) (SR.out _ ((AX0.drew.alloc (.cells (madeCells #[.int .i64 0] (lw + 9)) 2)).alloc (.cells #[.int .i64 77] 2))) (by omega) lw (by omega) ?_; intro w4 r4 x4; have AX4 := Abx.far ((AX0.drew.alloc (.cells (madeCells #[.int .i64 0] (lw + 9)) 2)).alloc (.cells #[.int .i64 77] 2)) x4 (by omega) GX.out; have AB4 := hid (Abx.ab x4 ((AB0.out.drew.alloc (.cells (madeCells #[.int .i64 0] (lw + 9)) 2)).alloc (.cells #[.int .i64 77] 2)) (by omega)); have R1 := hid r4; have HQ := hid (abx_other x4 (blk_m2 V1 _ (.cells #[.int .i64 77] 2)) (by omega)); clear r4 x4)
          | (refine step_app (by rfl) _ _ 27 (by rfl) 2 i0 Tryd.underlying27 IP.out.1 IP.out.2 V1.heap.size 0 (lw + 9) (fun _ => .int .i64 0) (by rfl) (row_m1 V1 (.int .i64 0) (lw + 9) 2) (.slice pw lw cw) lw _ (by rfl) (SR.out _ (AX0.drew.alloc (.cells (madeCells #[.int .i64 0] (lw + 9)) 2))) (by omega) lw (by omega) ?_; intro w4 r4 x4; have AX4 := Abx.far (AX0.drew.alloc (.cells (madeCells #[.int .i64 0] (lw + 9)) 2)) x4 (by omega) GX.out; have AB4 := hid (Abx.ab x4 (AB0.out.drew.alloc (.cells (madeCells #[.int .i64 0] (lw + 9)) 2)) (by omega)); have R1 := hid r4; clear r4 x4))
        all_goals
          go_wp2_with fail
          go_meet
          exact ⟨_, by omega, AX5.set _ _, one_set (AB5.out.heap GO.out), (R2.out.setOther (Ne.symm (Nat.ne_of_lt (Nat.lt_of_lt_of_le GX.out (by omega)))) _).congr (fun j _ => mk_two _ _ _ _ _)⟩
      case rest =>
        rename World => V2
        obtain ⟨bw, h1, h2, h3, h4⟩ := hcut
        have LTw : Hid (V1.heap.size ≤ bw ∧ bw < V2.heap.size ∧ go < V1.heap.size) := ⟨h1, h4.lt, lt_of_block GO.out⟩
        have AV2 : Hid (Ab w V2) := h2.ab AV.out GOW.out
        have GS2 := hid (h2.heap GSO.out GS.out)
        have GR2 := hid (h2.heap GRO.out.1 GR.out)
        have Rw := hid h4
        have Qb := hid (rowIs_abx Rb.out h2 (by have := LTb.out; omega))
        have Qs := hid (rowIs_abx Rs.out h2 (by have := LTs.out; omega))
        clear AV GS GR GO Rb Rs
        have Rb := Qb
        clear Qb
        have Rs := Qs
        clear Qs
        have AV := AV2
        have GS := GS2
        have GR := GR2
        have GO := hid h3
        clear AV2 GS2 GR2 h1 h2 h3 h4
        go_upto_region 5 with fail
        go_cut [] from 50 to 64 (fun V3 => ∃ bt : Nat, V2.heap.size ≤ bt ∧ Abx V2 go 6 29 V3 ∧ V3.heap[go]? = some (.cells #[.slice (some ⟨bb, 0, none⟩) lb (lb + 9), .slice (some ⟨bw, 0, none⟩) lw (lw + 9), .slice (some ⟨bt, 0, none⟩) lt (lt + 9), .slice (some ⟨bs, 0, none⟩) ls (ls + 9), .int .i64 sky, .int .i64 st] 29) ∧ V3.rowIs bt 2 (lt + 9) (mkF lt (fun k => .int .i64 (Tr k)) (.int .i64 77) (.int .i64 0)))
        case first =>
          obtain ⟨i0, hi0, hi1⟩ := info_i13
          have IP := hid (And.intro hi0 hi1)
          clear hi0 hi1
          have M1 : ∀ v : World, (Instr.makeSlice 27 (.int .i64 0) (.int .i64 (IntKind.i64.wrap ((lt : Int) + 9)))).run Tryd.prog v = .ok (.slice (some ⟨v.heap.size, 0, none⟩) 0 (lt + 9)) (v.alloc (.cells (madeCells #[.int .i64 0] (lt + 9)) 2)) := fun v => by rw [wrap9 _ HL.out.2.2.1]; exact make_i13 lt HL.out.2.2.1 v
          have WR : Hid (IntKind.i64.wrap ((lt : Int) + 9) = (lt : Int) + 9) := wrap9 _ HL.out.2.2.1
          have lb1 : (lt : Int) ≤ 65536 := by have := HL.out; omega
          have AX0 : Abx V2 go 6 29 V2 := (Ab.refl V2).x rfl GO.out
          have lb2 : ((lt : Nat) : Int) ≤ ((lt + 9 : Nat) : Int) := by omega
          have lb3 : (lt : Int) ≤ (lt : Int) + 9 := by omega
          have lb4 : (0 : Int) ≤ (lt : Int) := by omega
          have AB0 := hid (Ab.refl V2)
          have GX := hid (lt_of_block GO.out)
          have KS : Hid (∀ w', Abx V2 go 6 29 w' → Abx V2 go 6 29 w' ∧ w'.cell? ⟨gs, 2, none⟩ = some (.slice pt lt ct) ∧ w'.frozen? ⟨go, 2, none⟩ = false ∧ w'.cell? ⟨go, 2, none⟩ = some (rv w' go 2)) := fun w' h => ⟨h, cell_of_row _ _ 2 _ _ _ (h.heap GSO.out GS.out), h.free 2, h.some (by decide)⟩
          have SR : Hid (∀ v, Abx V2 go 6 29 v → Src Tryd.prog 1 27 (.slice pt lt ct) lt ((List.range lt).map fun k => Value.int .i64 (Tr k)) v) := fun v h => src_in (Ht.out.below (h.ab AV.out GOW.out)) _
          go_region_held3 (fun w' => Abx V2 go 6 29 w' ∧ w'.cell? ⟨gs, 2, none⟩ = some (.slice pt lt ct) ∧ w'.frozen? ⟨go, 2, none⟩ = false ∧ w'.cell? ⟨go, 2, none⟩ = some (rv w' go 2)) ((refine KS.out _ ?_; (with_reducible (repeat (first | assumption | apply Abx.drew | apply Abx.alloc | apply Abx.set))); done)) (first
            | (have r1 := R1.out; have q1 := HQ.out; refine step_app (by rfl) _ _ 27 (by rfl) 2 i0 Tryd.underlying27 IP.out.1 IP.out.2 _ lt (lt + 9) _ (by rfl) r1 _ 1 _ (by rfl) (src_oneI q1) (by omega) (lt + 1) rfl ?_; intro w5 r5 x5; have AX5 := Abx.far AX4 x5 (by omega) GX.out; have AB5 := hid (Abx.ab x5 AB4.out (by omega)); have R2 := hid r5; clear r5 x5; clear r1 q1)
            | (have r1 := R1.out; refine step_app (by rfl) _ _ 27 (by rfl) 2 i0 Tryd.underlying27 IP.out.1 IP.out.2 _ lt (lt + 9) _ (by rfl) (r1.alloc _) _ 1 _ (by rfl) (src_oneI (heap_alloc_new w4 _)) (by omega) (lt + 1) rfl ?_; intro w5 r5 x5; have AX5 := Abx.far (AX4.alloc _) x5 (by omega) GX.out; have AB5 := hid (Abx.ab x5 (AB4.out.alloc _) (by omega)); have R2 := hid r5; clear r5 x5; clear r1)
            | (refine step_app (by rfl) _ _ 27 (by rfl) 2 i0 Tryd.underlying27 IP.out.1 IP.out.2 (V2.heap.size + 1) 0 (lt + 9) (fun _ => .int .i64 0) (by rfl) (row_m3 V2 (.int .i64 0) (lt + 9) 2 (.cells #[.int .i64 77] 2)) (.slice pt lt ct) lt _ (by rfl) (SR.out _ ((AX0.drew.alloc (.cells #[.int .i64 77] 2)).alloc (.cells (madeCells #[.int .i64 0] (lt + 9)) 2))) (by omega) lt (by omega) ?_; intro w4 r4 x4; have AX4 := Abx.far ((AX0.drew.alloc (.cells #[.int .i64 77] 2)).alloc (.cells (madeCells #[.int .i64 0] (lt + 9)) 2)) x4 (by omega) GX.out; have AB4 := hid (Abx.ab x4 ((AB0.out.drew.alloc (.cells #[.int .i64 77] 2)).alloc (.cells (madeCells #[.int .i64 0] (lt + 9)) 2)) (by omega)); have R1 := hid r4; have HQ := hid (abx_other x4 (blk_m3 V2 _ (.cells #[.int .i64 77] 2)) (by omega)); clear r4 x4)
            | (refine step_app (by rfl) _ _ 27 (by rfl) 2 i0 Tryd.underlying27 IP.out.1 IP.out.2 V2.heap.size 0 (lt + 9) (fun _ => .int .i64 0) (by rfl) (row_m2 V2 (.int .i64 0) (lt + 9) 2 (.cells #[.int .i64 77] 2)) (.slice pt lt ct) lt _ (by rfl) (SR.out _ ((AX0.drew.alloc (.cells (madeCells #[.int .i64 0] (lt + 9)) 2)).alloc (.cells #[.int .i64 77] 2))) (by omega) lt (by omega) ?_; intro w4 r4 x4; have AX4 := Abx.far ((AX0.drew.alloc (.cells (madeCells #[.int .i64 0] (lt + 9)) 2)).alloc (.cells #[.int .i64 77] 2)) x4 (by omega) GX.out; have AB4 := hid (Abx.ab x4 ((AB0.out.drew.alloc (.cells (madeCells #[.int .i64 0] (lt + 9)) 2)).alloc (.cells #[.int .i64 77] 2)) (by omega)); have R1 := hid r4; have HQ := hid (abx_other x4 (blk_m2 V2 _ (.cells #[.int .i64 77] 2)) (by omega)); clear r4 x4)
            | (refine step_app (by rfl) _ _ 27 (by rfl) 2 i0 Tryd.underlying27 IP.out.1 IP.out.2 V2.heap.size 0 (lt + 9) (fun _ => .int .i64 0) (by rfl) (row_m1 V2 (.int .i64 0) (lt + 9) 2) (.slice pt lt ct) lt _ (by rfl) (SR.out _ (AX0.drew.alloc (.cells (madeCells #[.int .i64 0] (lt + 9)) 2))) (by omega) lt (by omega) ?_; intro w4 r4 x4; have AX4 := Abx.far (AX0.drew.alloc (.cells (madeCells #[.int .i64 0] (lt + 9)) 2)) x4 (by omega) GX.out; have AB4 := hid (Abx.ab x4 (AB0.out.drew.alloc (.cells (madeCells #[.int .i64 0] (lt + 9)) 2)) (by omega)); have R1 := hid r4; clear r4 x4))
          all_goals
            go_wp2_with fail
            go_meet
            exact ⟨_, by omega, AX5.set _ _, one_set (AB5.out.heap GO.out), (R2.out.setOther (Ne.symm (Nat.ne_of_lt (Nat.lt_of_lt_of_le GX.out (by omega)))) _).congr (fun j _ => mk_two _ _ _ _ _)⟩
        case rest =>
          rename World => V3
          obtain ⟨bt, h1, h2, h3, h4⟩ := hcut
          have LTt : Hid (V2.heap.size ≤ bt ∧ bt < V3.heap.size ∧ go < V2.heap.size) := ⟨h1, h4.lt, lt_of_block GO.out⟩
          have AV2 : Hid (Ab w V3) := h2.ab AV.out GOW.out
          have GS2 := hid (h2.heap GSO.out GS.out)
          have GR2 := hid (h2.heap GRO.out.1 GR.out)
          have Rt := hid h4
          have Qb := hid (rowIs_abx Rb.out h2 (by have := LTb.out; omega))
          have Qs := hid (rowIs_abx Rs.out h2 (by have := LTs.out; omega))
          have Qw := hid (rowIs_abx Rw.out h2 (by have := LTw.out; omega))
          clear AV GS GR GO Rb Rs Rw
          have Rb := Qb
          clear Qb
          have Rs := Qs
          clear Qs
          have Rw := Qw
          clear Qw
          have AV := AV2
          have GS := GS2
          have GR := GR2
          have GO := hid h3
          clear AV2 GS2 GR2 h1 h2 h3 h4
          have o0 := cell_of_row _ _ 0 _ _ _ GO.out
          have r0 := cell_of_row _ _ 0 _ _ _ GR.out
          have f0 := free_row GR.out 0
          have o1 := cell_of_row _ _ 1 _ _ _ GO.out
          have r1 := cell_of_row _ _ 1 _ _ _ GR.out
          have f1 := free_row GR.out 1
          have o2 := cell_of_row _ _ 2 _ _ _ GO.out
          have r2 := cell_of_row _ _ 2 _ _ _ GR.out
          have f2 := free_row GR.out 2
          have o3 := cell_of_row _ _ 3 _ _ _ GO.out
          have r3 := cell_of_row _ _ 3 _ _ _ GR.out
          have f3 := free_row GR.out 3
          have o4 := cell_of_row _ _ 4 _ _ _ GO.out
          have r4 := cell_of_row _ _ 4 _ _ _ GR.out
          have f4 := free_row GR.out 4
          have o5 := cell_of_row _ _ 5 _ _ _ GO.out
          have r5 := cell_of_row _ _ 5 _ _ _ GR.out
          have f5 := free_row GR.out 5
          have ROW := hid (row6 (x := .slice (some ⟨bb, 0, none⟩) lb (lb + 9)) (y := .slice (some ⟨bw, 0, none⟩) lw (lw + 9)) (z := .slice (some ⟨bt, 0, none⟩) lt (lt + 9)) (p := .slice (some ⟨bs, 0, none⟩) ls (ls + 9)) (q := .int .i64 sky) (r := .int .i64 st) GR.out)
          go_wp2
          have LL : Hid (w.heap.size ≤ bb ∧ gr < bb ∧ bb < bs ∧ bs < bw ∧ bw < bt) := by
            have h1 := LTb.out
            have h2 := LTs.out
            have h3 := LTw.out
            have h4 := LTt.out
            have h5 := GRW.out
            exact ⟨by omega, by omega, by omega, by omega, by omega⟩
          have NB : Hid (bb ≠ gr ∧ bw ≠ gr ∧ bt ≠ gr ∧ bs ≠ gr) := by
            have := LL.out
            exact ⟨by omega, by omega, by omega, by omega⟩
          refine bodyPost_ret ?_ rfl ⟨bb, bw, bt, bs, rfl, ?_, ?_, ?_, ?_, ?_, ?_⟩
          · exact results_cell_row Tryd.results19 _ _ gr _ _ (0, 0) _ rfl ROW.out Tryd.underlying29 rfl (by kernel_rfl)
          · exact (((((AV.out.setk GRW.out.1 _).setk GRW.out.1 _).setk GRW.out.1 _).setk GRW.out.1 _).setk GRW.out.1 _).setk GRW.out.1 _
          · exact (((((Rb.out.setOther NB.out.1 _).setOther NB.out.1 _).setOther NB.out.1 _).setOther NB.out.1 _).setOther NB.out.1 _).setOther NB.out.1 _
          · exact (((((Rw.out.setOther NB.out.2.1 _).setOther NB.out.2.1 _).setOther NB.out.2.1 _).setOther NB.out.2.1 _).setOther NB.out.2.1 _).setOther NB.out.2.1 _
          · exact (((((Rt.out.setOther NB.out.2.2.1 _).setOther NB.out.2.2.1 _).setOther NB.out.2.2.1 _).setOther NB.out.2.2.1 _).setOther NB.out.2.2.1 _).setOther NB.out.2.2.1 _
          · exact (((((Rs.out.setOther NB.out.2.2.2 _).setOther NB.out.2.2.2 _).setOther NB.out.2.2.2 _).setOther NB.out.2.2.2 _).setOther NB.out.2.2.2 _).setOther NB.out.2.2.2 _
          · have := LL.out
            exact ⟨by omega, by omega, by omega, by omega, by omega, by omega, by omega, by omega, by omega, by omega⟩
end Go.Proofs.YtpfoohpncbkkfaaDoor

namespace Go.Proofs.YtpfoohpncbkkfaaDoor
open Go.RowKit Tf
attribute [local go_sem] run_bits run_from raw_feq raw_fne raw_flt raw_fgt run_neg
theorem isC_eq {r c : Nat} (h : IsC r c) (c0 : 0 < c) (c1 : c ≤ 9218868437227405312) : r = c := by
  have e := h.2
  unfold canonB at e
  split at e
  · unfold quiet at e; omega
  · split at e
    · omega
    · exact e
theorem add_can {P : Program} (w : World) (s x : Nat) (hs : s < 18446744073709551616) (hx : x < 18446744073709551616) :
    ∃ r n, (∀ t, (binOp .add t (.float .f64 s) (.float .f64 x)).run P w = .ok (.float .f64 r) (w.drewN n)) ∧ IsC r (addB s x) := by
  cases e : Ieee.double.add s x with
  | none => exact ⟨nanOf w s x, 1, fun t => run_nan_add w t s x e, nanOf_lt _ _ _, by rw [addB_none e]; unfold canonB; rw [if_pos (isN_nanOf _ _ _)]⟩
  | some r => exact ⟨r, 0, fun t => run_float_arith w .add t .f64 s x r e, by
      have q := IsQ.add (IsQ.self hs) (IsQ.self hx) e
      exact q.1, by rw [addB_some e]⟩
theorem depth_no (n a : Int) (w : World) (h : n < 1 ∨ a < 1) :
    Calls Tryd.prog 35 #[.int .i64 n, .int .i64 a] w fun e w' => e = .returned (.float .f64 0) ∧ w' = w := by
  by_cases c : n < 1
  · go_enter Tryd.func35, Tryd.ntmps35
    go_wp2
    go_ret
    exact ⟨rfl, rfl⟩
  · have d : a < 1 := by omega
    clear h
    go_enter Tryd.func35, Tryd.ntmps35
    go_wp2
    go_ret
    exact ⟨rfl, rfl⟩
theorem depth_yes (n a : Int) (w : World) (h1 : 1 ≤ n) (h2 : 1 ≤ a) (n2 : n ≤ 9223372036854775807) (a2 : a ≤ 9223372036854775807) :
    Calls Tryd.prog 35 #[.int .i64 n, .int .i64 a] w fun e w' => e = .returned (.float .f64 (dpB n a)) ∧ ∃ k, w' = w.drewN k := by
  obtain ⟨r, k, hr, hc⟩ := div_any (P := Tryd.prog) w (fw n) (fw a)
  have e := isC_eq hc (by rw [← dp_of h1 h2]; have := dp_in h1 h2 n2 a2; omega) (by rw [← dp_of h1 h2]; have := dp_in h1 h2 n2 a2; omega)
  rw [dp_of h1 h2, ← e]
  clear e hc
  have F1 := hid (fromInt_any n w)
  have F2 := hid (fromInt_any a w)
  rw [show rn false (n * one) = fw n from rfl] at F1
  rw [show rn false (a * one) = fw a from rfl] at F2
  generalize fw n = x at *
  generalize fw a = y at *
  go_enter Tryd.func35, Tryd.ntmps35
  go_wp2_with fail
  refine F1.out.mono ?_
  rintro e w' ⟨rfl, rfl⟩
  go_wp2_with fail
  refine F2.out.mono ?_
  rintro e w' ⟨rfl, rfl⟩
  go_wp2
  go_ret
  exact ⟨rfl, k, rfl⟩
theorem depth_at (n a : Int) (w : World) (n2 : n ≤ 9223372036854775807) (a2 : a ≤ 9223372036854775807) :
    Calls Tryd.prog 35 #[.int .i64 n, .int .i64 a] w fun e w' => e = .returned (.float .f64 (dpB n a)) ∧ ∃ k, w' = w.drewN k := by
  by_cases c : n < 1 ∨ a < 1
  · rw [dp_zero c]
    exact (depth_no n a w c).mono fun _ _ h => ⟨h.1, 0, h.2⟩
  · exact depth_yes n a w (by omega) (by omega) n2 a2
theorem level_at (b : Nat) (n a : Int) (w : World) (hb : b < 18446744073709551616) (n2 : n ≤ 9223372036854775807) (a2 : a ≤ 9223372036854775807) :
    Calls Tryd.prog 16 #[.float .f64 b, .int .i64 n, .int .i64 a] w fun e w' => e = .returned (.float .f64 (lvl b n a)) ∧ ∃ k, w' = w.drewN k := by
  have D := hid (depth_at n a w n2 a2)
  have e0 : lvl b n a = addB b (dpB n a) := rfl
  rw [e0]
  have hd : dpB n a < 18446744073709551616 := by have := dp_le n2 a2; omega
  clear e0
  generalize dpB n a = d at *
  have AD : Hid (∀ k : Nat, ∃ r m, (∀ t, (binOp .add t (.float .f64 b) (.float .f64 d)).run Tryd.prog (w.drewN k) = .ok (.float .f64 r) ((w.drewN k).drewN m)) ∧ IsC r (addB b d)) := fun k => add_can _ b d hb hd
  generalize addB b d = y at *
  go_enter Tryd.func16, Tryd.ntmps16
  go_wp2_with fail
  refine D.out.mono ?_
  rintro e w' ⟨rfl, k, rfl⟩
  obtain ⟨r, m, hr, hc⟩ := AD.out k
  have C := hid (canon_any r (w.drewN (k + m)) hc.1)
  rw [hc.2] at C
  go_wp2_with fail
  refine C.out.mono ?_
  rintro e w' ⟨rfl, rfl⟩
  go_wp2
  go_ret
  exact ⟨rfl, k + m, rfl⟩
end Go.Proofs.YtpfoohpncbkkfaaDoor

namespace Go.Proofs.YtpfoohpncbkkfaaDoor
open Go.RowKit Tf Cu Go.Deep
attribute [local go_sem] run_bits run_from raw_feq raw_fne raw_flt raw_fgt run_neg run_store_float
section
variable {n : Nat} {lim : Int} {B : Nat → Nat} {Wt : Nat → Int} {Sp : Nat → Nat} {dt : Nat} {pb pw ps : Option Addr} {w : World}
end
theorem mk_fl {w : World} {b L : Nat} {B : Nat → Nat} {m z : Value} (h : w.rowIs b 22 (L + 9) (mkF L (fun k => .float .f64 (B k)) m z)) (hB : ∀ k, k < L → B k < 18446744073709551616) : IsFl w (some ⟨b, 0, none⟩) L B := fun k hk => ⟨hB k hk, b, 0, rfl, h.lt, by
  rw [Nat.zero_add, h.cell (show k < L + 9 by omega)]
  unfold mkF
  rw [if_pos hk]⟩
theorem mk_in {w : World} {b L : Nat} {B : Nat → Int} {m z : Value} (h : w.rowIs b 2 (L + 9) (mkF L (fun k => .int .i64 (B k)) m z)) (hB : ∀ k, k < L → -9223372036854775808 ≤ B k ∧ B k ≤ 9223372036854775807) : IsIn w (some ⟨b, 0, none⟩) L B := fun k hk => ⟨hB k hk, b, 0, rfl, h.lt, by
  rw [Nat.zero_add, h.cell (show k < L + 9 by omega)]
  unfold mkF
  rw [if_pos hk]⟩
end Go.Proofs.YtpfoohpncbkkfaaDoor

namespace Go.Proofs.YtpfoohpncbkkfaaDoor
open Go.RowKit Tf Cu Go.Deep
/-- a copied sea behind some stores -/
def CpX (v : World) (gt bb bw bt bs M N : Nat) (TR : Array Value) (T : TypeId) (mf mi zf zi : Value) (fb fw ft fs : Nat → Value) (u : World) : Prop :=
  Ab v u ∧ u.heap[gt]? = some (.cells TR T) ∧ u.rowIs bb 22 (M + 9) (mkF M fb mf zf) ∧ u.rowIs bw 2 (M + 9) (mkF M fw mi zi) ∧ u.rowIs bt 2 (M + 9) (mkF M ft mi zi) ∧ u.rowIs bs 22 (N + 9) (mkF N fs mf zf)
section
variable {v : World} {gt bb bw bt bs M N : Nat} {TR : Array Value} {T : TypeId} {mf mi zf zi : Value} {fb fw ft fs : Nat → Value} {u : World}
theorem CpX.to {u' : World} (h : CpX v gt bb bw bt bs M N TR T mf mi zf zi fb fw ft fs u) (a : Ab u u') : CpX v gt bb bw bt bs M N TR T mf mi zf zi fb fw ft fs u' := by
  obtain ⟨h1, h2, h3, h4, h5, h6⟩ := h
  exact ⟨h1.trans a, a.heap h2, rowIs.ab h3 a, rowIs.ab h4 a, rowIs.ab h5 a, rowIs.ab h6 a⟩
theorem mk_congr {L : Nat} {f g : Nat → Value} {m z : Value} (h : ∀ k, k < L → f k = g k) (j : Nat) : mkF L f m z j = mkF L g m z j := by
  unfold mkF
  by_cases c : j < L
  · rw [if_pos c, if_pos c, h j c]
  · rw [if_neg c, if_neg c]
theorem CpX.congr {gb gw gt' gs : Nat → Value} (h : CpX v gt bb bw bt bs M N TR T mf mi zf zi fb fw ft fs u) (e1 : ∀ k, k < M → fb k = gb k) (e2 : ∀ k, k < M → fw k = gw k) (e3 : ∀ k, k < M → ft k = gt' k) (e4 : ∀ k, k < N → fs k = gs k) : CpX v gt bb bw bt bs M N TR T mf mi zf zi gb gw gt' gs u := by
  obtain ⟨h1, h2, h3, h4, h5, h6⟩ := h
  exact ⟨h1, h2, h3.congr (fun j _ => mk_congr e1 j), h4.congr (fun j _ => mk_congr e2 j), h5.congr (fun j _ => mk_congr e3 j), h6.congr (fun j _ => mk_congr e4 j)⟩
end
end Go.Proofs.YtpfoohpncbkkfaaDoor

namespace Go.Proofs.YtpfoohpncbkkfaaDoor
open Go.RowKit Tf Cu Go.Deep
attribute [local go_sem] run_bits run_from raw_feq raw_fne raw_flt raw_fgt run_neg run_store_float
set_option maxRecDepth 100000 in
set_option maxHeartbeats 4000000 in
theorem all12_at (pa pb : Option Addr) (len ca cb : Nat) (xs : Nat → Nat) (w : World) (hl : len ≤ 281474976710656) (hA : IsFl w pa len xs) (hB : IsFl w pb len xs) :
    Calls Tryd.prog 22 #[.slice pa len ca, .slice pb len cb] w fun e w' => e = .returned (.bool true) ∧ Below w.heap.size w w' := by
  have SS : Hid (∀ (x : Nat) (v : World), Calls Tryd.prog 12 #[.float .f64 x, .float .f64 x] v fun e w' => e = .returned (.bool true) ∧ Below v.heap.size v w') := fun x v => by
    have h := rawSame_any x x v
    rw [show sameB x x = true by unfold sameB; exact decide_eq_true rfl] at h
    exact h.mono fun _ _ ⟨he, hw⟩ => ⟨he, by rw [hw]; exact Below.refl _ _⟩
  have HA := hid hA
  have HB := hid hB
  have HL := hid hl
  clear hA hB hl
  go_enter Tryd.func22, Tryd.ntmps22
  go_wp2
  go_loopw [5] (fun iv wr => ∃ c : Nat, c ≤ len ∧ iv = .int .i64 (c : Nat) ∧ Ab w wr) (fun iv _ => len - (intOf iv).toNat)
  case atStart => exact ⟨0, by omega, rfl, Ab.refl w⟩
  case round =>
    obtain ⟨c, hc, rfl, ar⟩ := hrel
    have AR := hid ar
    clear ar
    by_cases h : c < len
    · have HC := hid h
      obtain ⟨x, hx⟩ : ∃ x, xs c = x := ⟨_, rfl⟩
      obtain ⟨-, b1, o1, e1, l1, c1⟩ := HA.out c h
      obtain ⟨-, b2, o2, e2, l2, c2⟩ := HB.out c h
      rw [hx] at c1 c2
      have C1 := hid c1
      have C2 := hid c2
      have L1 := hid l1
      have L2 := hid l2
      have hcI : (c : Int) < len := by omega
      have hcB : (c : Int) ≤ 281474976710656 := by have := HL.out; omega
      clear c1 c2 l1 l2 hx h
      subst e1 e2
      go_upto_region 6 with fail
      obtain ⟨UU, E, hF1, hF2⟩ := cls wr
      have HU := hid hF2
      have HU1 := hid hF1
      have x1 : ∀ u, (E u).cell? ⟨b1, o1 + c, none⟩ = some (.float .f64 x) := fun u => (Below.cell (AR.out.trans (hF1 u)) L1.out).trans C1.out
      have x2 : ∀ u, (E u).cell? ⟨b2, o2 + c, none⟩ = some (.float .f64 x) := fun u => (Below.cell (AR.out.trans (hF1 u)) L2.out).trans C2.out
      have DD0 := HU.out _ (Ab.refl wr).drew
      clear hF1 hF2
      refine region_cls E (by kernel_rfl) (by kernel_rfl) DD0 ?_
      repeat (go_big_quiet_step (first
        | (with_reducible rfl)
        | (go_at_call 12; exact calls_cls HU HU1 (SS.out _ _))))
      refine wpQuiet_nil ?_
      intro z hwz
      obtain ⟨u0, hu⟩ := hwz
      have AZ : Hid (Ab w z) := by rw [hu]; exact AR.out.trans (HU1.out u0)
      clear hu u0
      clear HU HU1 DD0 x1 x2
      clear E UU
      go_wp2
      go_roundw
      case rel => exact ⟨c + 1, by have := HC.out; omega, by simp, AZ.out⟩
      case measure => simp [intOf]; have := HC.out; omega
    · have e : len = c := by omega
      subst e
      go_wp2
      go_ret
      exact ⟨rfl, AR.out⟩
end Go.Proofs.YtpfoohpncbkkfaaDoor

namespace Go.Proofs.YtpfoohpncbkkfaaDoor
open Go.RowKit Tf Cu Go.Deep
set_option maxRecDepth 100000 in
set_option maxHeartbeats 4000000 in
theorem ints16_at (pa pb : Option Addr) (len ca cb : Nat) (xs : Nat → Int) (w : World) (hl : len ≤ 281474976710656) (hA : IsIn w pa len xs) (hB : IsIn w pb len xs) :
    Calls Tryd.prog 49 #[.slice pa len ca, .slice pb len cb] w fun e w' => e = .returned (.bool true) ∧ Below w.heap.size w w' := by
  have HA := hid hA
  have HB := hid hB
  have HL := hid hl
  clear hA hB hl
  go_enter Tryd.func49, Tryd.ntmps49
  go_wp2
  go_loopw [5] (fun iv wr => ∃ c : Nat, c ≤ len ∧ iv = .int .i64 (c : Nat) ∧ Ab w wr) (fun iv _ => len - (intOf iv).toNat)
  case atStart => exact ⟨0, by omega, rfl, Ab.refl w⟩
  case round =>
    obtain ⟨c, hc, rfl, ar⟩ := hrel
    have AR := hid ar
    clear ar
    by_cases h : c < len
    · have HC := hid h
      obtain ⟨x, hx⟩ : ∃ x, xs c = x := ⟨_, rfl⟩
      obtain ⟨-, b1, o1, e1, l1, c1⟩ := HA.out c h
      obtain ⟨-, b2, o2, e2, l2, c2⟩ := HB.out c h
      rw [hx] at c1 c2
      have C1 := hid c1
      have C2 := hid c2
      have L1 := hid l1
      have L2 := hid l2
      have hcI : (c : Int) < len := by omega
      have hcB : (c : Int) ≤ 281474976710656 := by have := HL.out; omega
      clear c1 c2 l1 l2 hx h
      subst e1 e2
      go_upto_region 6 with fail
      obtain ⟨UU, E, hF1, hF2⟩ := cls wr
      have HU := hid hF2
      have HU1 := hid hF1
      have x1 : ∀ u, (E u).cell? ⟨b1, o1 + c, none⟩ = some (.int .i64 x) := fun u => (Below.cell (AR.out.trans (hF1 u)) L1.out).trans C1.out
      have x2 : ∀ u, (E u).cell? ⟨b2, o2 + c, none⟩ = some (.int .i64 x) := fun u => (Below.cell (AR.out.trans (hF1 u)) L2.out).trans C2.out
      have DD0 := HU.out _ (Ab.refl wr).drew
      clear hF1 hF2
      refine region_cls E (by kernel_rfl) (by kernel_rfl) DD0 ?_
      repeat (go_big_quiet_step (with_reducible rfl))
      refine wpQuiet_nil ?_
      intro z hwz
      obtain ⟨u0, hu⟩ := hwz
      have AZ : Hid (Ab w z) := by rw [hu]; exact AR.out.trans (HU1.out u0)
      clear hu u0
      clear HU HU1 DD0 x1 x2
      clear E UU
      go_wp2
      go_roundw
      case rel => exact ⟨c + 1, by have := HC.out; omega, by simp, AZ.out⟩
      case measure => simp [intOf]; have := HC.out; omega
    · have e : len = c := by omega
      subst e
      go_wp2
      go_ret
      exact ⟨rfl, AR.out⟩
end Go.Proofs.YtpfoohpncbkkfaaDoor
