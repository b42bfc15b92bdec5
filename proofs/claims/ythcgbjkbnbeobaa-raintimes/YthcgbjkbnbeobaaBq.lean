/-
  A region that draws its order and ends in operations of which each waits for all ahead of them: the order counts ahead of these alone (no program).
-/
import Derived.Test.YthcgbjkbnbeobaaMn
import Derived.StillTail
namespace Go.Proofs.Ythcgbjkbnbeobaa
open Go.RowKit
/-- each of the first n operations waits for earlier ones alone, and asks earlier ones alone whether it is wanted -/
def backB (md : Region.Mode) (ops : Array Oper) (n : Nat) : Bool :=
  (List.range n).all fun i => match ops[i]? with
    | some o => o.after.all (fun e => !Region.binds md e || decide (e.on < i)) && (match o.guard with | none => true | some (j, _) => decide (j < n))
    | none => true
/-- the first n are done, no other -/
def finA (m n : Nat) : Array Bool := Array.replicate n true ++ Array.replicate (m - n) false
theorem back_spec {md : Region.Mode} {ops : Array Oper} {n : Nat} (h : backB md ops n = true) {i : Nat} {o : Oper} (hi : i < n) (ho : ops[i]? = some o) :
    (∀ e ∈ o.after, Region.binds md e = true → e.on < i) ∧ (∀ j b, o.guard = some (j, b) → j < n) := by
  have a := List.all_eq_true.1 h i (List.mem_range.2 hi)
  simp only [ho, Bool.and_eq_true] at a
  refine ⟨fun e he hb => ?_, fun j b hg => ?_⟩
  · have := Array.all_eq_true_iff_forall_mem.1 a.1 e he
    simpa [hb] using this
  · have := a.2
    rw [hg] at this
    simpa using this
theorem getD_tf {l : Array Bool} {i : Nat} (h : i < l.size) (d d' : Bool) : l.getD i d = l.getD i d' := by simp [h]
theorem wpAny_more {P : Program} {md : Region.Mode} {ops : Array Oper} {Q : Exit → Act → World → Prop} : ∀ (g k : Nat) (listed : Array Bool) (a : Act) (w : World), wpAny P md ops Q g listed a w → wpAny P md ops Q (g + k) listed a w
  | 0, 0, _, _, _, h => h
  | 0, k + 1, listed, a, w, h => by
    rw [Nat.zero_add]
    exact ⟨fun _ => h.2, fun i hi => by rw [h.1] at hi; cases hi⟩
  | g + 1, k, listed, a, w, h => by
    rw [show g + 1 + k = (g + k) + 1 by omega]
    exact ⟨h.1, fun i hi => wpOp_mono (fun a' w' h' => wpAny_more g k _ a' w' h') (h.2 i hi)⟩
section
variable {P : Program} {md : Region.Mode} {ops hd : Array Oper} {C : World → Prop} {n : Nat}
theorem ready_head (hhd : ∀ i, i < n → hd[i]? = ops[i]?) (hb : backB md ops n = true) {listed lh : Array Bool} (hl : lh.size = n) (hls : n ≤ listed.size) (he : ∀ i, i < n → lh.getD i true = listed.getD i true) {i : Nat} (hi : i < n) :
    i ∈ Region.ready md hd lh ↔ i ∈ Region.ready md ops listed := by
  rw [mem_ready, mem_ready, he i hi, hhd i hi]
  refine and_congr Iff.rfl (exists_congr fun o => and_congr_right fun ho => forall_congr' fun e => forall_congr' fun hm => forall_congr' fun hbd => ?_)
  have lt := (back_spec hb hi ho).1 e hm hbd
  rw [getD_tf (d := false) (d' := true) (by omega), getD_tf (l := listed) (d := false) (d' := true) (by omega), he _ (by omega)]
theorem some_ready (hsz : n ≤ ops.size) (hb : backB md ops n = true) {listed : Array Bool} (hls : n ≤ listed.size) :
    (∀ i, i < n → listed.getD i true = true) ∨ ∃ i, i < n ∧ i ∈ Region.ready md ops listed := by
  have key : ∀ k, k ≤ n → (∀ i, i < k → listed.getD i true = true) ∨ ∃ i, i < n ∧ i ∈ Region.ready md ops listed := by
    intro k
    induction k with
    | zero => exact fun _ => .inl (fun i hi => by omega)
    | succ k ih =>
      intro hk
      rcases ih (by omega) with h | h
      · cases c : listed.getD k true
        · right
          refine ⟨k, by omega, mem_ready.2 ⟨c, ops[k]'(by omega), by simp, fun e he hbd => ?_⟩⟩
          have lt := (back_spec hb (i := k) (o := ops[k]'(by omega)) (by omega) (by simp)).1 e he hbd
          rw [getD_tf (d := false) (d' := true) (by omega)]
          exact h _ lt
        · left
          intro i hi
          by_cases e : i = k
          · rw [e]; exact c
          · exact h i (by omega)
      · exact .inr h
  exact key n (Nat.le_refl _)
theorem qOp_head (hhd : ∀ i, i < n → hd[i]? = ops[i]?) (hb : backB md ops n = true) {i : Nat} (hi : i < n) {K : Act → Prop} {a : Act} (h : qOp P hd C i K a) : qOp P ops C i K a := by
  unfold qOp at *
  rw [hhd i hi] at h
  cases ho : ops[i]? with
  | none => rw [ho] at h; exact h
  | some o =>
    rw [ho] at h
    have e : Region.wanted o (yielded hd a.tmps) = Region.wanted o (yielded ops a.tmps) := by
      unfold Region.wanted
      cases hg : o.guard with
      | none => rfl
      | some jb =>
        obtain ⟨j, b⟩ := jb
        have lt := (back_spec hb hi ho).2 j b hg
        show (yielded hd a.tmps j == some b) = (yielded ops a.tmps j == some b)
        unfold yielded
        rw [hhd j lt]
    simp only [e] at h
    exact h
theorem fin_of {listed : Array Bool} (hn : n < ops.size) (inv : HeadInv md ops n listed) (h : ∀ i, i < n → listed.getD i true = true) : listed = finA ops.size n := by
  have s := inv.size
  unfold finA
  refine Array.ext (by simp; omega) fun i h1 h2 => ?_
  by_cases c : i < n
  · have := h i c
    rw [Array.getElem_append_left (by simpa using c)]
    simp [h1] at this
    simpa using this
  · have := inv.tail i (by omega) (by omega)
    rw [Array.getElem_append_right (by simp; omega)]
    simp [h1] at this
    simpa using this
theorem wpAny_of_headQ {g : Nat} {Q1 : Act → Prop} {Q' : Exit → Act → World → Prop} (hhd : ∀ i, i < n → hd[i]? = ops[i]?) (hsz : hd.size = n) (hn : n < ops.size) (hb : backB md ops n = true) (hs : Region.sinkB md ops n = true) (hc : Region.chainB md ops n = true)
    (hL : ∀ a w, C w → Q1 a → wpAny P md ops Q' g (finA ops.size n) a w) :
    ∀ (fuel : Nat) (listed lh : Array Bool) (a : Act) (w : World), C w → HeadInv md ops n listed → lh.size = n → (∀ i, i < n → lh.getD i true = listed.getD i true) →
      wpAnyQ P md hd C Q1 fuel lh a → wpAny P md ops Q' (fuel + g) listed a w := by
  intro fuel
  induction fuel with
  | zero =>
    intro listed lh a w hC inv hl he h
    have hls : n ≤ listed.size := by rw [inv.size]; omega
    rcases some_ready (by omega) hb hls with all | ⟨i, hi, hr⟩
    · rw [Nat.zero_add, fin_of hn inv all]
      exact hL a w hC h.2
    · have := (ready_head hhd hb hl hls he hi).2 hr
      rw [h.1] at this
      cases this
  | succ fuel ih =>
    intro listed lh a w hC inv hl he h
    have hls : n ≤ listed.size := by rw [inv.size]; omega
    rcases some_ready (by omega) hb hls with all | ⟨i0, hi0, hr0⟩
    · have no : Region.ready md hd lh = [] := by
        rw [List.eq_nil_iff_forall_not_mem]
        intro i hi
        obtain ⟨u, o, ho, _⟩ := mem_ready.1 hi
        have lt : i < n := by rw [← hsz]; exact (Array.getElem?_eq_some_iff.1 ho).1
        rw [he i lt, all i lt] at u
        cases u
      rw [Nat.add_comm (fuel + 1) g, fin_of hn inv all]
      exact wpAny_more g (fuel + 1) _ a w (hL a w hC (h.1 no))
    · rw [show fuel + 1 + g = (fuel + g) + 1 by omega]
      refine ⟨fun h0 => (by rw [h0] at hr0; cases hr0), fun i hi => ?_⟩
      have lt : i < n := by
        by_cases c : i < n
        · exact c
        · exact absurd hi (tail_waits hs hc hn inv _ i0 rfl hi0 (mem_ready.1 hr0).1 i (by omega))
      have hq := qOp_head hhd hb lt (h.2 i ((ready_head hhd hb hl hls he lt).2 hi))
      refine wpOp_of_qOp hC (fun a' w' hC' h' => ih _ _ a' w' hC' (inv.set hi lt) (by simp [hl]) (fun j hj => ?_) h') hq
      by_cases e : i = j
      · subst e
        simp [hl, lt, show i < listed.size by omega]
      · rw [getD_set_ne true e, getD_set_ne true e, he j hj]
end
/-- what is asked of the region's text -/
def tailB (ops : Array Oper) (n : Nat) : Bool :=
  decide (n < ops.size) && backB .any ops n && Region.sinkB .any ops n && Region.chainB .any ops n && Region.seqB .any ops (ops.size - n) n (finA ops.size n)
theorem region_tail {P : Program} {id : Nat} {Q : Exit → Act → World → Prop} {a : Act} {w : World} {l : List Oper} {U : Type} (n : Nat) (F : U → World) (hm : P.follows .mixedOrders = true) (hB : Region.lexB .any (l.take n).toArray = true) (hT : tailB l.toArray n = true)
    (hC : ∃ u, w.drew = F u)
    (h : wpQuiet P (l.take n).toArray (fun w' => ∃ u, w' = F u) (fun a' => ∀ w', (∃ u, w' = F u) → wpList P l.toArray Q (l.drop n) a' w') (l.take n) a) : (Code.region id l.toArray true).wp P Q a w := by
  simp only [tailB, Bool.and_eq_true, decide_eq_true_eq] at hT
  obtain ⟨⟨⟨⟨hn, hb⟩, hs⟩, hc⟩, hq⟩ := hT
  have hn' : n < l.length := by simpa using hn
  have htl : (l.take n).toArray.size = n := by simp; omega
  have hdl : (l.drop n).length = l.toArray.size - n := by simp
  refine wp_region_any hm ?_
  simp only [Region.lexB, Bool.and_eq_true] at hB
  have H := wpAnyQ_lex (P := P) (C := fun w' => ∃ u, w' = F u) (md := .any) hB.1 (l.take n) 0 (Array.replicate (l.take n).toArray.size false) a (by simp) (by simpa using hB.2) h
  have inv0 : HeadInv .any l.toArray n (Array.replicate l.toArray.size false) :=
    ⟨by simp, fun j oj _ hl => (by rw [getD_replicate_false] at hl; cases hl), fun t _ ht => getD_in (by simpa using ht) (getD_replicate_false _ _)⟩
  have := wpAny_of_headQ (P := P) (Q' := Q) (g := l.toArray.size - n) (hd := (l.take n).toArray) (ops := l.toArray) (fun i hi => by simp [hi]) htl hn hb hs hc
    (fun a' w' hC' h' => by
      have := wpAny_of_seq (P := P) (md := .any) (ops := l.toArray) (Q' := Q) (l.drop n) n (finA l.toArray.size n) a' w' (fun j => by simp) (by rw [hdl]; exact hq) (h' w' hC')
      rwa [hdl] at this)
    (l.take n).length _ _ a w.drew hC inv0 (by simpa using htl) (fun i hi => by
      rw [getD_in (listed := Array.replicate l.toArray.size false) (by simp; omega) (getD_replicate_false _ _)]
      exact getD_in (by rw [Array.size_replicate]; omega) (getD_replicate_false _ _)) H
  have e : (l.take n).length + (l.toArray.size - n) = l.toArray.size := by simp; omega
  rw [e] at this
  exact this
end Go.Proofs.Ythcgbjkbnbeobaa
