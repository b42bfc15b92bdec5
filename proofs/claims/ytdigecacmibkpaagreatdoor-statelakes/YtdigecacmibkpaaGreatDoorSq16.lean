/-
  Some of the texts of this proof, one behind the other.
-/
import Derived.BigQuiet
import Derived.Deep.QuietTactic
import Derived.Test.YtdigecacmibkpaaGreatDoorSq15
set_option maxRecDepth 100000
set_option maxHeartbeats 400000000
namespace Go.Proofs.YtdigecacmibkpaaGreatDoor
open Go.RowKit
def Fresh (W : World) (S : Nat -> Option Nat) (b : Nat) : Prop := W.heap.size <= b /\ ∀ i c, S i = some c -> c ≠ b
def putL (S : Nat -> Option Nat) (i b : Nat) : Nat -> Option Nat := fun k => if k = i then some b else S k
def Has (W : World) (sp : Nat -> Option (Obj × (Nat -> Value))) (S : Nat -> Option Nat) (w : World) : Prop := Ab W w /\ ∀ i b, S i = some b -> W.heap.size <= b /\ ∃ o mk, sp i = some (o, mk) /\ w.heap[b]? = some o
theorem putL_comm (S : Nat -> Option Nat) {i j : Nat} (b c : Nat) (h : i ≠ j) : putL (putL S i b) j c = putL (putL S j c) i b := by
  funext k
  unfold putL
  by_cases e : k = j
  · subst e; simp [Ne.symm h]
  · by_cases e2 : k = i
    · subst e2; simp [e]
    · simp [e, e2]
theorem Fresh.put {W : World} {S : Nat -> Option Nat} {i b c : Nat} (h : Fresh W S c) (n : b ≠ c) : Fresh W (putL S i b) c :=
  ⟨h.1, fun k d e => by
    unfold putL at e
    by_cases q : k = i
    · rw [if_pos q] at e; injection e with e; exact fun x => n (e.trans x)
    · rw [if_neg q] at e; exact h.2 k d e⟩
theorem Fresh.of_put {W : World} {S : Nat -> Option Nat} {i b c : Nat} (h : Fresh W (putL S i b) c) (hi : S i = none) : Fresh W S c /\ b ≠ c := by
  refine ⟨⟨h.1, fun k d e => h.2 k d ?_⟩, h.2 i b (by simp [putL])⟩
  unfold putL
  by_cases q : k = i
  · subst q; rw [hi] at e; cases e
  · rw [if_neg q]; exact e
theorem Has.lt {W : World} {sp : Nat -> Option (Obj × (Nat -> Value))} {S : Nat -> Option Nat} {w : World} (h : Has W sp S w) {i b : Nat} (e : S i = some b) : b < w.heap.size := by
  obtain ⟨_, o, mk, _, q⟩ := h.2 i b e
  exact lt_of_block q
theorem Has.fresh {W : World} {sp : Nat -> Option (Obj × (Nat -> Value))} {S : Nat -> Option Nat} {w : World} (h : Has W sp S w) : Fresh W S w.heap.size :=
  ⟨h.1.size, fun i c e => by have := h.lt e; omega⟩
theorem Has.lay {W : World} {sp : Nat -> Option (Obj × (Nat -> Value))} {S : Nat -> Option Nat} {w : World} (h : Has W sp S w) {i : Nat} {o : Obj} {mk : Nat -> Value} (e : sp i = some (o, mk)) : Has W sp (putL S i w.heap.size) (w.alloc o) :=
  ⟨h.1.alloc o, fun k b q => by
    unfold putL at q
    by_cases c : k = i
    · subst c
      rw [if_pos rfl] at q
      injection q with q
      subst q
      exact ⟨h.1.size, o, mk, e, heap_alloc_new _ _⟩
    · rw [if_neg c] at q
      obtain ⟨h1, o', mk', h2, h3⟩ := h.2 k b q
      exact ⟨h1, o', mk', h2, Ab.heap (bl1 _ _) h3⟩⟩
section
variable {P : Program} {ops : Array Oper} {md : Region.Mode} {W : World} {sp : Nat -> Option (Obj × (Nat -> Value))}
def YF (P : Program) (ops : Array Oper) (W : World) (o : Oper) (v : Value) (a : Act) : Prop :=
  (Region.wanted o (yielded ops a.tmps) = true /\ ∀ w, Ab W w -> (execOp a.eval o).run P w = .ok (.value v) w) \/ (Region.wanted o (yielded ops a.tmps) = false /\ v = undef)
def LF (P : Program) (ops : Array Oper) (W : World) (o : Oper) (ob : Obj) (mk : Nat -> Value) (a : Act) : Prop :=
  Region.wanted o (yielded ops a.tmps) = true /\ ∀ w, Ab W w -> (execOp a.eval o).run P w = .ok (.value (mk w.heap.size)) (w.alloc ob)
theorem YF.same {o : Oper} {v : Value} {a a' : Act} (h : YF P ops W o v a) (he : execOp a'.eval o = execOp a.eval o) (hw : Region.wanted o (yielded ops a'.tmps) = Region.wanted o (yielded ops a.tmps)) : YF P ops W o v a' := by
  unfold YF at *
  rw [he, hw]
  exact h
theorem LF.same {o : Oper} {ob : Obj} {mk : Nat -> Value} {a a' : Act} (h : LF P ops W o ob mk a) (he : execOp a'.eval o = execOp a.eval o) (hw : Region.wanted o (yielded ops a'.tmps) = Region.wanted o (yielded ops a.tmps)) : LF P ops W o ob mk a' := by
  unfold LF at *
  rw [he, hw]
  exact h
theorem YF.one {o : Oper} {v u : Value} {a : Act} (h : YF P ops W o v a) (k : YF P ops W o u a) : v = u := by
  rcases h with ⟨w1, h⟩ | ⟨w1, rfl⟩
  · rcases k with ⟨_, k⟩ | ⟨w2, _⟩
    · have := (h W (Ab.refl W)).symm.trans (k W (Ab.refl W))
      injection this with e
      injection e
    · rw [w1] at w2; cases w2
  · rcases k with ⟨w2, _⟩ | ⟨_, rfl⟩
    · rw [w1] at w2; cases w2
    · rfl
def fOp (P : Program) (ops : Array Oper) (W : World) (sp : Nat -> Option (Obj × (Nat -> Value))) (i : Nat) (K : Act -> (Nat -> Option Nat) -> Prop) (a : Act) (S : Nat -> Option Nat) : Prop :=
  match ops[i]? with
  | none => K a S
  | some o =>
    match sp i with
    | none => ∃ v, YF P ops W o v a /\ K (a.put o.dst v) S
    | some (ob, mk) => LF P ops W o ob mk a /\ ∀ b, Fresh W S b -> K (a.put o.dst (mk b)) (putL S i b)
theorem fOp_mono {i : Nat} {K K' : Act -> (Nat -> Option Nat) -> Prop} {a : Act} {S : Nat -> Option Nat} (h : ∀ a S, K a S -> K' a S) (hh : fOp P ops W sp i K a S) : fOp P ops W sp i K' a S := by
  unfold fOp at *
  cases ho : ops[i]? with
  | none => simp only [ho] at hh ⊢; exact h _ _ hh
  | some o =>
    cases hs : sp i with
    | none =>
      simp only [ho, hs] at hh ⊢
      obtain ⟨v, h1, h2⟩ := hh
      exact ⟨v, h1, h _ _ h2⟩
    | some x =>
      simp only [ho, hs] at hh ⊢
      exact ⟨hh.1, fun b hb => h _ _ (hh.2 b hb)⟩
def wpAnyF (P : Program) (md : Region.Mode) (ops : Array Oper) (W : World) (sp : Nat -> Option (Obj × (Nat -> Value))) (Q : Act -> (Nat -> Option Nat) -> Prop) : Nat -> Array Bool -> Act -> (Nat -> Option Nat) -> Prop
  | 0, listed, a, S => Region.ready md ops listed = [] /\ Q a S
  | fuel + 1, listed, a, S =>
    (Region.ready md ops listed = [] -> Q a S) ∧
    ∀ i ∈ Region.ready md ops listed, fOp P ops W sp i (wpAnyF P md ops W sp Q fuel (listed.setIfInBounds i true)) a S
def Tidy (W : World) (listed : Array Bool) (S : Nat -> Option Nat) : Prop := (∀ k, listed.getD k true = false -> S k = none) /\ ∃ n, W.heap.size <= n /\ ∀ i c, S i = some c -> c < n
theorem Tidy.fresh {listed : Array Bool} {S : Nat -> Option Nat} (h : Tidy W listed S) : ∃ b, Fresh W S b := by
  obtain ⟨_, n, h1, h2⟩ := h
  exact ⟨n, h1, fun i c e => by have := h2 i c e; omega⟩
theorem Tidy.set {listed : Array Bool} {S : Nat -> Option Nat} (h : Tidy W listed S) (j : Nat) : Tidy W (listed.setIfInBounds j true) S :=
  ⟨fun k hk => by
    by_cases e : j = k
    · subst e
      by_cases l : j < listed.size
      · simp [l] at hk
      · exact h.1 j (by rw [Array.setIfInBounds_eq_of_size_le (by omega)] at hk; exact hk)
    · rw [getD_set_ne true e] at hk; exact h.1 k hk, h.2⟩
theorem Tidy.lay {listed : Array Bool} {S : Nat -> Option Nat} (h : Tidy W listed S) {j : Nat} (hj : listed.getD j true = false) (b : Nat) : Tidy W (listed.setIfInBounds j true) (putL S j b) := by
  obtain ⟨h1, n, h2, h3⟩ := h
  refine ⟨fun k hk => ?_, max n (b + 1), by omega, fun i c e => ?_⟩
  · by_cases e : j = k
    · subst e
      by_cases l : j < listed.size
      · simp [l] at hk
      · simp [l] at hj
    · rw [getD_set_ne true e] at hk
      unfold putL
      rw [if_neg (Ne.symm e)]
      exact h1 k hk
  · unfold putL at e
    by_cases q : i = j
    · rw [if_pos q] at e; injection e with e; omega
    · rw [if_neg q] at e; have := h3 i c e; omega
theorem fOp_putY {j : Nat} {oi oj : Oper} {v : Value} (hj : ops[j]? = some oj) (hap : oi.apart ops oj = true) (hsi : ∀ cs b, oi.op ≠ .select cs b) (hsj : ∀ cs b, oj.op ≠ .select cs b)
    {K : Act -> (Nat -> Option Nat) -> Prop} {a : Act} {S : Nat -> Option Nat} (hy : YF P ops W oi v a) (h : fOp P ops W sp j K (a.put oi.dst v) S) :
    fOp P ops W sp j (fun a' S' => YF P ops W oi v a' /\ K (a'.put oi.dst v) S') a S := by
  obtain ⟨h1, h2, h3⟩ := Oper.apart_spec hap
  have keep : ∀ u, YF P ops W oi v (a.put oj.dst u) := fun u => hy.same (execOp_put oi hsi a oj.dst u h3) (wanted_put oi a oj.dst u h3)
  unfold fOp at *
  cases hs : sp j with
  | none =>
    simp only [hj, hs] at h ⊢
    obtain ⟨u, hu, hk⟩ := h
    exact ⟨u, hu.same (execOp_put oj hsj a oi.dst v h1).symm (wanted_put oj a oi.dst v h1).symm, keep u, by rw [<- Act.put_comm a v u h2]; exact hk⟩
  | some x =>
    simp only [hj, hs] at h ⊢
    exact ⟨h.1.same (execOp_put oj hsj a oi.dst v h1).symm (wanted_put oj a oi.dst v h1).symm, fun b hb => ⟨keep _, by rw [<- Act.put_comm a v _ h2]; exact h.2 b hb⟩⟩
theorem fOp_putL {i j : Nat} {oi oj : Oper} {ob : Obj} {mk : Nat -> Value} (hij : i ≠ j) (hj : ops[j]? = some oj) (hap : oi.apart ops oj = true) (hsi : ∀ cs b, oi.op ≠ .select cs b) (hsj : ∀ cs b, oj.op ≠ .select cs b)
    {K : Act -> (Nat -> Option Nat) -> Prop} {a : Act} {S : Nat -> Option Nat} (hf : ∃ b, Fresh W S b) (hSj : S j = none) (hy : LF P ops W oi ob mk a) (h : ∀ b, Fresh W S b -> fOp P ops W sp j K (a.put oi.dst (mk b)) (putL S i b)) :
    fOp P ops W sp j (fun a' S' => LF P ops W oi ob mk a' /\ ∀ b, Fresh W S' b -> K (a'.put oi.dst (mk b)) (putL S' i b)) a S := by
  obtain ⟨h1, h2, h3⟩ := Oper.apart_spec hap
  have keep : ∀ u, LF P ops W oi ob mk (a.put oj.dst u) := fun u => hy.same (execOp_put oi hsi a oj.dst u h3) (wanted_put oi a oj.dst u h3)
  obtain ⟨b0, hb0⟩ := hf
  unfold fOp at *
  cases hs : sp j with
  | none =>
    simp only [hj, hs] at h ⊢
    obtain ⟨u, hu, _⟩ := h b0 hb0
    have hu' : YF P ops W oj u a := hu.same (execOp_put oj hsj a oi.dst _ h1).symm (wanted_put oj a oi.dst _ h1).symm
    refine ⟨u, hu', keep u, fun b hb => ?_⟩
    obtain ⟨u2, hu2, hk⟩ := h b hb
    have e : u2 = u := YF.one (hu2.same (execOp_put oj hsj a oi.dst _ h1).symm (wanted_put oj a oi.dst _ h1).symm) hu'
    subst e
    rw [<- Act.put_comm a (mk b) u2 h2]
    exact hk
  | some x =>
    simp only [hj, hs] at h ⊢
    refine ⟨(h b0 hb0).1.same (execOp_put oj hsj a oi.dst _ h1).symm (wanted_put oj a oi.dst _ h1).symm, fun c hc => ⟨keep _, fun b hb => ?_⟩⟩
    obtain ⟨q1, q2⟩ := hb.of_put hSj
    have := (h b q1).2 c (hc.put (Ne.symm q2))
    rw [putL_comm S b c hij, Act.put_comm a (mk b) _ h2] at this
    exact this
theorem firstY {Q : Act -> (Nat -> Option Nat) -> Prop} {i : Nat} {oi : Oper} {v : Value} (hi : ops[i]? = some oi) (hsp : sp i = none) (hsel : ∀ (j : Nat) (o : Oper) cs b, ops[j]? = some o -> o.op ≠ .select cs b) :
    ∀ (fuel : Nat) (listed : Array Bool) (a : Act) (S : Nat -> Option Nat),
      (∀ j oj, ops[j]? = some oj -> j ≠ i -> listed.getD j true = false -> (∀ e ∈ oj.after, Region.binds md e = true -> e.on ≠ i) -> oi.apart ops oj = true) →
      i ∈ Region.ready md ops listed -> YF P ops W oi v a →
      wpAnyF P md ops W sp Q fuel (listed.setIfInBounds i true) (a.put oi.dst v) S -> wpAnyF P md ops W sp Q (fuel + 1) listed a S := by
  have go : ∀ (K : Act -> (Nat -> Option Nat) -> Prop) (a : Act) (S : Nat -> Option Nat), YF P ops W oi v a -> K (a.put oi.dst v) S -> fOp P ops W sp i K a S := fun K a S hy h => by
    unfold fOp; simp only [hi, hsp]; exact ⟨v, hy, h⟩
  intro fuel
  induction fuel with
  | zero =>
    intro listed a S _ hr hy H
    refine ⟨fun h => (by rw [h] at hr; cases hr), fun j hj => ?_⟩
    by_cases hji : j = i
    · subst hji; exact go _ _ _ hy H
    · have := ready_mono hj hji
      rw [H.1] at this
      cases this
  | succ fuel ih =>
    intro listed a S hfree hr hy H
    refine ⟨fun h => (by rw [h] at hr; cases hr), fun j hj => ?_⟩
    by_cases hji : j = i
    · subst hji; exact go _ _ _ hy H
    · have h1 := H.2 j (ready_mono hj hji)
      obtain ⟨hjun, oj, hoj, hall⟩ := mem_ready.1 hj
      have hnot : ∀ e ∈ oj.after, Region.binds md e = true -> e.on ≠ i := fun e he hb heq => by
        have h1 := hall e he hb
        have h0 := (mem_ready.1 hr).1
        rw [heq] at h1
        rcases Nat.lt_or_ge i listed.size with h' | h'
        · simp [h'] at h0 h1; rw [h0] at h1; cases h1
        · simp [Array.getElem?_eq_none h'] at h1
      have h2 := fOp_putY hoj (hfree j oj hoj hji hjun hnot) (fun cs b => hsel i oi cs b hi) (fun cs b => hsel j oj cs b hoj) hy h1
      have hfree' : ∀ k ok, ops[k]? = some ok -> k ≠ i -> (listed.setIfInBounds j true).getD k true = false →
          (∀ e ∈ ok.after, Region.binds md e = true -> e.on ≠ i) -> oi.apart ops ok = true := fun k ok hk hki hun hno => by
        refine hfree k ok hk hki ?_ hno
        by_cases hjk : j = k
        · subst hjk; exact hjun
        · rw [getD_set_ne true hjk] at hun; exact hun
      refine fOp_mono (fun a' S' h3 => ih (listed.setIfInBounds j true) a' S' hfree' (ready_mono hr (Ne.symm hji)) h3.1 ?_) h2
      rw [Array.setIfInBounds_comm _ _ hji]
      exact h3.2
theorem firstL {Q : Act -> (Nat -> Option Nat) -> Prop} {i : Nat} {oi : Oper} {ob : Obj} {mk : Nat -> Value} (hi : ops[i]? = some oi) (hsp : sp i = some (ob, mk)) (hsel : ∀ (j : Nat) (o : Oper) cs b, ops[j]? = some o -> o.op ≠ .select cs b) :
    ∀ (fuel : Nat) (listed : Array Bool) (a : Act) (S : Nat -> Option Nat), Tidy W listed S →
      (∀ j oj, ops[j]? = some oj -> j ≠ i -> listed.getD j true = false -> (∀ e ∈ oj.after, Region.binds md e = true -> e.on ≠ i) -> oi.apart ops oj = true) →
      i ∈ Region.ready md ops listed -> LF P ops W oi ob mk a →
      (∀ b, Fresh W S b -> wpAnyF P md ops W sp Q fuel (listed.setIfInBounds i true) (a.put oi.dst (mk b)) (putL S i b)) -> wpAnyF P md ops W sp Q (fuel + 1) listed a S := by
  have go : ∀ (K : Act -> (Nat -> Option Nat) -> Prop) (a : Act) (S : Nat -> Option Nat), LF P ops W oi ob mk a -> (∀ b, Fresh W S b -> K (a.put oi.dst (mk b)) (putL S i b)) -> fOp P ops W sp i K a S := fun K a S hy h => by
    unfold fOp; simp only [hi, hsp]; exact ⟨hy, h⟩
  intro fuel
  induction fuel with
  | zero =>
    intro listed a S ty _ hr hy H
    refine ⟨fun h => (by rw [h] at hr; cases hr), fun j hj => ?_⟩
    by_cases hji : j = i
    · subst hji; exact go _ _ _ hy H
    · obtain ⟨b, hb⟩ := ty.fresh
      have := ready_mono hj hji
      rw [(H b hb).1] at this
      cases this
  | succ fuel ih =>
    intro listed a S ty hfree hr hy H
    refine ⟨fun h => (by rw [h] at hr; cases hr), fun j hj => ?_⟩
    by_cases hji : j = i
    · subst hji; exact go _ _ _ hy H
    · have h1 := fun b hb => (H b hb).2 j (ready_mono hj hji)
      obtain ⟨hjun, oj, hoj, hall⟩ := mem_ready.1 hj
      have hnot : ∀ e ∈ oj.after, Region.binds md e = true -> e.on ≠ i := fun e he hb heq => by
        have h1 := hall e he hb
        have h0 := (mem_ready.1 hr).1
        rw [heq] at h1
        rcases Nat.lt_or_ge i listed.size with h' | h'
        · simp [h'] at h0 h1; rw [h0] at h1; cases h1
        · simp [Array.getElem?_eq_none h'] at h1
      have hap := hfree j oj hoj hji hjun hnot
      have hfree' : ∀ k ok, ops[k]? = some ok -> k ≠ i -> (listed.setIfInBounds j true).getD k true = false →
          (∀ e ∈ ok.after, Region.binds md e = true -> e.on ≠ i) -> oi.apart ops ok = true := fun k ok hk hki hun hno => by
        refine hfree k ok hk hki ?_ hno
        by_cases hjk : j = k
        · subst hjk; exact hjun
        · rw [getD_set_ne true hjk] at hun; exact hun
      have h2 := fOp_putL (Ne.symm hji) hoj hap (fun cs b => hsel i oi cs b hi) (fun cs b => hsel j oj cs b hoj) ty.fresh (ty.1 j hjun) hy h1
      -- what j leaves is tidy
      have h4 : fOp P ops W sp j (fun a' S' => Tidy W (listed.setIfInBounds j true) S' /\ LF P ops W oi ob mk a' /\ ∀ b, Fresh W S' b -> wpAnyF P md ops W sp Q fuel ((listed.setIfInBounds i true).setIfInBounds j true) (a'.put oi.dst (mk b)) (putL S' i b)) a S := by
        unfold fOp at h2 ⊢
        cases hs : sp j with
        | none =>
          simp only [hoj, hs] at h2 ⊢
          obtain ⟨u, hu, hk⟩ := h2
          exact ⟨u, hu, ty.set j, hk⟩
        | some x =>
          simp only [hoj, hs] at h2 ⊢
          exact ⟨h2.1, fun b hb => ⟨ty.lay hjun b, h2.2 b hb⟩⟩
      refine fOp_mono (fun a' S' h3 => ih (listed.setIfInBounds j true) a' S' h3.1 hfree' (ready_mono hr (Ne.symm hji)) h3.2.1 (fun b hb => ?_)) h4
      rw [Array.setIfInBounds_comm _ _ hji]
      exact h3.2.2 b hb
def wpFree (P : Program) (ops : Array Oper) (W : World) (sp : Nat -> Option (Obj × (Nat -> Value))) (Q : Act -> (Nat -> Option Nat) -> Prop) : List Oper -> Nat -> Act -> (Nat -> Option Nat) -> Prop
  | [], _, a, S => Q a S
  | o :: rest, k, a, S =>
    match sp k with
    | none => ∃ v, YF P ops W o v a /\ wpFree P ops W sp Q rest (k + 1) (a.put o.dst v) S
    | some (ob, mk) => LF P ops W o ob mk a /\ ∀ b, Fresh W S b -> wpFree P ops W sp Q rest (k + 1) (a.put o.dst (mk b)) (putL S k b)
theorem wpAnyF_lex {Q : Act -> (Nat -> Option Nat) -> Prop} (hs : Region.noSelect ops = true) : ∀ (l : List Oper) (k : Nat) (listed : Array Bool) (a : Act) (S : Nat -> Option Nat), (∀ j, l[j]? = ops[k + j]?) -> Tidy W listed S →
    Region.lexFrom md ops l.length k listed = true -> wpFree P ops W sp Q l k a S -> wpAnyF P md ops W sp Q l.length listed a S
  | [], _, _, _, _, _, _, hB, h => ⟨by simpa [Region.lexFrom] using hB, h⟩
  | o :: l, k, listed, a, S, hl, ty, hB, h => by
    have h0 : ops[k]? = some o := by simpa using (hl 0).symm
    simp only [List.length_cons, Region.lexFrom, Bool.and_eq_true] at hB
    obtain ⟨⟨hr, hf⟩, hB'⟩ := hB
    have hr' : k ∈ Region.ready md ops listed := by simpa using hr
    have hl' : ∀ j, l[j]? = ops[k + 1 + j]? := fun j => by have := hl (j + 1); simpa [Nat.add_assoc, Nat.add_comm 1 j] using this
    cases hsp : sp k with
    | none =>
      simp only [wpFree, hsp] at h
      obtain ⟨v, hy, hK⟩ := h
      exact firstY h0 hsp (Region.noSelect_spec hs) l.length listed a S (Region.free_spec h0 hf) hr' hy
        (wpAnyF_lex hs l (k + 1) _ _ _ hl' (ty.set k) hB' hK)
    | some x =>
      obtain ⟨ob, mk⟩ := x
      simp only [wpFree, hsp] at h
      exact firstL h0 hsp (Region.noSelect_spec hs) l.length listed a S ty (Region.free_spec h0 hf) hr' h.1
        (fun b hb => wpAnyF_lex hs l (k + 1) _ _ _ hl' (ty.lay (mem_ready.1 hr').1 b) hB' (h.2 b hb))
theorem wpOp_of_fOp {i : Nat} {a : Act} {S : Nat -> Option Nat} {K : Act -> (Nat -> Option Nat) -> Prop} {K' : Act -> World -> Prop} {Q' : Exit -> Act -> World -> Prop} {w : World} (hC : Has W sp S w) (h : ∀ a S w', Has W sp S w' -> K a S -> K' a w') (hh : fOp P ops W sp i K a S) : wpOp P ops Q' i K' a w := by
  unfold fOp at hh
  unfold wpOp
  cases ho : ops[i]? with
  | none => simp only [ho] at hh ⊢; exact h _ _ _ hC hh
  | some o =>
    cases hs : sp i with
    | none =>
      simp only [ho, hs] at hh ⊢
      obtain ⟨v, hy, hk⟩ := hh
      rcases hy with ⟨w1, hv⟩ | ⟨w1, rfl⟩
      · rw [if_pos w1]
        refine .inl ?_
        unfold Oper.wp
        rw [hv w hC.1]
        exact h _ _ _ hC hk
      · rw [if_neg (by rw [w1]; exact Bool.false_ne_true)]
        exact h _ _ _ hC hk
    | some x =>
      obtain ⟨ob, mk⟩ := x
      simp only [ho, hs] at hh ⊢
      obtain ⟨⟨w1, hv⟩, hk⟩ := hh
      rw [if_pos w1]
      refine .inl ?_
      unfold Oper.wp
      rw [hv w hC.1]
      exact h _ _ _ (hC.lay hs) (hk _ hC.fresh)
end
theorem fOp_head {P : Program} {md : Region.Mode} {ops hd : Array Oper} {W : World} {sp : Nat -> Option (Obj × (Nat -> Value))} {n : Nat} (hhd : ∀ i, i < n -> hd[i]? = ops[i]?) (hb : backB md ops n = true) {i : Nat} (hi : i < n) {K : Act -> (Nat -> Option Nat) -> Prop} {a : Act} {S : Nat -> Option Nat} (h : fOp P hd W sp i K a S) : fOp P ops W sp i K a S := by
  unfold fOp at *
  rw [hhd i hi] at h
  cases ho : ops[i]? with
  | none => rw [ho] at h; exact h
  | some o =>
    have e : Region.wanted o (yielded hd a.tmps) = Region.wanted o (yielded ops a.tmps) := by
      unfold Region.wanted
      cases hg : o.guard with
      | none => rfl
      | some jb =>
        obtain ⟨j, b⟩ := jb
        have lt := (back_spec hb hi ho).2 j b hg
        show (yielded hd a.tmps j == some b) = (yielded ops a.tmps j == some b)
        unfold yielded
        rw [hhd j lt]
    simp only [ho] at h ⊢
    cases hs : sp i with
    | none =>
      simp only [hs] at h ⊢
      unfold YF at *
      rw [e] at h
      exact h
    | some x =>
      simp only [hs] at h ⊢
      unfold LF at *
      rw [e] at h
      exact h
theorem wpAny_of_headF {P : Program} {md : Region.Mode} {ops hd : Array Oper} {W : World} {sp : Nat -> Option (Obj × (Nat -> Value))} {n : Nat} {g : Nat} {Q1 : Act -> (Nat -> Option Nat) -> Prop} {Q' : Exit -> Act -> World -> Prop} (hhd : ∀ i, i < n -> hd[i]? = ops[i]?) (hsz : hd.size = n) (hn : n < ops.size) (hb : backB md ops n = true) (hs : Region.sinkB md ops n = true) (hc : Region.chainB md ops n = true)
    (hL : ∀ a S w, Has W sp S w -> Q1 a S -> wpAny P md ops Q' g (finA ops.size n) a w) :
    ∀ (fuel : Nat) (listed lh : Array Bool) (a : Act) (S : Nat -> Option Nat) (w : World), Has W sp S w -> HeadInv md ops n listed -> lh.size = n -> (∀ i, i < n -> lh.getD i true = listed.getD i true) →
      wpAnyF P md hd W sp Q1 fuel lh a S -> wpAny P md ops Q' (fuel + g) listed a w := by
  intro fuel
  induction fuel with
  | zero =>
    intro listed lh a S w hC inv hl he h
    have hls : n <= listed.size := by rw [inv.size]; omega
    rcases some_ready (by omega) hb hls with all | ⟨i, hi, hr⟩
    · rw [Nat.zero_add, fin_of hn inv all]
      exact hL a S w hC h.2
    · have := (ready_head hhd hb hl hls he hi).2 hr
      rw [h.1] at this
      cases this
  | succ fuel ih =>
    intro listed lh a S w hC inv hl he h
    have hls : n <= listed.size := by rw [inv.size]; omega
    rcases some_ready (by omega) hb hls with all | ⟨i0, hi0, hr0⟩
    · have no : Region.ready md hd lh = [] := by
        rw [List.eq_nil_iff_forall_not_mem]
        intro i hi
        obtain ⟨u, o, ho, _⟩ := mem_ready.1 hi
        have lt : i < n := by rw [<- hsz]; exact (Array.getElem?_eq_some_iff.1 ho).1
        rw [he i lt, all i lt] at u
        cases u
      rw [Nat.add_comm (fuel + 1) g, fin_of hn inv all]
      exact wpAny_more g (fuel + 1) _ a w (hL a S w hC (h.1 no))
    · rw [show fuel + 1 + g = (fuel + g) + 1 by omega]
      refine ⟨fun h0 => (by rw [h0] at hr0; cases hr0), fun i hi => ?_⟩
      have lt : i < n := by
        by_cases c : i < n
        · exact c
        · exact absurd hi (tail_waits hs hc hn inv _ i0 rfl hi0 (mem_ready.1 hr0).1 i (by omega))
      have hq := fOp_head hhd hb lt (h.2 i ((ready_head hhd hb hl hls he lt).2 hi))
      refine wpOp_of_fOp hC (fun a' S' w' hC' h' => ih _ _ a' S' w' hC' (inv.set hi lt) (by simp [hl]) (fun j hj => ?_) h') hq
      by_cases e : i = j
      · subst e
        simp [hl, lt, show i < listed.size by omega]
      · rw [getD_set_ne true e, getD_set_ne true e, he j hj]
theorem region_free {P : Program} {id : Nat} {Q : Exit -> Act -> World -> Prop} {a : Act} {w : World} {l : List Oper} (n : Nat) (sp : Nat -> Option (Obj × (Nat -> Value))) (hm : P.follows .mixedOrders = true) (hB : Region.lexB .any (l.take n).toArray = true) (hT : tailB l.toArray n = true)
    (h : wpFree P (l.take n).toArray w.drew sp (fun a' S => ∀ w', Has w.drew sp S w' -> wpList P l.toArray Q (l.drop n) a' w') (l.take n) 0 a (fun _ => none)) : (Code.region id l.toArray true).wp P Q a w := by
  simp only [tailB, Bool.and_eq_true, decide_eq_true_eq] at hT
  obtain ⟨⟨⟨⟨hn, hb⟩, hs⟩, hc⟩, hq⟩ := hT
  have hn' : n < l.length := by simpa using hn
  have htl : (l.take n).toArray.size = n := by simp; omega
  have hdl : (l.drop n).length = l.toArray.size - n := by simp
  refine wp_region_any hm ?_
  simp only [Region.lexB, Bool.and_eq_true] at hB
  have H := wpAnyF_lex (P := P) (W := w.drew) (sp := sp) (md := .any) hB.1 (l.take n) 0 (Array.replicate (l.take n).toArray.size false) a (fun _ => none) (by simp) ⟨fun _ _ => rfl, w.drew.heap.size, Nat.le_refl _, fun i c e => by cases e⟩ (by simpa using hB.2) h
  have inv0 : HeadInv .any l.toArray n (Array.replicate l.toArray.size false) :=
    ⟨by simp, fun j oj _ hl => (by rw [getD_replicate_false] at hl; cases hl), fun t _ ht => getD_in (by simpa using ht) (getD_replicate_false _ _)⟩
  have := wpAny_of_headF (P := P) (Q' := Q) (g := l.toArray.size - n) (hd := (l.take n).toArray) (ops := l.toArray) (fun i hi => by simp [hi]) htl hn hb hs hc
    (fun a' S' w' hC' h' => by
      have := wpAny_of_seq (P := P) (md := .any) (ops := l.toArray) (Q' := Q) (l.drop n) n (finA l.toArray.size n) a' w' (fun j => by simp) (by rw [hdl]; exact hq) (h' w' hC')
      rwa [hdl] at this)
    (l.take n).length _ _ a (fun _ => none) w.drew ⟨Ab.refl _, fun i b e => by cases e⟩ inv0 (by simpa using htl) (fun i hi => by
      rw [getD_in (listed := Array.replicate l.toArray.size false) (by simp; omega) (getD_replicate_false _ _)]
      exact getD_in (by rw [Array.size_replicate]; omega) (getD_replicate_false _ _)) H
  have e : (l.take n).length + (l.toArray.size - n) = l.toArray.size := by simp; omega
  rw [e] at this
  exact this
end Go.Proofs.YtdigecacmibkpaaGreatDoor

namespace Go.Proofs.YtdigecacmibkpaaGreatDoor
open Go.RowKit
def plainB : Op -> Bool
  | .move _ | .assign _ | .pick _ _ _ | .build _ _ | .load _ _ | .binOp _ _ _ _ _ | .unOp _ _ _ | .convert _ _ _ | .slice _ _ _ _ _ | .fieldAddr _ _ _ | .field _ _ _ | .indexAddr _ _ _ | .index _ _ _ | .extract _ _ => true
  | _ => false
theorem val_only {P : Program} {s : Sem Value} {w w' : World} {n : Next} (e : (do pure (Next.value (← s)) : Sem Next).run P w = .ok n w') : ∃ x, n = .value x := by
  rw [Sem.run_bind] at e
  cases h : s.run P w with
  | ok x w1 =>
    rw [h] at e
    simp at e
    exact ⟨x, e.1.symm⟩
  | halt x w1 => rw [h] at e; simp at e
theorem val_only2 {P : Program} {α : Type} {s : Sem α} {f : α -> Value} {w w' : World} {n : Next} (e : ((s.run P w).andThen fun x w => Result.ok (Next.value (f x)) w) = .ok n w') : ∃ x, n = .value x := by
  cases h : s.run P w with
  | ok x w1 =>
    rw [h] at e
    simp at e
    exact ⟨f x, e.1.symm⟩
  | halt x w1 => rw [h] at e; simp at e
theorem plain_value {P : Program} {ρ : Operand -> Value} {o : Oper} {w w' : World} {n : Next} (h : plainB o.op = true) (e : (execOp ρ o).run P w = .ok n w') : ∃ x, n = .value x := by
  unfold execOp at e
  cases ho : o.op <;> rw [ho] at h e <;> first | (simp [plainB] at h; done) | exact val_only e | (simp at e; first | exact ⟨_, e.1.symm⟩ | exact val_only2 (f := fun b => if b = true then ρ _ else ρ _) e)
section
variable {P : Program} {ops : Array Oper} {W : World} {sp : Nat -> Option (Obj × (Nat -> Value))} {Q : Act -> (Nat -> Option Nat) -> Prop} {o : Oper} {rest : List Oper} {k : Nat} {a : Act} {S : Nat -> Option Nat}
theorem wpFree_one {U : Type} {F : U -> World} (HF : Hid (∀ w', Ab W w' -> ∃ u, w' = F u)) (hs : sp k = none) (hp : plainB o.op = true) (h : wpQuiet P ops (fun w' => ∃ u, w' = F u) (fun a' => wpFree P ops W sp Q rest (k + 1) a' S) [o] a) : wpFree P ops W sp Q (o :: rest) k a S := by
  simp only [wpFree, hs]
  simp only [wpQuiet] at h
  by_cases c : Region.wanted o (yielded ops a.tmps) = true
  · rw [if_pos c] at h
    obtain ⟨v, h1, h2⟩ := h
    refine ⟨v, .inl ⟨c, fun w hw => ?_⟩, h2⟩
    have q := h1 w (HF.out w hw)
    unfold Oper.quietAt at q
    cases e : (execOp a.eval o).run P w with
    | ok n w' =>
      obtain ⟨x, rfl⟩ := plain_value hp e
      rw [e] at q
      obtain ⟨q1, q2⟩ := q
      rw [q1, q2]
    | halt x w' => rw [e] at q; exact absurd q (by simp [Oper.quietUpon])
  · rw [if_neg c] at h
    exact ⟨undef, .inr ⟨by simpa using c, rfl⟩, h⟩
theorem wpFree_lay {ob : Obj} {mk : Nat -> Value} (hs : sp k = some (ob, mk)) (hw : Region.wanted o (yielded ops a.tmps) = true) (hr : ∀ w, Ab W w -> (execOp a.eval o).run P w = .ok (.value (mk w.heap.size)) (w.alloc ob))
    (h : ∀ b, Fresh W S b -> wpFree P ops W sp Q rest (k + 1) (a.put o.dst (mk b)) (putL S k b)) : wpFree P ops W sp Q (o :: rest) k a S := by
  simp only [wpFree, hs]
  exact ⟨⟨hw, hr⟩, h⟩
theorem run_val {s : Sem Value} {w w' : World} {x : Value} (h : s.run P w = .ok x w') : (do pure (Next.value (← s)) : Sem Next).run P w = .ok (.value x) w' := by
  rw [Sem.run_bind, h]
  rfl
theorem lay_make {t : TypeId} {x y : Operand} {vx vy : Value} {mk : Nat -> Value} {ob : Obj} (ho : o.op = .makeSlice t x y) (hx : a.eval x = vx) (hy : a.eval y = vy) (M : ∀ w : World, (Instr.makeSlice t vx vy).run P w = .ok (mk w.heap.size) (w.alloc ob)) :
    ∀ w, Ab W w -> (execOp a.eval o).run P w = .ok (.value (mk w.heap.size)) (w.alloc ob) := by
  intro w _
  unfold execOp
  rw [ho]
  simp only [hx, hy]
  exact run_val (M w)
theorem lay_alloc {t : TypeId} {mk : Nat -> Value} {ob : Obj} (ho : o.op = .alloc t) (M : ∀ w : World, (Instr.alloc t true (.tuple #[])).run P w = .ok (mk w.heap.size) (w.alloc ob)) :
    ∀ w, Ab W w -> (execOp a.eval o).run P w = .ok (.value (mk w.heap.size)) (w.alloc ob) := by
  intro w _
  unfold execOp
  rw [ho]
  exact run_val (M w)
theorem wpFree_nil (h : Q a S) : wpFree P ops W sp Q [] k a S := h
end
theorem Has.at {W : World} {sp : Nat -> Option (Obj × (Nat -> Value))} {S : Nat -> Option Nat} {w : World} (h : Has W sp S w) {i b : Nat} {ob : Obj} {mk : Nat -> Value} (e : S i = some b) (s : sp i = some (ob, mk)) : w.heap[b]? = some ob /\ W.heap.size <= b := by
  obtain ⟨h1, o, m, h2, h3⟩ := h.2 i b e
  rw [s] at h2
  injection h2 with h2
  injection h2 with h2
  subst h2
  exact ⟨h3, h1⟩
end Go.Proofs.YtdigecacmibkpaaGreatDoor

namespace Go.Proofs.YtdigecacmibkpaaGreatDoor
open Go.RowKit Tf Cu Go.Deep
attribute [local go_sem] run_bits run_from raw_feq raw_fne raw_flt raw_fgt run_neg run_store_float
def lkW (i : Nat) : Int := if i = 1 then 2863311530 else 1431655765
theorem ar13 : ∀ c, c < 6 -> arI (ArC 1 c) = 1431655765 := by decide +kernel
def LkR (w : World) (gd g4 b1 b2 b3 b4 : Nat) (f : Nat -> Int) (v : World) : Prop :=
  Ab w v /\ v.heap[g4]? = some (.cells #[.slice (some ⟨b1, 0, none⟩) 6 6, .slice (some ⟨b2, 0, none⟩) 6 6, .slice (some ⟨b3, 0, none⟩) 6 6, .slice (some ⟨b4, 0, none⟩) 12 12, .int .i64 0, .int .i64 0] 33) /\ v.heap[gd]? = some (.cells #[.slice none 0 0, .slice none 0 0, .slice none 0 0, .slice none 0 0, .int .i64 0, .int .i64 0] 33) /\ v.rowIs b1 22 6 (fun _ => .float .f64 0) /\ v.rowIs b2 2 6 (fun i => .int .i64 (f i)) /\ v.rowIs b3 2 6 (fun _ => .int .i64 0) /\ v.rowIs b4 22 12 (fun _ => .float .f64 0)
def LkI (w : World) (gd g4 b1 b2 b3 b4 c : Nat) (v : World) : Prop := LkR w gd g4 b1 b2 b3 b4 (fun i => if i < c then lkW i else 0) v
theorem LkR.to2 {w : World} {gd g4 b1 b2 b3 b4 : Nat} {f : Nat -> Int} {v v' : World} (h : LkR w gd g4 b1 b2 b3 b4 f v) (a : Ab v v') : LkR w gd g4 b1 b2 b3 b4 f v' := by
  obtain ⟨h1, h2, h3, h4, h5, h6, h7⟩ := h
  exact ⟨h1.trans a, a.heap h2, a.heap h3, rowIs.ab h4 a, rowIs.ab h5 a, rowIs.ab h6 a, rowIs.ab h7 a⟩
theorem LkI.to {w : World} {gd g4 b1 b2 b3 b4 c : Nat} {v v' : World} (h : LkI w gd g4 b1 b2 b3 b4 c v) (a : Ab v v') : LkR w gd g4 b1 b2 b3 b4 (fun i => if i < c then lkW i else 0) v' := LkR.to2 h a
theorem LkR.set {w : World} {gd g4 b1 b2 b3 b4 : Nat} {f : Nat -> Int} {v : World} (h : LkR w gd g4 b1 b2 b3 b4 f v) (nn : g4 ≠ b2 /\ b1 ≠ b2 /\ b3 ≠ b2 /\ b4 ≠ b2 /\ b1 ≠ b4 /\ b3 ≠ b4) (hl : gd + 1 <= b1 /\ gd + 1 <= b2 /\ gd + 1 <= b3 /\ gd + 1 <= b4 /\ gd + 1 <= g4) (c : Nat) (x : Int) (hw : w.heap.size <= gd) : LkR w gd g4 b1 b2 b3 b4 (fun i => if i = c then x else f i) (v.setCell ⟨b2, c, none⟩ (.int .i64 x)) := by
  obtain ⟨h1, h2, h3, h4, h5, h6, h7⟩ := h
  refine ⟨h1.setk (by omega) _, by rw [heap_set_ne nn.1]; exact h2, by rw [heap_set_ne (by omega)]; exact h3, h4.setOther nn.2.1 _, (h5.set c _).congr (fun i _ => ?_), h6.setOther nn.2.2.1 _, h7.setOther nn.2.2.2.1 _⟩
  by_cases e : i = c
  · simp [e]
  · simp [e]
end Go.Proofs.YtdigecacmibkpaaGreatDoor

namespace Go.Proofs.YtdigecacmibkpaaGreatDoor
open Tf Ieee Cu
def wdF (s : Bool) (r : Nat) : Nat := bif s then 9223372036854775808 + r else r
theorem cw (c : Bool) (r : Nat) (h1 : 1 <= r) (h2 : r <= 9218868437227405312) : wdF c r = canonB (if c = true then 9223372036854775808 + r else r) := by
  cases c
  · have hm : mg r = r := mg_of_lt (by omega)
    unfold wdF canonB
    rw [cond_false, if_neg Bool.false_ne_true, if_neg (by rw [isN_true, hm]; omega), if_neg (by rw [hm]; omega)]
  · have hm : mg (9223372036854775808 + r) = r := by unfold mg; omega
    unfold wdF canonB
    rw [cond_true, if_pos rfl, if_neg (by rw [isN_true, hm]; omega), if_neg (by rw [hm]; omega)]
end Go.Proofs.YtdigecacmibkpaaGreatDoor

namespace Go.Proofs.YtdigecacmibkpaaGreatDoor
open Tf Ieee Cu
def nl (n : Nat) (v : P3) : Nat := lnB (px n v) (py n v) (pz n v)
def a0 (n : Nat) (k h : Int) : Nat := ar n (n, k, h) (n, k + 2, h) (n, k + 2, h + 2) (n, k, h + 2)
end Go.Proofs.YtdigecacmibkpaaGreatDoor

namespace Go.Proofs.YtdigecacmibkpaaGreatDoor
open Go.RowKit Tf Cu Go.Deep
attribute [local go_sem] run_bits run_from raw_feq raw_fne raw_flt raw_fgt run_neg run_store_float
namespace Ss
theorem rawBits20 (x : Nat) (w : World) :
    Calls Tryz.prog 49 #[.float .f64 x] w fun e w' => e = .returned (.int .u64 ((x : Nat) : Int)) /\ w' = w := by
  go_enter Tryz.func49, Tryz.ntmps49
  go_wp2
  go_ret
  exact ⟨rfl, rfl⟩
theorem rbtw20 (x lo hi : Nat) (w : World) : Calls Tryz.prog 33 #[.float .f64 x, .float .f64 lo, .float .f64 hi] w fun e w' => e = .returned (.bool (btw x lo hi)) /\ w' = w := by
  have RB := hid (rawBits20 x w)
  have BT : Hid (btw x lo hi = ((fgt x lo || feq x lo) && (flt x hi || feq x hi) && decide (x ≠ 9223372036854775808))) := rfl
  cases h1 : (fgt x lo || feq x lo) with
  | false =>
    have K : Hid (btw x lo hi = false) := BT.out.trans (by rw [h1]; rfl)
    clear BT
    go_enter Tryz.func33, Tryz.ntmps33
    go_wp2
    go_ret
    exact ⟨by rw [K.out]; rfl, rfl⟩
  | true =>
    cases h2 : (flt x hi || feq x hi) with
    | false =>
      have K : Hid (btw x lo hi = false) := BT.out.trans (by rw [h1, h2]; rfl)
      clear BT
      go_enter Tryz.func33, Tryz.ntmps33
      go_wp2
      go_ret
      exact ⟨by rw [K.out]; rfl, rfl⟩
    | true =>
      by_cases h3 : x = 9223372036854775808
      · have K : Hid (btw x lo hi = false) := BT.out.trans (by rw [h1, h2, decide_eq_false (fun q => q h3)]; rfl)
        have d3 : ((x : Int) != 9223372036854775808) = false := by simp; omega
        clear BT h3
        go_enter Tryz.func33, Tryz.ntmps33
        go_wp2_with fail
        refine RB.out.mono ?_
        rintro e9 v9 ⟨rfl, hv9⟩
        have hv8 := hv9.symm
        subst hv8
        go_wp2
        go_ret
        exact ⟨by rw [K.out]; rfl, rfl⟩
      · have K : Hid (btw x lo hi = true) := BT.out.trans (by rw [h1, h2, decide_eq_true h3]; rfl)
        have d3 : ((x : Int) != 9223372036854775808) = true := by simp; omega
        clear BT h3
        go_enter Tryz.func33, Tryz.ntmps33
        go_wp2_with fail
        refine RB.out.mono ?_
        rintro e9 v9 ⟨rfl, hv9⟩
        have hv8 := hv9.symm
        subst hv8
        go_wp2
        go_ret
        exact ⟨by rw [K.out]; rfl, rfl⟩
theorem rfloats20 (p : Option Addr) (N c : Nat) (f : Nat -> Nat) (m nm : Nat) (q : Nat -> Bool) (w : World) (hm : Op.negFloat .f64 m = nm) (hN : N <= 131072) (hf : IsFl w p N f) (hq : ∀ i, i < N -> q i = !btw (f i) nm m) :
    Calls Tryz.prog 38 #[.slice p N c, .float .f64 m] w fun e w' => e = .returned (.int .i64 (fp q N)) /\ w' = w := by
  have HF := hid hf
  have HN := hid hN
  have HQ := hid hq
  clear hf hN hq
  go_enter Tryz.func38, Tryz.ntmps38
  go_wp2
  go_loopw [5] (fun iv wr => ∃ k : Nat, k <= N /\ iv = .int .i64 (k : Nat) /\ (∀ i, i < k -> q i = false) /\ wr = w) (fun iv _ => N - (intOf iv).toNat)
  case atStart => exact ⟨0, by omega, rfl, fun i hi => absurd hi (Nat.not_lt_zero i), rfl⟩
  case round =>
    obtain ⟨k, hk, rfl, g1, hwr⟩ := hrel
    have hwr2 := hwr.symm
    subst hwr2
    have G1 := hid g1
    clear g1
    by_cases hkn : k < N
    · have HK := hid hkn
      have kI : (k : Int) < N := by omega
      have kB : (k : Int) <= 131072 := by have := HN.out; omega
      obtain ⟨b0, o0, rfl⟩ := HF.out.some0 (show 0 < N by omega)
      obtain ⟨x, hx⟩ : ∃ x, f k = x := ⟨_, rfl⟩
      have xc := (HF.out.at0 hkn).2.2
      rw [hx] at xc
      have CB := hid (rbtw20 x nm m w)
      have qk := HQ.out k hkn
      rw [hx] at qk
      clear hx hkn hk
      cases hb : btw x nm m with
      | false =>
        rw [hb] at CB
        have QK : Hid (q k = true) := qk.trans (by rw [hb]; rfl)
        have E : Hid (fp q N = (k : Nat)) := fp_hit G1.out QK.out HK.out
        clear qk hb
        go_wp2_with fail
        refine CB.out.mono ?_
        rintro e9 v9 ⟨rfl, hv9⟩
        have hv8 := hv9.symm
        subst hv8
        go_wp2
        go_ret
        exact ⟨by rw [E.out]; rfl, by first | trivial | rfl⟩
      | true =>
        rw [hb] at CB
        have QK : Hid (q k = false) := qk.trans (by rw [hb]; rfl)
        clear qk hb
        go_wp2_with fail
        refine CB.out.mono ?_
        rintro e9 v9 ⟨rfl, hv9⟩
        have hv8 := hv9.symm
        subst hv8
        go_wp2
        refine ⟨⟨k + 1, by have := HK.out; omega, by simp, fun i hi => ?_, by first | trivial | rfl⟩, by have := HK.out; simp [intOf]; omega⟩
        by_cases l : i < k
        · exact G1.out i l
        · obtain rfl : i = k := by omega
          exact QK.out
    · have e6 : N = k := by omega
      subst e6
      have E : Hid (fp q N = -1) := fp_none G1.out
      go_wp2
      go_ret
      exact ⟨by rw [E.out]; rfl, by first | trivial | rfl⟩
theorem rquanta20 (p : Option Addr) (N c : Nat) (f : Nat -> Int) (th : Int) (w : World) (hN : N <= 131072) (hf : Sh.IsI w p N f) (ht : 0 <= th /\ th <= 4503599627370496) :
    Calls Tryz.prog 39 #[.slice p N c, .int .i64 th] w fun e w' => e = .returned (.int .i64 (fp (bQ f th) N)) /\ w' = w := by
  have HF := hid hf
  have HN := hid hN
  have HT := hid ht
  clear hf hN ht
  go_enter Tryz.func39, Tryz.ntmps39
  go_wp2
  go_loopw [1, 5] (fun sv iv wr => ∃ k : Nat, k <= N /\ iv = .int .i64 (k : Nat) /\ sv = .int .i64 (th + Sh.sumN f k) /\ (0 <= th + Sh.sumN f k /\ th + Sh.sumN f k <= 4503599627370496) /\ (∀ i, i < k -> bQ f th i = false) /\ wr = w) (fun _ iv _ => N - (intOf iv).toNat)
  case atStart => exact ⟨0, by omega, rfl, by show _ = Value.int .i64 (th + 0); rw [Int.add_zero], by show 0 <= th + 0 /\ th + 0 <= _; have := HT.out; omega, fun i hi => absurd hi (Nat.not_lt_zero i), rfl⟩
  case round =>
    obtain ⟨k, hk, rfl, rfl, hb, g1, hwr⟩ := hrel
    have hwr2 := hwr.symm
    subst hwr2
    have G1 := hid g1
    clear g1
    have s1 := hb.1
    have s2 := hb.2
    obtain ⟨s, hs⟩ : ∃ s, th + Sh.sumN f k = s := ⟨_, rfl⟩
    rw [hs] at s1 s2 ⊢
    clear hb
    by_cases hkn : k < N
    · have HK := hid hkn
      have kI : (k : Int) < N := by omega
      have kB : (k : Int) <= 131072 := by have := HN.out; omega
      obtain ⟨b0, o0, rfl⟩ := HF.out.some0 (show 0 < N by omega)
      obtain ⟨x, hx⟩ : ∃ x, f k = x := ⟨_, rfl⟩
      have xc := (HF.out.at0 hkn).2.2
      rw [hx] at xc
      have QE : Hid (bQ f th k = (decide (x < 0) || decide (4503599627370496 - s < x))) := by show bQ f th k = _; unfold bQ; rw [hs, hx]
      have M3 : Hid (th + Sh.sumN f (k + 1) = s + x) := by show th + (Sh.sumN f k + f k) = _; rw [<- hs, hx]; omega
      clear hx hs hkn hk
      by_cases q1 : x < 0
      · have d1 : decide (x < 0) = true := decide_eq_true q1
        have E : Hid (fp (bQ f th) N = (k : Nat)) := fp_hit G1.out (QE.out.trans (by rw [d1]; rfl)) HK.out
        go_wp2
        go_ret
        exact ⟨by rw [E.out]; rfl, by first | trivial | rfl⟩
      · have d1 : decide (x < 0) = false := decide_eq_false q1
        by_cases q2 : 4503599627370496 - s < x
        · have d2 : decide (4503599627370496 - s < x) = true := decide_eq_true q2
          have E : Hid (fp (bQ f th) N = (k : Nat)) := fp_hit G1.out (QE.out.trans (by rw [d1, d2]; rfl)) HK.out
          go_wp2
          go_ret
          exact ⟨by rw [E.out]; rfl, by first | trivial | rfl⟩
        · have d2 : decide (4503599627370496 - s < x) = false := decide_eq_false q2
          have QF : Hid (bQ f th k = false) := QE.out.trans (by rw [d1, d2]; rfl)
          have n1 : 0 <= s + x := by omega
          have n2 : s + x <= 4503599627370496 := by omega
          clear q1 q2
          go_wp2
          refine ⟨⟨k + 1, by have := HK.out; omega, by simp, by rw [M3.out], by rw [M3.out]; exact ⟨n1, n2⟩, fun i hi => ?_, by first | trivial | rfl⟩, by have := HK.out; simp [intOf]; omega⟩
          by_cases l : i < k
          · exact G1.out i l
          · obtain rfl : i = k := by omega
            exact QF.out
    · have e6 : N = k := by omega
      subst e6
      have E : Hid (fp (bQ f th) N = -1) := fp_none G1.out
      go_wp2
      go_ret
      exact ⟨by rw [E.out]; rfl, by first | trivial | rfl⟩
theorem rall20 (pa pb : Option Addr) (n ca m cb : Nat) (xs ys : Nat -> Nat) (w : World) (hn : n <= 131072) (hm : m <= 131072) (hA : IsFl w pa n xs) (hB : IsFl w pb m ys) :
    Calls Tryz.prog 44 #[.slice pa n ca, .slice pb m cb] w fun e w' => e = .returned (.bool (eqL n m xs ys)) /\ Below w.heap.size w w' := by
  have HA := hid hA
  have HB := hid hB
  have HL := hid (And.intro hn hm)
  clear hA hB hn hm
  by_cases hnm : n = m
  · subst hnm
    have e1 : ((n : Int) != (n : Int)) = false := by simp
    go_enter Tryz.func44, Tryz.ntmps44
    go_wp2
    go_loopw [5] (fun iv wr => ∃ k : Nat, k <= n /\ iv = .int .i64 (k : Nat) /\ Ab w wr /\ ∀ i, i < k -> xs i = ys i) (fun iv _ => n - (intOf iv).toNat)
    case atStart => exact ⟨0, by omega, rfl, Ab.refl w, fun i hi => absurd hi (Nat.not_lt_zero i)⟩
    case round =>
      obtain ⟨k, hk, rfl, ar, g1⟩ := hrel
      have AR := hid ar
      have G1 := hid g1
      clear ar g1
      by_cases hkn : k < n
      · have HK := hid hkn
        have kI : (k : Int) < n := by omega
        have kB : (k : Int) <= 131072 := by have := HL.out; omega
        obtain ⟨x, hx⟩ : ∃ x, xs k = x := ⟨_, rfl⟩
        obtain ⟨y, hy⟩ : ∃ y, ys k = y := ⟨_, rfl⟩
        obtain ⟨b1, o1, rfl⟩ := HA.out.some0 (show 0 < n by omega)
        obtain ⟨b2, o2, rfl⟩ := HB.out.some0 (show 0 < n by omega)
        have X1 : Hid (∀ v, Ab wr v -> v.cell? ⟨b1, o1 + k, none⟩ = some (.float .f64 x)) := fun v a => by rw [<- hx]; exact ((HA.out.below (AR.out.trans a)).at0 hkn).2.2
        have X2 : Hid (∀ v, Ab wr v -> v.cell? ⟨b2, o2 + k, none⟩ = some (.float .f64 y)) := fun v a => by rw [<- hy]; exact ((HB.out.below (AR.out.trans a)).at0 hkn).2.2
        clear hkn hk
        by_cases q : x = y
        · have SS : Hid (∀ v, Calls Tryz.prog 79 #[.float .f64 x, .float .f64 y] v fun e w' => e = .returned (.bool true) /\ Below v.heap.size v w') := fun v => by
            have h := rawSame_any x y v
            rw [show sameB x y = true by unfold sameB; exact decide_eq_true q] at h
            exact h.mono fun _ _ ⟨he, hw⟩ => ⟨he, by rw [hw]; exact Below.refl _ _⟩
          have XE : Hid (xs k = ys k) := by show _ = _; rw [hx, hy, q]
          clear hx hy q
          go_upto_region 6 with fail
          obtain ⟨UU, E, hF1, hF2⟩ := cls wr
          have HU := hid hF2
          have HU1 := hid hF1
          have y1 : ∀ u, (E u).cell? ⟨b1, o1 + k, none⟩ = some (.float .f64 x) := fun u => X1.out _ (hF1 u)
          have y2 : ∀ u, (E u).cell? ⟨b2, o2 + k, none⟩ = some (.float .f64 y) := fun u => X2.out _ (hF1 u)
          have DD0 := HU.out _ (Ab.refl wr).drew
          clear hF1 hF2
          refine region_cls E (by kernel_rfl) (by kernel_rfl) DD0 ?_
          repeat (go_big_quiet_step (first | (with_reducible rfl) | (go_at_call 79; exact calls_cls HU HU1 (SS.out _))))
          refine wpQuiet_nil ?_
          intro z hwz
          obtain ⟨u0, hu⟩ := hwz
          have A2 : Hid (Ab wr z) := by rw [hu]; exact HU1.out u0
          clear hu u0
          clear HU HU1 DD0 y1 y2
          clear E UU
          go_wp2
          refine ⟨⟨k + 1, by have := HK.out; omega, by simp, AR.out.trans A2.out, fun i hi => ?_⟩, by have := HK.out; simp [intOf]; omega⟩
          by_cases l : i < k
          · exact G1.out i l
          · obtain rfl : i = k := by omega
            exact XE.out
        · have SS : Hid (∀ v, Calls Tryz.prog 79 #[.float .f64 x, .float .f64 y] v fun e w' => e = .returned (.bool false) /\ Below v.heap.size v w') := fun v => by
            have h := rawSame_any x y v
            rw [show sameB x y = false by unfold sameB; exact decide_eq_false q] at h
            exact h.mono fun _ _ ⟨he, hw⟩ => ⟨he, by rw [hw]; exact Below.refl _ _⟩
          have NE : Hid (eqL n n xs ys = false) := eqL_no HK.out (by rw [hx, hy]; exact q)
          clear hx hy q
          go_upto_region 6 with fail
          obtain ⟨UU, E, hF1, hF2⟩ := cls wr
          have HU := hid hF2
          have HU1 := hid hF1
          have y1 : ∀ u, (E u).cell? ⟨b1, o1 + k, none⟩ = some (.float .f64 x) := fun u => X1.out _ (hF1 u)
          have y2 : ∀ u, (E u).cell? ⟨b2, o2 + k, none⟩ = some (.float .f64 y) := fun u => X2.out _ (hF1 u)
          have DD0 := HU.out _ (Ab.refl wr).drew
          clear hF1 hF2
          refine region_cls E (by kernel_rfl) (by kernel_rfl) DD0 ?_
          repeat (go_big_quiet_step (first | (with_reducible rfl) | (go_at_call 79; exact calls_cls HU HU1 (SS.out _))))
          refine wpQuiet_nil ?_
          intro z hwz
          obtain ⟨u0, hu⟩ := hwz
          have A2 : Hid (Ab wr z) := by rw [hu]; exact HU1.out u0
          clear hu u0
          clear HU HU1 DD0 y1 y2
          clear E UU
          go_wp2
          go_ret
          exact ⟨by rw [NE.out]; rfl, AR.out.trans A2.out⟩
      · have e6 : n = k := by omega
        subst e6
        have E : Hid (eqL n n xs ys = true) := eqL_yes G1.out
        go_wp2
        go_ret
        exact ⟨by rw [E.out]; rfl, AR.out⟩
  · have e1 : ((n : Int) != (m : Int)) = true := by simp; omega
    have E : Hid (eqL n m xs ys = false) := eqL_len hnm
    clear hnm
    go_enter Tryz.func44, Tryz.ntmps44
    go_wp2
    go_ret
    exact ⟨by rw [E.out]; rfl, Below.refl _ _⟩
theorem rwhole20 (pa pb : Option Addr) (n ca m cb : Nat) (xs ys : Nat -> Int) (w : World) (hn : n <= 131072) (hm : m <= 131072) (hA : Sh.IsI w pa n xs) (hB : Sh.IsI w pb m ys) :
    Calls Tryz.prog 45 #[.slice pa n ca, .slice pb m cb] w fun e w' => e = .returned (.bool (eqL n m xs ys)) /\ Below w.heap.size w w' := by
  have HA := hid hA
  have HB := hid hB
  have HL := hid (And.intro hn hm)
  clear hA hB hn hm
  by_cases hnm : n = m
  · subst hnm
    have e1 : ((n : Int) != (n : Int)) = false := by simp
    go_enter Tryz.func45, Tryz.ntmps45
    go_wp2
    go_loopw [5] (fun iv wr => ∃ k : Nat, k <= n /\ iv = .int .i64 (k : Nat) /\ Ab w wr /\ ∀ i, i < k -> xs i = ys i) (fun iv _ => n - (intOf iv).toNat)
    case atStart => exact ⟨0, by omega, rfl, Ab.refl w, fun i hi => absurd hi (Nat.not_lt_zero i)⟩
    case round =>
      obtain ⟨k, hk, rfl, ar, g1⟩ := hrel
      have AR := hid ar
      have G1 := hid g1
      clear ar g1
      by_cases hkn : k < n
      · have HK := hid hkn
        have kI : (k : Int) < n := by omega
        have kB : (k : Int) <= 131072 := by have := HL.out; omega
        obtain ⟨x, hx⟩ : ∃ x, xs k = x := ⟨_, rfl⟩
        obtain ⟨y, hy⟩ : ∃ y, ys k = y := ⟨_, rfl⟩
        obtain ⟨b1, o1, rfl⟩ := HA.out.some0 (show 0 < n by omega)
        obtain ⟨b2, o2, rfl⟩ := HB.out.some0 (show 0 < n by omega)
        have X1 : Hid (∀ v, Ab wr v -> v.cell? ⟨b1, o1 + k, none⟩ = some (.int .i64 x)) := fun v a => by rw [<- hx]; exact ((HA.out.below (AR.out.trans a)).at0 hkn).2.2
        have X2 : Hid (∀ v, Ab wr v -> v.cell? ⟨b2, o2 + k, none⟩ = some (.int .i64 y)) := fun v a => by rw [<- hy]; exact ((HB.out.below (AR.out.trans a)).at0 hkn).2.2
        clear hkn hk
        by_cases q : x = y
        · have d1 : (x != y) = false := by simp [q]
          have XE : Hid (xs k = ys k) := by show _ = _; rw [hx, hy, q]
          clear hx hy q
          go_upto_region 6 with fail
          obtain ⟨UU, E, hF1, hF2⟩ := cls wr
          have HU := hid hF2
          have HU1 := hid hF1
          have y1 : ∀ u, (E u).cell? ⟨b1, o1 + k, none⟩ = some (.int .i64 x) := fun u => X1.out _ (hF1 u)
          have y2 : ∀ u, (E u).cell? ⟨b2, o2 + k, none⟩ = some (.int .i64 y) := fun u => X2.out _ (hF1 u)
          have DD0 := HU.out _ (Ab.refl wr).drew
          clear hF1 hF2
          refine region_cls E (by kernel_rfl) (by kernel_rfl) DD0 ?_
          repeat (go_big_quiet_step (with_reducible rfl))
          refine wpQuiet_nil ?_
          intro z hwz
          obtain ⟨u0, hu⟩ := hwz
          have A2 : Hid (Ab wr z) := by rw [hu]; exact HU1.out u0
          clear hu u0
          clear HU HU1 DD0 y1 y2
          clear E UU
          go_wp2
          refine ⟨⟨k + 1, by have := HK.out; omega, by simp, AR.out.trans A2.out, fun i hi => ?_⟩, by have := HK.out; simp [intOf]; omega⟩
          by_cases l : i < k
          · exact G1.out i l
          · obtain rfl : i = k := by omega
            exact XE.out
        · have d1 : (x != y) = true := by simp [q]
          have NE : Hid (eqL n n xs ys = false) := eqL_no HK.out (by rw [hx, hy]; exact q)
          clear hx hy q
          go_upto_region 6 with fail
          obtain ⟨UU, E, hF1, hF2⟩ := cls wr
          have HU := hid hF2
          have HU1 := hid hF1
          have y1 : ∀ u, (E u).cell? ⟨b1, o1 + k, none⟩ = some (.int .i64 x) := fun u => X1.out _ (hF1 u)
          have y2 : ∀ u, (E u).cell? ⟨b2, o2 + k, none⟩ = some (.int .i64 y) := fun u => X2.out _ (hF1 u)
          have DD0 := HU.out _ (Ab.refl wr).drew
          clear hF1 hF2
          refine region_cls E (by kernel_rfl) (by kernel_rfl) DD0 ?_
          repeat (go_big_quiet_step (with_reducible rfl))
          refine wpQuiet_nil ?_
          intro z hwz
          obtain ⟨u0, hu⟩ := hwz
          have A2 : Hid (Ab wr z) := by rw [hu]; exact HU1.out u0
          clear hu u0
          clear HU HU1 DD0 y1 y2
          clear E UU
          go_wp2
          go_ret
          exact ⟨by rw [NE.out]; rfl, AR.out.trans A2.out⟩
      · have e6 : n = k := by omega
        subst e6
        have E : Hid (eqL n n xs ys = true) := eqL_yes G1.out
        go_wp2
        go_ret
        exact ⟨by rw [E.out]; rfl, AR.out⟩
  · have e1 : ((n : Int) != (m : Int)) = true := by simp; omega
    have E : Hid (eqL n m xs ys = false) := eqL_len hnm
    clear hnm
    go_enter Tryz.func45, Tryz.ntmps45
    go_wp2
    go_ret
    exact ⟨by rw [E.out]; rfl, Below.refl _ _⟩
end Ss
end Go.Proofs.YtdigecacmibkpaaGreatDoor
