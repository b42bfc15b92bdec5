/-
  Some of the texts of this proof, one behind the other.
-/
import Derived.BigQuiet
import Derived.Deep.QuietTactic
import Derived.Test.YtkckcohemalhiaaGreatDoorRows
import Derived.Deep.OwnRows
import Derived.Deep.Cut
import Derived.Deep.CutRange
import Derived.Deep.AppendLies
import Derived.Deep.AppendSrc
import Derived.OwnWalk
import Derived.Test.YtkckcohemalhiaaGreatDoorRa07
namespace Go.Proofs.YtkckcohemalhiaaGreatDoor
open Go.RowKit
/-- a block that is new: behind all of W, and none of those laid so far -/
def Fresh (W : World) (S : Nat → Option Nat) (b : Nat) : Prop := W.heap.size ≤ b ∧ ∀ i c, S i = some c → c ≠ b
/-- operation i has laid block b -/
def putL (S : Nat → Option Nat) (i b : Nat) : Nat → Option Nat := fun k => if k = i then some b else S k
/-- all blocks of W are as they were, and what was laid lies there -/
def Has (W : World) (sp : Nat → Option (Obj × (Nat → Value))) (S : Nat → Option Nat) (w : World) : Prop := Ab W w ∧ ∀ i b, S i = some b → W.heap.size ≤ b ∧ ∃ o mk, sp i = some (o, mk) ∧ w.heap[b]? = some o
theorem putL_comm (S : Nat → Option Nat) {i j : Nat} (b c : Nat) (h : i ≠ j) : putL (putL S i b) j c = putL (putL S j c) i b := by
  funext k
  unfold putL
  by_cases e : k = j
  · subst e; simp [Ne.symm h]
  · by_cases e2 : k = i
    · subst e2; simp [e]
    · simp [e, e2]
theorem Fresh.put {W : World} {S : Nat → Option Nat} {i b c : Nat} (h : Fresh W S c) (n : b ≠ c) : Fresh W (putL S i b) c :=
  ⟨h.1, fun k d e => by
    unfold putL at e
    by_cases q : k = i
    · rw [if_pos q] at e; injection e with e; exact fun x => n (e.trans x)
    · rw [if_neg q] at e; exact h.2 k d e⟩
theorem Fresh.of_put {W : World} {S : Nat → Option Nat} {i b c : Nat} (h : Fresh W (putL S i b) c) (hi : S i = none) : Fresh W S c ∧ b ≠ c := by
  refine ⟨⟨h.1, fun k d e => h.2 k d ?_⟩, h.2 i b (by simp [putL])⟩
  unfold putL
  by_cases q : k = i
  · subst q; rw [hi] at e; cases e
  · rw [if_neg q]; exact e
theorem Has.lt {W : World} {sp : Nat → Option (Obj × (Nat → Value))} {S : Nat → Option Nat} {w : World} (h : Has W sp S w) {i b : Nat} (e : S i = some b) : b < w.heap.size := by
  obtain ⟨_, o, mk, _, q⟩ := h.2 i b e
  exact lt_of_block q
theorem Has.fresh {W : World} {sp : Nat → Option (Obj × (Nat → Value))} {S : Nat → Option Nat} {w : World} (h : Has W sp S w) : Fresh W S w.heap.size :=
  ⟨h.1.size, fun i c e => by have := h.lt e; omega⟩
theorem Has.lay {W : World} {sp : Nat → Option (Obj × (Nat → Value))} {S : Nat → Option Nat} {w : World} (h : Has W sp S w) {i : Nat} {o : Obj} {mk : Nat → Value} (e : sp i = some (o, mk)) : Has W sp (putL S i w.heap.size) (w.alloc o) :=
  ⟨h.1.alloc o, fun k b q => by
    unfold putL at q
    by_cases c : k = i
    · subst c
      rw [if_pos rfl] at q
      injection q with q
      subst q
      exact ⟨h.1.size, o, mk, e, heap_alloc_new _ _⟩
    · rw [if_neg c] at q
      obtain ⟨h1, o', mk', h2, h3⟩ := h.2 k b q
      exact ⟨h1, o', mk', h2, Ab.heap (bl1 _ _) h3⟩⟩
section
variable {P : Program} {ops : Array Oper} {md : Region.Mode} {W : World} {sp : Nat → Option (Obj × (Nat → Value))}
/-- an operation that leaves its world, one value in all of them -/
def YF (P : Program) (ops : Array Oper) (W : World) (o : Oper) (v : Value) (a : Act) : Prop :=
  (Region.wanted o (yielded ops a.tmps) = true ∧ ∀ w, Ab W w → (execOp a.eval o).run P w = .ok (.value v) w) ∨ (Region.wanted o (yielded ops a.tmps) = false ∧ v = undef)
/-- an operation that lays a block -/
def LF (P : Program) (ops : Array Oper) (W : World) (o : Oper) (ob : Obj) (mk : Nat → Value) (a : Act) : Prop :=
  Region.wanted o (yielded ops a.tmps) = true ∧ ∀ w, Ab W w → (execOp a.eval o).run P w = .ok (.value (mk w.heap.size)) (w.alloc ob)
theorem YF.same {o : Oper} {v : Value} {a a' : Act} (h : YF P ops W o v a) (he : execOp a'.eval o = execOp a.eval o) (hw : Region.wanted o (yielded ops a'.tmps) = Region.wanted o (yielded ops a.tmps)) : YF P ops W o v a' := by
  unfold YF at *
  rw [he, hw]
  exact h
theorem LF.same {o : Oper} {ob : Obj} {mk : Nat → Value} {a a' : Act} (h : LF P ops W o ob mk a) (he : execOp a'.eval o = execOp a.eval o) (hw : Region.wanted o (yielded ops a'.tmps) = Region.wanted o (yielded ops a.tmps)) : LF P ops W o ob mk a' := by
  unfold LF at *
  rw [he, hw]
  exact h
theorem YF.one {o : Oper} {v u : Value} {a : Act} (h : YF P ops W o v a) (k : YF P ops W o u a) : v = u := by
  rcases h with ⟨w1, h⟩ | ⟨w1, rfl⟩
  · rcases k with ⟨_, k⟩ | ⟨w2, _⟩
    · have := (h W (Ab.refl W)).symm.trans (k W (Ab.refl W))
      injection this with e
      injection e
    · rw [w1] at w2; cases w2
  · rcases k with ⟨w2, _⟩ | ⟨_, rfl⟩
    · rw [w1] at w2; cases w2
    · rfl
def fOp (P : Program) (ops : Array Oper) (W : World) (sp : Nat → Option (Obj × (Nat → Value))) (i : Nat) (K : Act → (Nat → Option Nat) → Prop) (a : Act) (S : Nat → Option Nat) : Prop :=
  match ops[i]? with
  | none => K a S
  | some o =>
    match sp i with
    | none => ∃ v, YF P ops W o v a ∧ K (a.put o.dst v) S
    | some (ob, mk) => LF P ops W o ob mk a ∧ ∀ b, Fresh W S b → K (a.put o.dst (mk b)) (putL S i b)
theorem fOp_mono {i : Nat} {K K' : Act → (Nat → Option Nat) → Prop} {a : Act} {S : Nat → Option Nat} (h : ∀ a S, K a S → K' a S) (hh : fOp P ops W sp i K a S) : fOp P ops W sp i K' a S := by
  unfold fOp at *
  cases ho : ops[i]? with
  | none => simp only [ho] at hh ⊢; exact h _ _ hh
  | some o =>
    cases hs : sp i with
    | none =>
      simp only [ho, hs] at hh ⊢
      obtain ⟨v, h1, h2⟩ := hh
      exact ⟨v, h1, h _ _ h2⟩
    | some x =>
      simp only [ho, hs] at hh ⊢
      exact ⟨hh.1, fun b hb => h _ _ (hh.2 b hb)⟩
/-- whatever order is picked from here on -/
def wpAnyF (P : Program) (md : Region.Mode) (ops : Array Oper) (W : World) (sp : Nat → Option (Obj × (Nat → Value))) (Q : Act → (Nat → Option Nat) → Prop) : Nat → Array Bool → Act → (Nat → Option Nat) → Prop
  | 0, listed, a, S => Region.ready md ops listed = [] ∧ Q a S
  | fuel + 1, listed, a, S =>
    (Region.ready md ops listed = [] → Q a S) ∧
    ∀ i ∈ Region.ready md ops listed, fOp P ops W sp i (wpAnyF P md ops W sp Q fuel (listed.setIfInBounds i true)) a S
/-- what isn't done has laid nothing; what is laid ends somewhere -/
def Tidy (W : World) (listed : Array Bool) (S : Nat → Option Nat) : Prop := (∀ k, listed.getD k true = false → S k = none) ∧ ∃ n, W.heap.size ≤ n ∧ ∀ i c, S i = some c → c < n
theorem Tidy.fresh {listed : Array Bool} {S : Nat → Option Nat} (h : Tidy W listed S) : ∃ b, Fresh W S b := by
  obtain ⟨_, n, h1, h2⟩ := h
  exact ⟨n, h1, fun i c e => by have := h2 i c e; omega⟩
theorem Tidy.set {listed : Array Bool} {S : Nat → Option Nat} (h : Tidy W listed S) (j : Nat) : Tidy W (listed.setIfInBounds j true) S :=
  ⟨fun k hk => by
    by_cases e : j = k
    · subst e
      by_cases l : j < listed.size
      · simp [l] at hk
      · exact h.1 j (by rw [Array.setIfInBounds_eq_of_size_le (by omega)] at hk; exact hk)
    · rw [getD_set_ne true e] at hk; exact h.1 k hk, h.2⟩
theorem Tidy.lay {listed : Array Bool} {S : Nat → Option Nat} (h : Tidy W listed S) {j : Nat} (hj : listed.getD j true = false) (b : Nat) : Tidy W (listed.setIfInBounds j true) (putL S j b) := by
  obtain ⟨h1, n, h2, h3⟩ := h
  refine ⟨fun k hk => ?_, max n (b + 1), by omega, fun i c e => ?_⟩
  · by_cases e : j = k
    · subst e
      by_cases l : j < listed.size
      · simp [l] at hk
      · simp [l] at hj
    · rw [getD_set_ne true e] at hk
      unfold putL
      rw [if_neg (Ne.symm e)]
      exact h1 k hk
  · unfold putL at e
    by_cases q : i = j
    · rw [if_pos q] at e; injection e with e; omega
    · rw [if_neg q] at e; have := h3 i c e; omega
/-- one operation apart from another, which leaves its world: it may come first -/
theorem fOp_putY {j : Nat} {oi oj : Oper} {v : Value} (hj : ops[j]? = some oj) (hap : oi.apart ops oj = true) (hsi : ∀ cs b, oi.op ≠ .select cs b) (hsj : ∀ cs b, oj.op ≠ .select cs b)
    {K : Act → (Nat → Option Nat) → Prop} {a : Act} {S : Nat → Option Nat} (hy : YF P ops W oi v a) (h : fOp P ops W sp j K (a.put oi.dst v) S) :
    fOp P ops W sp j (fun a' S' => YF P ops W oi v a' ∧ K (a'.put oi.dst v) S') a S := by
  obtain ⟨h1, h2, h3⟩ := Oper.apart_spec hap
  have keep : ∀ u, YF P ops W oi v (a.put oj.dst u) := fun u => hy.same (execOp_put oi hsi a oj.dst u h3) (wanted_put oi a oj.dst u h3)
  unfold fOp at *
  cases hs : sp j with
  | none =>
    simp only [hj, hs] at h ⊢
    obtain ⟨u, hu, hk⟩ := h
    exact ⟨u, hu.same (execOp_put oj hsj a oi.dst v h1).symm (wanted_put oj a oi.dst v h1).symm, keep u, by rw [← Act.put_comm a v u h2]; exact hk⟩
  | some x =>
    simp only [hj, hs] at h ⊢
    exact ⟨h.1.same (execOp_put oj hsj a oi.dst v h1).symm (wanted_put oj a oi.dst v h1).symm, fun b hb => ⟨keep _, by rw [← Act.put_comm a v _ h2]; exact h.2 b hb⟩⟩
/-- .. which lays a block -/
theorem fOp_putL {i j : Nat} {oi oj : Oper} {ob : Obj} {mk : Nat → Value} (hij : i ≠ j) (hj : ops[j]? = some oj) (hap : oi.apart ops oj = true) (hsi : ∀ cs b, oi.op ≠ .select cs b) (hsj : ∀ cs b, oj.op ≠ .select cs b)
    {K : Act → (Nat → Option Nat) → Prop} {a : Act} {S : Nat → Option Nat} (hf : ∃ b, Fresh W S b) (hSj : S j = none) (hy : LF P ops W oi ob mk a) (h : ∀ b, Fresh W S b → fOp P ops W sp j K (a.put oi.dst (mk b)) (putL S i b)) :
    fOp P ops W sp j (fun a' S' => LF P ops W oi ob mk a' ∧ ∀ b, Fresh W S' b → K (a'.put oi.dst (mk b)) (putL S' i b)) a S := by
  obtain ⟨h1, h2, h3⟩ := Oper.apart_spec hap
  have keep : ∀ u, LF P ops W oi ob mk (a.put oj.dst u) := fun u => hy.same (execOp_put oi hsi a oj.dst u h3) (wanted_put oi a oj.dst u h3)
  obtain ⟨b0, hb0⟩ := hf
  unfold fOp at *
  cases hs : sp j with
  | none =>
    simp only [hj, hs] at h ⊢
    obtain ⟨u, hu, _⟩ := h b0 hb0
    have hu' : YF P ops W oj u a := hu.same (execOp_put oj hsj a oi.dst _ h1).symm (wanted_put oj a oi.dst _ h1).symm
    refine ⟨u, hu', keep u, fun b hb => ?_⟩
    obtain ⟨u2, hu2, hk⟩ := h b hb
    have e : u2 = u := YF.one (hu2.same (execOp_put oj hsj a oi.dst _ h1).symm (wanted_put oj a oi.dst _ h1).symm) hu'
    subst e
    rw [← Act.put_comm a (mk b) u2 h2]
    exact hk
  | some x =>
    simp only [hj, hs] at h ⊢
    refine ⟨(h b0 hb0).1.same (execOp_put oj hsj a oi.dst _ h1).symm (wanted_put oj a oi.dst _ h1).symm, fun c hc => ⟨keep _, fun b hb => ?_⟩⟩
    obtain ⟨q1, q2⟩ := hb.of_put hSj
    have := (h b q1).2 c (hc.put (Ne.symm q2))
    rw [putL_comm S b c hij, Act.put_comm a (mk b) _ h2] at this
    exact this
theorem firstY {Q : Act → (Nat → Option Nat) → Prop} {i : Nat} {oi : Oper} {v : Value} (hi : ops[i]? = some oi) (hsp : sp i = none) (hsel : ∀ (j : Nat) (o : Oper) cs b, ops[j]? = some o → o.op ≠ .select cs b) :
    ∀ (fuel : Nat) (listed : Array Bool) (a : Act) (S : Nat → Option Nat),
      (∀ j oj, ops[j]? = some oj → j ≠ i → listed.getD j true = false → (∀ e ∈ oj.after, Region.binds md e = true → e.on ≠ i) → oi.apart ops oj = true) →
      i ∈ Region.ready md ops listed → YF P ops W oi v a →
      wpAnyF P md ops W sp Q fuel (listed.setIfInBounds i true) (a.put oi.dst v) S → wpAnyF P md ops W sp Q (fuel + 1) listed a S := by
  have go : ∀ (K : Act → (Nat → Option Nat) → Prop) (a : Act) (S : Nat → Option Nat), YF P ops W oi v a → K (a.put oi.dst v) S → fOp P ops W sp i K a S := fun K a S hy h => by
    unfold fOp; simp only [hi, hsp]; exact ⟨v, hy, h⟩
  intro fuel
  induction fuel with
  | zero =>
    intro listed a S _ hr hy H
    refine ⟨fun h => (by rw [h] at hr; cases hr), fun j hj => ?_⟩
    by_cases hji : j = i
    · subst hji; exact go _ _ _ hy H
    · have := ready_mono hj hji
      rw [H.1] at this
      cases this
  | succ fuel ih =>
    intro listed a S hfree hr hy H
    refine ⟨fun h => (by rw [h] at hr; cases hr), fun j hj => ?_⟩
    by_cases hji : j = i
    · subst hji; exact go _ _ _ hy H
    · have h1 := H.2 j (ready_mono hj hji)
      obtain ⟨hjun, oj, hoj, hall⟩ := mem_ready.1 hj
      have hnot : ∀ e ∈ oj.after, Region.binds md e = true → e.on ≠ i := fun e he hb heq => by
        have h1 := hall e he hb
        have h0 := (mem_ready.1 hr).1
        rw [heq] at h1
        rcases Nat.lt_or_ge i listed.size with h' | h'
        · simp [h'] at h0 h1; rw [h0] at h1; cases h1
        · simp [Array.getElem?_eq_none h'] at h1
      have h2 := fOp_putY hoj (hfree j oj hoj hji hjun hnot) (fun cs b => hsel i oi cs b hi) (fun cs b => hsel j oj cs b hoj) hy h1
      have hfree' : ∀ k ok, ops[k]? = some ok → k ≠ i → (listed.setIfInBounds j true).getD k true = false →
          (∀ e ∈ ok.after, Region.binds md e = true → e.on ≠ i) → oi.apart ops ok = true := fun k ok hk hki hun hno => by
        refine hfree k ok hk hki ?_ hno
        by_cases hjk : j = k
        · subst hjk; exact hjun
        · rw [getD_set_ne true hjk] at hun; exact hun
      refine fOp_mono (fun a' S' h3 => ih (listed.setIfInBounds j true) a' S' hfree' (ready_mono hr (Ne.symm hji)) h3.1 ?_) h2
      rw [Array.setIfInBounds_comm _ _ hji]
      exact h3.2
theorem firstL {Q : Act → (Nat → Option Nat) → Prop} {i : Nat} {oi : Oper} {ob : Obj} {mk : Nat → Value} (hi : ops[i]? = some oi) (hsp : sp i = some (ob, mk)) (hsel : ∀ (j : Nat) (o : Oper) cs b, ops[j]? = some o → o.op ≠ .select cs b) :
    ∀ (fuel : Nat) (listed : Array Bool) (a : Act) (S : Nat → Option Nat), Tidy W listed S →
      (∀ j oj, ops[j]? = some oj → j ≠ i → listed.getD j true = false → (∀ e ∈ oj.after, Region.binds md e = true → e.on ≠ i) → oi.apart ops oj = true) →
      i ∈ Region.ready md ops listed → LF P ops W oi ob mk a →
      (∀ b, Fresh W S b → wpAnyF P md ops W sp Q fuel (listed.setIfInBounds i true) (a.put oi.dst (mk b)) (putL S i b)) → wpAnyF P md ops W sp Q (fuel + 1) listed a S := by
  have go : ∀ (K : Act → (Nat → Option Nat) → Prop) (a : Act) (S : Nat → Option Nat), LF P ops W oi ob mk a → (∀ b, Fresh W S b → K (a.put oi.dst (mk b)) (putL S i b)) → fOp P ops W sp i K a S := fun K a S hy h => by
    unfold fOp; simp only [hi, hsp]; exact ⟨hy, h⟩
  intro fuel
  induction fuel with
  | zero =>
    intro listed a S ty _ hr hy H
    refine ⟨fun h => (by rw [h] at hr; cases hr), fun j hj => ?_⟩
    by_cases hji : j = i
    · subst hji; exact go _ _ _ hy H
    · obtain ⟨b, hb⟩ := ty.fresh
      have := ready_mono hj hji
      rw [(H b hb).1] at this
      cases this
  | succ fuel ih =>
    intro listed a S ty hfree hr hy H
    refine ⟨fun h => (by rw [h] at hr; cases hr), fun j hj => ?_⟩
    by_cases hji : j = i
    · subst hji; exact go _ _ _ hy H
    · have h1 := fun b hb => (H b hb).2 j (ready_mono hj hji)
      obtain ⟨hjun, oj, hoj, hall⟩ := mem_ready.1 hj
      have hnot : ∀ e ∈ oj.after, Region.binds md e = true → e.on ≠ i := fun e he hb heq => by
        have h1 := hall e he hb
        have h0 := (mem_ready.1 hr).1
        rw [heq] at h1
        rcases Nat.lt_or_ge i listed.size with h' | h'
        · simp [h'] at h0 h1; rw [h0] at h1; cases h1
        · simp [Array.getElem?_eq_none h'] at h1
      have hap := hfree j oj hoj hji hjun hnot
      have hfree' : ∀ k ok, ops[k]? = some ok → k ≠ i → (listed.setIfInBounds j true).getD k true = false →
          (∀ e ∈ ok.after, Region.binds md e = true → e.on ≠ i) → oi.apart ops ok = true := fun k ok hk hki hun hno => by
        refine hfree k ok hk hki ?_ hno
        by_cases hjk : j = k
        · subst hjk; exact hjun
        · rw [getD_set_ne true hjk] at hun; exact hun
      have h2 := fOp_putL (Ne.symm hji) hoj hap (fun cs b => hsel i oi cs b hi) (fun cs b => hsel j oj cs b hoj) ty.fresh (ty.1 j hjun) hy h1
      -- what j leaves is tidy
      have h4 : fOp P ops W sp j (fun a' S' => Tidy W (listed.setIfInBounds j true) S' ∧ LF P ops W oi ob mk a' ∧ ∀ b, Fresh W S' b → wpAnyF P md ops W sp Q fuel ((listed.setIfInBounds i true).setIfInBounds j true) (a'.put oi.dst (mk b)) (putL S' i b)) a S := by
        unfold fOp at h2 ⊢
        cases hs : sp j with
        | none =>
          simp only [hoj, hs] at h2 ⊢
          obtain ⟨u, hu, hk⟩ := h2
          exact ⟨u, hu, ty.set j, hk⟩
        | some x =>
          simp only [hoj, hs] at h2 ⊢
          exact ⟨h2.1, fun b hb => ⟨ty.lay hjun b, h2.2 b hb⟩⟩
      refine fOp_mono (fun a' S' h3 => ih (listed.setIfInBounds j true) a' S' h3.1 hfree' (ready_mono hr (Ne.symm hji)) h3.2.1 (fun b hb => ?_)) h4
      rw [Array.setIfInBounds_comm _ _ hji]
      exact h3.2.2 b hb
/-- the walk in the order of the text -/
def wpFree (P : Program) (ops : Array Oper) (W : World) (sp : Nat → Option (Obj × (Nat → Value))) (Q : Act → (Nat → Option Nat) → Prop) : List Oper → Nat → Act → (Nat → Option Nat) → Prop
  | [], _, a, S => Q a S
  | o :: rest, k, a, S =>
    match sp k with
    | none => ∃ v, YF P ops W o v a ∧ wpFree P ops W sp Q rest (k + 1) (a.put o.dst v) S
    | some (ob, mk) => LF P ops W o ob mk a ∧ ∀ b, Fresh W S b → wpFree P ops W sp Q rest (k + 1) (a.put o.dst (mk b)) (putL S k b)
theorem wpAnyF_lex {Q : Act → (Nat → Option Nat) → Prop} (hs : Region.noSelect ops = true) : ∀ (l : List Oper) (k : Nat) (listed : Array Bool) (a : Act) (S : Nat → Option Nat), (∀ j, l[j]? = ops[k + j]?) → Tidy W listed S →
    Region.lexFrom md ops l.length k listed = true → wpFree P ops W sp Q l k a S → wpAnyF P md ops W sp Q l.length listed a S
  | [], _, _, _, _, _, _, hB, h => ⟨by simpa [Region.lexFrom] using hB, h⟩
  | o :: l, k, listed, a, S, hl, ty, hB, h => by
    have h0 : ops[k]? = some o := by simpa using (hl 0).symm
    simp only [List.length_cons, Region.lexFrom, Bool.and_eq_true] at hB
    obtain ⟨⟨hr, hf⟩, hB'⟩ := hB
    have hr' : k ∈ Region.ready md ops listed := by simpa using hr
    have hl' : ∀ j, l[j]? = ops[k + 1 + j]? := fun j => by have := hl (j + 1); simpa [Nat.add_assoc, Nat.add_comm 1 j] using this
    cases hsp : sp k with
    | none =>
      simp only [wpFree, hsp] at h
      obtain ⟨v, hy, hK⟩ := h
      exact firstY h0 hsp (Region.noSelect_spec hs) l.length listed a S (Region.free_spec h0 hf) hr' hy
        (wpAnyF_lex hs l (k + 1) _ _ _ hl' (ty.set k) hB' hK)
    | some x =>
      obtain ⟨ob, mk⟩ := x
      simp only [wpFree, hsp] at h
      exact firstL h0 hsp (Region.noSelect_spec hs) l.length listed a S ty (Region.free_spec h0 hf) hr' h.1
        (fun b hb => wpAnyF_lex hs l (k + 1) _ _ _ hl' (ty.lay (mem_ready.1 hr').1 b) hB' (h.2 b hb))
theorem wpOp_of_fOp {i : Nat} {a : Act} {S : Nat → Option Nat} {K : Act → (Nat → Option Nat) → Prop} {K' : Act → World → Prop} {Q' : Exit → Act → World → Prop} {w : World} (hC : Has W sp S w) (h : ∀ a S w', Has W sp S w' → K a S → K' a w') (hh : fOp P ops W sp i K a S) : wpOp P ops Q' i K' a w := by
  unfold fOp at hh
  unfold wpOp
  cases ho : ops[i]? with
  | none => simp only [ho] at hh ⊢; exact h _ _ _ hC hh
  | some o =>
    cases hs : sp i with
    | none =>
      simp only [ho, hs] at hh ⊢
      obtain ⟨v, hy, hk⟩ := hh
      rcases hy with ⟨w1, hv⟩ | ⟨w1, rfl⟩
      · rw [if_pos w1]
        refine .inl ?_
        unfold Oper.wp
        rw [hv w hC.1]
        exact h _ _ _ hC hk
      · rw [if_neg (by rw [w1]; exact Bool.false_ne_true)]
        exact h _ _ _ hC hk
    | some x =>
      obtain ⟨ob, mk⟩ := x
      simp only [ho, hs] at hh ⊢
      obtain ⟨⟨w1, hv⟩, hk⟩ := hh
      rw [if_pos w1]
      refine .inl ?_
      unfold Oper.wp
      rw [hv w hC.1]
      exact h _ _ _ (hC.lay hs) (hk _ hC.fresh)
end
/-- each of the first n operations is done as in the whole region -/
theorem fOp_head {P : Program} {md : Region.Mode} {ops hd : Array Oper} {W : World} {sp : Nat → Option (Obj × (Nat → Value))} {n : Nat} (hhd : ∀ i, i < n → hd[i]? = ops[i]?) (hb : backB md ops n = true) {i : Nat} (hi : i < n) {K : Act → (Nat → Option Nat) → Prop} {a : Act} {S : Nat → Option Nat} (h : fOp P hd W sp i K a S) : fOp P ops W sp i K a S := by
  unfold fOp at *
  rw [hhd i hi] at h
  cases ho : ops[i]? with
  | none => rw [ho] at h; exact h
  | some o =>
    have e : Region.wanted o (yielded hd a.tmps) = Region.wanted o (yielded ops a.tmps) := by
      unfold Region.wanted
      cases hg : o.guard with
      | none => rfl
      | some jb =>
        obtain ⟨j, b⟩ := jb
        have lt := (back_spec hb hi ho).2 j b hg
        show (yielded hd a.tmps j == some b) = (yielded ops a.tmps j == some b)
        unfold yielded
        rw [hhd j lt]
    simp only [ho] at h ⊢
    cases hs : sp i with
    | none =>
      simp only [hs] at h ⊢
      unfold YF at *
      rw [e] at h
      exact h
    | some x =>
      simp only [hs] at h ⊢
      unfold LF at *
      rw [e] at h
      exact h
theorem wpAny_of_headF {P : Program} {md : Region.Mode} {ops hd : Array Oper} {W : World} {sp : Nat → Option (Obj × (Nat → Value))} {n : Nat} {g : Nat} {Q1 : Act → (Nat → Option Nat) → Prop} {Q' : Exit → Act → World → Prop} (hhd : ∀ i, i < n → hd[i]? = ops[i]?) (hsz : hd.size = n) (hn : n < ops.size) (hb : backB md ops n = true) (hs : Region.sinkB md ops n = true) (hc : Region.chainB md ops n = true)
    (hL : ∀ a S w, Has W sp S w → Q1 a S → wpAny P md ops Q' g (finA ops.size n) a w) :
    ∀ (fuel : Nat) (listed lh : Array Bool) (a : Act) (S : Nat → Option Nat) (w : World), Has W sp S w → HeadInv md ops n listed → lh.size = n → (∀ i, i < n → lh.getD i true = listed.getD i true) →
      wpAnyF P md hd W sp Q1 fuel lh a S → wpAny P md ops Q' (fuel + g) listed a w := by
  intro fuel
  induction fuel with
  | zero =>
    intro listed lh a S w hC inv hl he h
    have hls : n ≤ listed.size := by rw [inv.size]; omega
    rcases some_ready (by omega) hb hls with all | ⟨i, hi, hr⟩
    · rw [Nat.zero_add, fin_of hn inv all]
      exact hL a S w hC h.2
    · have := (ready_head hhd hb hl hls he hi).2 hr
      rw [h.1] at this
      cases this
  | succ fuel ih =>
    intro listed lh a S w hC inv hl he h
    have hls : n ≤ listed.size := by rw [inv.size]; omega
    rcases some_ready (by omega) hb hls with all | ⟨i0, hi0, hr0⟩
    · have no : Region.ready md hd lh = [] := by
        rw [List.eq_nil_iff_forall_not_mem]
        intro i hi
        obtain ⟨u, o, ho, _⟩ := mem_ready.1 hi
        have lt : i < n := by rw [← hsz]; exact (Array.getElem?_eq_some_iff.1 ho).1
        rw [he i lt, all i lt] at u
        cases u
      rw [Nat.add_comm (fuel + 1) g, fin_of hn inv all]
      exact wpAny_more g (fuel + 1) _ a w (hL a S w hC (h.1 no))
    · rw [show fuel + 1 + g = (fuel + g) + 1 by omega]
      refine ⟨fun h0 => (by rw [h0] at hr0; cases hr0), fun i hi => ?_⟩
      have lt : i < n := by
        by_cases c : i < n
        · exact c
        · exact absurd hi (tail_waits hs hc hn inv _ i0 rfl hi0 (mem_ready.1 hr0).1 i (by omega))
      have hq := fOp_head hhd hb lt (h.2 i ((ready_head hhd hb hl hls he lt).2 hi))
      refine wpOp_of_fOp hC (fun a' S' w' hC' h' => ih _ _ a' S' w' hC' (inv.set hi lt) (by simp [hl]) (fun j hj => ?_) h') hq
      by_cases e : i = j
      · subst e
        simp [hl, lt, show i < listed.size by omega]
      · rw [getD_set_ne true e, getD_set_ne true e, he j hj]
/-- a region of which the first n operations lay blocks or leave the world, and the others wait for all ahead of them -/
theorem region_free {P : Program} {id : Nat} {Q : Exit → Act → World → Prop} {a : Act} {w : World} {l : List Oper} (n : Nat) (sp : Nat → Option (Obj × (Nat → Value))) (hm : P.follows .mixedOrders = true) (hB : Region.lexB .any (l.take n).toArray = true) (hT : tailB l.toArray n = true)
    (h : wpFree P (l.take n).toArray w.drew sp (fun a' S => ∀ w', Has w.drew sp S w' → wpList P l.toArray Q (l.drop n) a' w') (l.take n) 0 a (fun _ => none)) : (Code.region id l.toArray true).wp P Q a w := by
  simp only [tailB, Bool.and_eq_true, decide_eq_true_eq] at hT
  obtain ⟨⟨⟨⟨hn, hb⟩, hs⟩, hc⟩, hq⟩ := hT
  have hn' : n < l.length := by simpa using hn
  have htl : (l.take n).toArray.size = n := by simp; omega
  have hdl : (l.drop n).length = l.toArray.size - n := by simp
  refine wp_region_any hm ?_
  simp only [Region.lexB, Bool.and_eq_true] at hB
  have H := wpAnyF_lex (P := P) (W := w.drew) (sp := sp) (md := .any) hB.1 (l.take n) 0 (Array.replicate (l.take n).toArray.size false) a (fun _ => none) (by simp) ⟨fun _ _ => rfl, w.drew.heap.size, Nat.le_refl _, fun i c e => by cases e⟩ (by simpa using hB.2) h
  have inv0 : HeadInv .any l.toArray n (Array.replicate l.toArray.size false) :=
    ⟨by simp, fun j oj _ hl => (by rw [getD_replicate_false] at hl; cases hl), fun t _ ht => getD_in (by simpa using ht) (getD_replicate_false _ _)⟩
  have := wpAny_of_headF (P := P) (Q' := Q) (g := l.toArray.size - n) (hd := (l.take n).toArray) (ops := l.toArray) (fun i hi => by simp [hi]) htl hn hb hs hc
    (fun a' S' w' hC' h' => by
      have := wpAny_of_seq (P := P) (md := .any) (ops := l.toArray) (Q' := Q) (l.drop n) n (finA l.toArray.size n) a' w' (fun j => by simp) (by rw [hdl]; exact hq) (h' w' hC')
      rwa [hdl] at this)
    (l.take n).length _ _ a (fun _ => none) w.drew ⟨Ab.refl _, fun i b e => by cases e⟩ inv0 (by simpa using htl) (fun i hi => by
      rw [getD_in (listed := Array.replicate l.toArray.size false) (by simp; omega) (getD_replicate_false _ _)]
      exact getD_in (by rw [Array.size_replicate]; omega) (getD_replicate_false _ _)) H
  have e : (l.take n).length + (l.toArray.size - n) = l.toArray.size := by simp; omega
  rw [e] at this
  exact this
end Go.Proofs.YtkckcohemalhiaaGreatDoor

namespace Go.Proofs.YtkckcohemalhiaaGreatDoor
open Go.RowKit
/-- operations that yield a value, and enter no function -/
def plainB : Op → Bool
  | .move _ | .assign _ | .pick _ _ _ | .build _ _ | .load _ _ | .binOp _ _ _ _ _ | .unOp _ _ _ | .convert _ _ _ | .slice _ _ _ _ _ | .fieldAddr _ _ _ | .field _ _ _ | .indexAddr _ _ _ | .index _ _ _ | .extract _ _ => true
  | _ => false
theorem val_only {P : Program} {s : Sem Value} {w w' : World} {n : Next} (e : (do pure (Next.value (← s)) : Sem Next).run P w = .ok n w') : ∃ x, n = .value x := by
  rw [Sem.run_bind] at e
  cases h : s.run P w with
  | ok x w1 =>
    rw [h] at e
    simp at e
    exact ⟨x, e.1.symm⟩
  | halt x w1 => rw [h] at e; simp at e
theorem val_only2 {P : Program} {α : Type} {s : Sem α} {f : α → Value} {w w' : World} {n : Next} (e : ((s.run P w).andThen fun x w => Result.ok (Next.value (f x)) w) = .ok n w') : ∃ x, n = .value x := by
  cases h : s.run P w with
  | ok x w1 =>
    rw [h] at e
    simp at e
    exact ⟨f x, e.1.symm⟩
  | halt x w1 => rw [h] at e; simp at e
theorem plain_value {P : Program} {ρ : Operand → Value} {o : Oper} {w w' : World} {n : Next} (h : plainB o.op = true) (e : (execOp ρ o).run P w = .ok n w') : ∃ x, n = .value x := by
  unfold execOp at e
  cases ho : o.op <;> rw [ho] at h e <;> first | (simp [plainB] at h; done) | exact val_only e | (simp at e; first | exact ⟨_, e.1.symm⟩ | exact val_only2 (f := fun b => if b = true then ρ _ else ρ _) e)
section
variable {P : Program} {ops : Array Oper} {W : World} {sp : Nat → Option (Obj × (Nat → Value))} {Q : Act → (Nat → Option Nat) → Prop} {o : Oper} {rest : List Oper} {k : Nat} {a : Act} {S : Nat → Option Nat}
theorem wpFree_one {U : Type} {F : U → World} (HF : Hid (∀ w', Ab W w' → ∃ u, w' = F u)) (hs : sp k = none) (hp : plainB o.op = true) (h : wpQuiet P ops (fun w' => ∃ u, w' = F u) (fun a' => wpFree P ops W sp Q rest (k + 1) a' S) [o] a) : wpFree P ops W sp Q (o :: rest) k a S := by
  simp only [wpFree, hs]
  simp only [wpQuiet] at h
  by_cases c : Region.wanted o (yielded ops a.tmps) = true
  · rw [if_pos c] at h
    obtain ⟨v, h1, h2⟩ := h
    refine ⟨v, .inl ⟨c, fun w hw => ?_⟩, h2⟩
    have q := h1 w (HF.out w hw)
    unfold Oper.quietAt at q
    cases e : (execOp a.eval o).run P w with
    | ok n w' =>
      obtain ⟨x, rfl⟩ := plain_value hp e
      rw [e] at q
      obtain ⟨q1, q2⟩ := q
      rw [q1, q2]
    | halt x w' => rw [e] at q; exact absurd q (by simp [Oper.quietUpon])
  · rw [if_neg c] at h
    exact ⟨undef, .inr ⟨by simpa using c, rfl⟩, h⟩
theorem wpFree_lay {ob : Obj} {mk : Nat → Value} (hs : sp k = some (ob, mk)) (hw : Region.wanted o (yielded ops a.tmps) = true) (hr : ∀ w, Ab W w → (execOp a.eval o).run P w = .ok (.value (mk w.heap.size)) (w.alloc ob))
    (h : ∀ b, Fresh W S b → wpFree P ops W sp Q rest (k + 1) (a.put o.dst (mk b)) (putL S k b)) : wpFree P ops W sp Q (o :: rest) k a S := by
  simp only [wpFree, hs]
  exact ⟨⟨hw, hr⟩, h⟩
theorem run_val {s : Sem Value} {w w' : World} {x : Value} (h : s.run P w = .ok x w') : (do pure (Next.value (← s)) : Sem Next).run P w = .ok (.value x) w' := by
  rw [Sem.run_bind, h]
  rfl
theorem lay_make {t : TypeId} {x y : Operand} {vx vy : Value} {mk : Nat → Value} {ob : Obj} (ho : o.op = .makeSlice t x y) (hx : a.eval x = vx) (hy : a.eval y = vy) (M : ∀ w : World, (Instr.makeSlice t vx vy).run P w = .ok (mk w.heap.size) (w.alloc ob)) :
    ∀ w, Ab W w → (execOp a.eval o).run P w = .ok (.value (mk w.heap.size)) (w.alloc ob) := by
  intro w _
  unfold execOp
  rw [ho]
  simp only [hx, hy]
  exact run_val (M w)
theorem lay_alloc {t : TypeId} {mk : Nat → Value} {ob : Obj} (ho : o.op = .alloc t) (M : ∀ w : World, (Instr.alloc t true (.tuple #[])).run P w = .ok (mk w.heap.size) (w.alloc ob)) :
    ∀ w, Ab W w → (execOp a.eval o).run P w = .ok (.value (mk w.heap.size)) (w.alloc ob) := by
  intro w _
  unfold execOp
  rw [ho]
  exact run_val (M w)
theorem wpFree_nil (h : Q a S) : wpFree P ops W sp Q [] k a S := h
end
theorem Has.at {W : World} {sp : Nat → Option (Obj × (Nat → Value))} {S : Nat → Option Nat} {w : World} (h : Has W sp S w) {i b : Nat} {ob : Obj} {mk : Nat → Value} (e : S i = some b) (s : sp i = some (ob, mk)) : w.heap[b]? = some ob ∧ W.heap.size ≤ b := by
  obtain ⟨h1, o, m, h2, h3⟩ := h.2 i b e
  rw [s] at h2
  injection h2 with h2
  injection h2 with h2
  subst h2
  exact ⟨h3, h1⟩
end Go.Proofs.YtkckcohemalhiaaGreatDoor

namespace Go.Proofs.YtkckcohemalhiaaGreatDoor
open Go.RowKit Tf Cu Go.Deep
attribute [local go_sem] run_bits run_from raw_feq raw_fne raw_flt raw_fgt run_neg run_store_float
/-- the water of the flat sea -/
def lkW (i : Nat) : Int := if i = 1 then 2863311530 else 1431655765
theorem ar13 : ∀ c, c < 6 → arI (ArC 1 c) = 1431655765 := by decide +kernel
/-- behind c rounds, the waters being f -/
def LkR (w : World) (gd g4 b1 b2 b3 b4 : Nat) (f : Nat → Int) (v : World) : Prop :=
  Ab w v ∧ v.heap[g4]? = some (.cells #[.slice (some ⟨b1, 0, none⟩) 6 6, .slice (some ⟨b2, 0, none⟩) 6 6, .slice (some ⟨b3, 0, none⟩) 6 6, .slice (some ⟨b4, 0, none⟩) 12 12, .int .i64 0, .int .i64 0] 25) ∧ v.heap[gd]? = some (.cells #[.slice none 0 0, .slice none 0 0, .slice none 0 0, .slice none 0 0, .int .i64 0, .int .i64 0] 25) ∧ v.rowIs b1 40 6 (fun _ => .float .f64 0) ∧ v.rowIs b2 2 6 (fun i => .int .i64 (f i)) ∧ v.rowIs b3 2 6 (fun _ => .int .i64 0) ∧ v.rowIs b4 40 12 (fun _ => .float .f64 0)
def LkI (w : World) (gd g4 b1 b2 b3 b4 c : Nat) (v : World) : Prop := LkR w gd g4 b1 b2 b3 b4 (fun i => if i < c then lkW i else 0) v
theorem LkR.to2 {w : World} {gd g4 b1 b2 b3 b4 : Nat} {f : Nat → Int} {v v' : World} (h : LkR w gd g4 b1 b2 b3 b4 f v) (a : Ab v v') : LkR w gd g4 b1 b2 b3 b4 f v' := by
  obtain ⟨h1, h2, h3, h4, h5, h6, h7⟩ := h
  exact ⟨h1.trans a, a.heap h2, a.heap h3, rowIs.ab h4 a, rowIs.ab h5 a, rowIs.ab h6 a, rowIs.ab h7 a⟩
theorem LkI.to {w : World} {gd g4 b1 b2 b3 b4 c : Nat} {v v' : World} (h : LkI w gd g4 b1 b2 b3 b4 c v) (a : Ab v v') : LkR w gd g4 b1 b2 b3 b4 (fun i => if i < c then lkW i else 0) v' := LkR.to2 h a
theorem LkR.fin {w : World} {gd g4 b1 b2 b3 b4 c : Nat} {f : Nat → Int} {v : World} (h : LkR w gd g4 b1 b2 b3 b4 f v) (e : ∀ i, f i = if i < c then lkW i else 0) : LkI w gd g4 b1 b2 b3 b4 c v := by
  obtain ⟨h1, h2, h3, h4, h5, h6, h7⟩ := h
  exact ⟨h1, h2, h3, h4, h5.congr (fun i _ => by dsimp only; rw [e i]), h6, h7⟩
theorem LkR.set {w : World} {gd g4 b1 b2 b3 b4 : Nat} {f : Nat → Int} {v : World} (h : LkR w gd g4 b1 b2 b3 b4 f v) (nn : g4 ≠ b2 ∧ b1 ≠ b2 ∧ b3 ≠ b2 ∧ b4 ≠ b2 ∧ b1 ≠ b4 ∧ b3 ≠ b4) (hl : gd + 1 ≤ b1 ∧ gd + 1 ≤ b2 ∧ gd + 1 ≤ b3 ∧ gd + 1 ≤ b4 ∧ gd + 1 ≤ g4) (c : Nat) (x : Int) (hw : w.heap.size ≤ gd) : LkR w gd g4 b1 b2 b3 b4 (fun i => if i = c then x else f i) (v.setCell ⟨b2, c, none⟩ (.int .i64 x)) := by
  obtain ⟨h1, h2, h3, h4, h5, h6, h7⟩ := h
  refine ⟨h1.setk (by omega) _, by rw [heap_set_ne nn.1]; exact h2, by rw [heap_set_ne (by omega)]; exact h3, h4.setOther nn.2.1 _, (h5.set c _).congr (fun i _ => ?_), h6.setOther nn.2.2.1 _, h7.setOther nn.2.2.2.1 _⟩
  by_cases e : i = c
  · simp [e]
  · simp [e]
end Go.Proofs.YtkckcohemalhiaaGreatDoor

namespace Go.Proofs.YtkckcohemalhiaaGreatDoor
open Tf Ieee
def Hi (h x : Nat) : Prop := mg x = 0 ∨ (238690780250636288 ≤ mg x ∧ mg x ≤ h)
theorem Hi.md {h x : Nat} (k : Hi h x) (hh : h + 4503599627370496 < 9218868437227405312) : Md x := by
  rcases k with k | k
  · exact .inl k
  · exact .inr ⟨by omega, by omega⟩
theorem mv_52 {r : Nat} (h : 238690780250636288 ≤ r) : ∃ q, mv r = q * 4503599627370496 := by
  unfold mv mag
  have e : (2 : Nat) ^ 52 = 4503599627370496 := by decide
  rw [if_neg (by omega), e]
  obtain ⟨j, hj⟩ : ∃ j, r / 4503599627370496 - 1 = 52 + j := ⟨r / 4503599627370496 - 1 - 52, by omega⟩
  rw [hj, Nat.pow_add, e]
  exact ⟨(4503599627370496 + r % 4503599627370496) * 2 ^ j, by rw [← Nat.mul_assoc, Nat.mul_right_comm]⟩
theorem Hi.sv {h x : Nat} (k : Hi h x) : ∃ q : Int, sv x = q * 4503599627370496 := by
  unfold Tf.sv
  rcases k with k | k
  · rw [k, mv_zero]; exact ⟨0, by cases ng x <;> rfl⟩
  · obtain ⟨q, hq⟩ := mv_52 k.1
    rw [hq]
    cases ng x
    · exact ⟨q, by simp⟩
    · exact ⟨-q, by simp; omega⟩
/-- a number that is no less than nothing -/
def Ps (h x : Nat) : Prop := Hi h x ∧ x < 9223372036854775808
theorem Ps.lt {h x : Nat} (k : Ps h x) : x < 18446744073709551616 := by have := k.2; omega
theorem Ps.ng {h x : Nat} (k : Ps h x) : Tf.ng x = false := ng_of_lt k.2
theorem Ps.mg {h x : Nat} (k : Ps h x) : Tf.mg x = x := mg_of_lt k.2
/-- from 1e-100 to 1e100, or nought -/
def In1 (x : Nat) : Prop := mg x = 0 ∨ (3110860544497550640 ≤ mg x ∧ mg x ≤ 6103021453049119613)
theorem In1.hi {x : Nat} (k : In1 x) : Hi 6103021453049119613 x := by
  rcases k with k | k
  · exact .inl k
  · exact .inr ⟨by omega, k.2⟩
theorem In1.md {x : Nat} (k : In1 x) : Md x := k.hi.md (by omega)
theorem pr_lo : mv 1599789920352257571 * 2 ^ K ≤ mv 3110860544497550640 * mv 3110860544497550640 := by decide +kernel
theorem pr_hi : mv 6103021453049119613 * mv 6103021453049119613 ≤ mv 7613934262404594417 * 2 ^ K := by decide +kernel
theorem pr_lg : 2 ^ (52 + K) ≤ mv 3110860544497550640 * mv 3110860544497550640 := by decide +kernel
theorem rung_ge' {d r V : Nat} (h : mv r * 2 ^ d ≤ V) : r ≤ rung 52 d V := rung_ge (by omega) h
theorem rung_le' {d r V : Nat} (h : V ≤ mv r * 2 ^ d) : rung 52 d V ≤ r := rung_le (by omega) h
theorem pr_rung {V : Nat} (h1 : mv 3110860544497550640 * mv 3110860544497550640 ≤ V) (h2 : V ≤ mv 6103021453049119613 * mv 6103021453049119613) :
    52 + 1074 ≤ V.log2 ∧ 1599789920352257571 ≤ rung 52 1074 V ∧ rung 52 1074 V ≤ 7613934262404594417 := by
  have hV : 2 ^ (52 + K) ≤ V := Nat.le_trans pr_lg h1
  have h0 : V ≠ 0 := by have := Nat.two_pow_pos (52 + K); omega
  refine ⟨?_, ?_, ?_⟩
  · have := (Nat.le_log2 h0).2 hV
    exact this
  · exact rung_ge' (d := K) (Nat.le_trans pr_lo h1)
  · exact rung_le' (d := K) (Nat.le_trans h2 pr_hi)
theorem In1.far {x y : Nat} (kx : In1 x) (ky : In1 y) : Far x y := by
  rcases kx with kx | kx
  · exact .inl (.inl kx)
  · rcases ky with ky | ky
    · exact .inl (.inr ky)
    · obtain ⟨a, b, c⟩ := pr_rung (Nat.mul_le_mul (mv_le.2 kx.1) (mv_le.2 ky.1)) (Nat.mul_le_mul (mv_le.2 kx.2) (mv_le.2 ky.2))
      exact .inr ⟨a, by omega⟩
end Go.Proofs.YtkckcohemalhiaaGreatDoor

namespace Go.Proofs.YtkckcohemalhiaaGreatDoor
open Tf Ieee
def Er17 : Nat := 2030
theorem mv_E17 : mv 9146810843189477376 = 2 ^ (52 + Er17) := mv_two_pow Er17 _ (by decide)
theorem le_E17 {W d : Nat} (hW : W ≤ 2 ^ 57) (hd : d ≤ 2025) : W * 2 ^ d ≤ mv 9146810843189477376 := by
  rw [mv_E17]
  have h1 : 2 ^ d ≤ 2 ^ (Er17 - 5) := Nat.pow_le_pow_right (by omega) (by unfold Er17; omega)
  have h2 := Nat.mul_le_mul hW h1
  have e : 2 ^ 57 * 2 ^ (Er17 - 5) = 2 ^ (52 + Er17) := by rw [← Nat.pow_add]; congr 1
  rw [e] at h2
  exact h2
theorem quo_lo {m n : Nat} (m1 : 4503599627370496 ≤ m) (m2 : m < 9007199254740992) (n1 : 4503599627370496 ≤ n) (n2 : n < 9007199254740992) : 9007199254740992 ≤ m <<< 54 / n ∧ m <<< 54 / n ≤ 36028797018963968 := by
  rw [Nat.shiftLeft_eq]
  constructor
  · rw [Nat.le_div_iff_mul_le (by omega)]
    have := Nat.mul_le_mul_right (2 ^ 54) m1
    omega
  · refine Nat.div_le_of_le_mul ?_
    omega
set_option maxRecDepth 100000 in
theorem div_pos {x l : Nat} (x1 : 4503599627370496 ≤ x) (x2 : x < 9218868437227405312) (l1 : 4503599627370496 ≤ l) (l2 : l < 9218868437227405312) :
    ∃ W, 18014398509481984 ≤ W ∧ W ≤ 2 ^ 57 ∧ W = 2 * ((4503599627370496 + x % 4503599627370496) <<< 54 / (4503599627370496 + l % 4503599627370496)) + ((4503599627370496 + x % 4503599627370496) <<< 54 % (4503599627370496 + l % 4503599627370496) != 0).toNat ∧ double.div x l = some (double.nearest false W (((x / 4503599627370496 - 1 : Nat) : Int) - ((l / 4503599627370496 - 1 : Nat) : Int) - 55)) := by
  have ml : mg l = l := mg_of_lt (by omega)
  have mx : mg x = x := mg_of_lt (by omega)
  have el := read_norm (x := l) (by omega) (by omega)
  rw [ml, sgn_ng (by omega), ng_of_lt (by omega)] at el
  have ex := read_norm (x := x) (by omega) (by omega)
  rw [mx, sgn_ng (by omega), ng_of_lt (by omega)] at ex
  have hn : 4503599627370496 + l % 4503599627370496 ≠ 0 := by omega
  have lx : (4503599627370496 + x % 4503599627370496).log2 = 52 := log_m _ (Nat.mod_lt _ (by omega))
  have ll : (4503599627370496 + l % 4503599627370496).log2 = 52 := log_m _ (Nat.mod_lt _ (by omega))
  have hq := quo_lo (m := 4503599627370496 + x % 4503599627370496) (n := 4503599627370496 + l % 4503599627370496) (by omega) (by omega) (by omega) (by omega)
  refine ⟨_, ?_, ?_, rfl, ?_⟩
  · omega
  · have : ((4503599627370496 + x % 4503599627370496) <<< 54 % (4503599627370496 + l % 4503599627370496) != 0).toNat ≤ 1 := by cases ((4503599627370496 + x % 4503599627370496) <<< 54 % (4503599627370496 + l % 4503599627370496) != 0) <;> simp
    omega
  · show ((double.read x).quotient 54 (double.read l)).map double.write = _
    rw [ex, el]
    unfold Datum.quotient
    dsimp only
    rw [if_neg hn, lx, ll]
    simp only [Bool.xor_false]
    show some (double.nearest false _ _) = some (double.nearest false _ _)
    congr 2
    omega
theorem rung_E17 {V : Nat} (h : V ≤ mv 9146810843189477376) : rung 52 0 V ≤ 9146810843189477376 := by
  refine rung_le (by omega) ?_
  rw [Nat.pow_zero, Nat.mul_one]
  exact h
end Go.Proofs.YtkckcohemalhiaaGreatDoor

namespace Go.Proofs.YtkckcohemalhiaaGreatDoor
open Tf Ieee
/-- the whole quotient twice, and one more where that isn't all -/
def stQ (N n : Nat) : Nat := 2 * (N / n) + (N % n != 0).toNat
theorem canon_nn' {q : Nat} (q1 : 4503599627370496 ≤ q) (q2 : q < 9218868437227405312) : canonB q = q := by
  have mq : mg q = q := mg_of_lt (by omega)
  unfold canonB
  rw [mq, if_neg (by unfold isN; rw [mq]; simp; omega), if_neg (by omega)]
set_option maxRecDepth 100000 in
/-- what a quotient of two numbers above nothing is -/
theorem dv_core {x l : Nat} (x1 : 4503599627370496 ≤ x) (x2 : x < 9218868437227405312) (l1 : 4503599627370496 ≤ l) (l2 : l < 9218868437227405312)
    (h1 : l / 4503599627370496 ≤ x / 4503599627370496 + 1010) (h2 : x / 4503599627370496 ≤ l / 4503599627370496 + 1006) :
    ∃ N n d g, 0 < g ∧ 0 < n ∧ 18014398509481984 ≤ stQ N n ∧ dvB x l = rung 52 0 (stQ N n * 2 ^ d) ∧ n * g = mv l ∧ N * 2 ^ (d + 2) * g = 2 * (mv x * 2 ^ K) ∧ 4503599627370496 ≤ dvB x l ∧ dvB x l ≤ 9146810843189477376 := by
  obtain ⟨W, w1, w2, w3, e1⟩ := div_pos x1 x2 l1 l2
  have hq : W = stQ ((4503599627370496 + x % 4503599627370496) * 2 ^ 54) (4503599627370496 + l % 4503599627370496) := by rw [w3]; unfold stQ; rw [Nat.shiftLeft_eq]
  have px := mv_parts x1
  have pl := mv_parts l1
  have hlp := d_lp
  have ha : 1 ≤ x / 4503599627370496 ∧ 1 ≤ l / 4503599627370496 := by omega
  clear w3
  generalize x / 4503599627370496 = a at *
  generalize l / 4503599627370496 = c at *
  obtain ⟨d, hd⟩ : ∃ d : Nat, (((a - 1 : Nat) : Int) - ((c - 1 : Nat) : Int) - 55) = double.leastPlace + (d : Int) := ⟨((((a - 1 : Nat) : Int) - ((c - 1 : Nat) : Int) - 55) - double.leastPlace).toNat, by omega⟩
  have hdle : d ≤ 2025 := by omega
  have hdk : d + 2 + 54 + (c - 1) = (a - 1) + 1 + K := by unfold K; omega
  rw [nearest_up double false W d _ hd, d_word, d_inf] at e1
  have h0 : W * 2 ^ d ≠ 0 := Nat.mul_ne_zero (by omega) (by have := Nat.two_pow_pos d; omega)
  have hlog : 52 + 0 ≤ (W * 2 ^ d).log2 := by
    refine (Nat.le_log2 h0).2 ?_
    have e : (2 : Nat) ^ (52 + 0) = 4503599627370496 := by decide
    rw [e]
    have := Nat.two_pow_pos d
    exact Nat.le_trans (by omega) (Nat.le_mul_of_pos_right W this)
  have hb := rung_big hlog h0
  have hle := rung_E17 (le_E17 w2 hdle)
  have hfb : double.fractionBits = 52 := rfl
  rw [hfb] at e1
  refine ⟨(4503599627370496 + x % 4503599627370496) * 2 ^ 54, 4503599627370496 + l % 4503599627370496, d, 2 ^ (c - 1), Nat.two_pow_pos _, by omega, by omega, ?_, pl.symm, ?_, ?_⟩
  · rw [← hq]
    generalize rung 52 0 (W * 2 ^ d) = r at *
    simp only [Bool.false_eq_true, if_false] at e1
    rw [Nat.min_eq_left (by omega)] at e1
    rw [dvB_some e1]
    exact canon_nn' hb (by omega)
  · rw [px]
    generalize 4503599627370496 + x % 4503599627370496 = m
    rw [show m * 2 ^ 54 * 2 ^ (d + 2) * 2 ^ (c - 1) = m * 2 ^ (d + 2 + 54 + (c - 1)) by rw [Nat.mul_assoc, Nat.mul_assoc, ← Nat.pow_add, ← Nat.pow_add]; congr 2; omega, hdk, Nat.pow_add, Nat.pow_add, Nat.pow_one]
    generalize 2 ^ (a - 1) = u
    generalize 2 ^ K = v
    rw [show u * 2 * v = 2 * (u * v) by rw [Nat.mul_comm u 2, Nat.mul_assoc], ← Nat.mul_assoc m 2, Nat.mul_comm m 2, Nat.mul_assoc, Nat.mul_assoc]
  · generalize rung 52 0 (W * 2 ^ d) = r at *
    simp only [Bool.false_eq_true, if_false] at e1
    rw [Nat.min_eq_left (by omega)] at e1
    rw [dvB_some e1, canon_nn' hb (by omega)]
    exact ⟨hb, hle⟩
end Go.Proofs.YtkckcohemalhiaaGreatDoor

namespace Go.Proofs.YtkckcohemalhiaaGreatDoor
open Tf Ieee
/-- numbers whose quotient is far from both ends -/
def Qn (x l : Nat) : Prop := (4503599627370496 ≤ x ∧ x < 9218868437227405312) ∧ (4503599627370496 ≤ l ∧ l < 9218868437227405312) ∧ l / 4503599627370496 ≤ x / 4503599627370496 + 1010 ∧ x / 4503599627370496 ≤ l / 4503599627370496 + 1006
theorem dq_in {x l : Nat} (q : Qn x l) : 4503599627370496 ≤ dvB x l ∧ dvB x l ≤ 9146810843189477376 := by
  obtain ⟨⟨x1, x2⟩, ⟨l1, l2⟩, h1, h2⟩ := q
  obtain ⟨N, n, d, g, hg, hn, hW, e, e1, e2, e3⟩ := dv_core x1 x2 l1 l2 h1 h2
  exact e3
end Go.Proofs.YtkckcohemalhiaaGreatDoor

namespace Go.Proofs.YtkckcohemalhiaaGreatDoor
open Tf

/-- the places between the least of 32 bits and the least of 64 -/
def K2 : Nat := 925
/-- a double as bits of 32; those bits as a double -/
def t32 (x : Nat) : Nat := min (rung 23 K2 (mv (mg x))) 2139095040
end Go.Proofs.YtkckcohemalhiaaGreatDoor

namespace Go.Proofs.YtkckcohemalhiaaGreatDoor
open Tf

/-- the places between the least of 16 bits and the least of 64 -/
def H2 : Nat := 1050
def t16 (x : Nat) : Nat := min (rung 10 H2 (mv (mg x))) 31744
/-! how the code makes the bits of 16 -/
end Go.Proofs.YtkckcohemalhiaaGreatDoor

namespace Go.Proofs.YtkckcohemalhiaaGreatDoor
open Tf

theorem R_exact (v : Int) (r : Nat) (h : mv r = v.natAbs) (hr : r ≤ 9218868437227405312) : R v = if v < 0 then -(r : Int) else (r : Int) := by
  unfold R
  rw [← h, rung_mv, Nat.min_eq_left hr]
theorem R_mv (r : Nat) (hr : r ≤ 9218868437227405312) : R (mv r : Int) = r ∧ R (-(mv r : Int)) = -(r : Int) := by
  refine ⟨?_, ?_⟩
  · rw [R_exact _ r (by rw [Int.natAbs_natCast]) hr, if_neg (by omega)]
  · rw [R_exact _ r (by rw [Int.natAbs_neg, Int.natAbs_natCast]) hr]
    by_cases c : r = 0
    · subst c; rw [mv_zero]; simp
    · have := (@mv_lt 0 r).2 (by omega)
      rw [mv_zero] at this
      rw [if_pos (by omega)]

end Go.Proofs.YtkckcohemalhiaaGreatDoor

namespace Go.Proofs.YtkckcohemalhiaaGreatDoor
open Tf Ieee
/-- a whole number as a float -/
def fw (n : Int) : Nat := rn false (n * one)
theorem R_one : R one = 4607182418800017408 := (R_mv 4607182418800017408 (by decide)).1
theorem mv_2_63 : mv 4890909195324358656 = 9223372036854775808 * one := by
  have h := mv_from_one 63 4890909195324358656 (by decide)
  have e : (2 : Nat) ^ 63 = 9223372036854775808 := by decide
  rw [e] at h
  exact h
theorem R_max : R (9223372036854775808 * one) = 4890909195324358656 := by
  have h := (R_mv 4890909195324358656 (by decide)).1
  rw [mv_2_63, Int.natCast_mul] at h
  exact h
theorem rn_nn {v : Int} (h : 0 ≤ v) : rn false v = (R v).toNat := by
  unfold rn R
  generalize min (rung 52 0 v.natAbs) 9218868437227405312 = m
  by_cases z : v = 0
  · rw [if_pos z, if_neg (by decide), if_neg (by omega), Int.toNat_natCast]
  · rw [if_neg z, decide_eq_false (by omega), if_neg (by decide), if_neg (by omega), Int.toNat_natCast]
theorem fw_R {n : Int} (h : 0 ≤ n) : fw n = (R (n * one)).toNat := rn_nn (Int.mul_nonneg h (Int.le_of_lt onep))
theorem fw_in {n : Int} (h1 : 1 ≤ n) (h2 : n ≤ 9223372036854775807) : 4607182418800017408 ≤ fw n ∧ fw n ≤ 4890909195324358656 := by
  have a := R_mono (Int.mul_le_mul_of_nonneg_right h1 (Int.le_of_lt onep))
  have b := R_mono (Int.mul_le_mul_of_nonneg_right (show n ≤ 9223372036854775808 by omega) (Int.le_of_lt onep))
  rw [Int.one_mul, R_one] at a
  rw [R_max] at b
  rw [fw_R (by omega)]
  omega
theorem fw_Qn {n m : Int} (n1 : 1 ≤ n) (n2 : n ≤ 9223372036854775807) (m1 : 1 ≤ m) (m2 : m ≤ 9223372036854775807) : Qn (fw n) (fw m) := by
  have a := fw_in n1 n2
  have b := fw_in m1 m2
  unfold Qn
  omega
/-- the depth -/
def dpB (w a : Int) : Nat := if w < 1 ∨ a < 1 then 0 else dvB (fw w) (fw a)
theorem dp_zero {w a : Int} (h : w < 1 ∨ a < 1) : dpB w a = 0 := by unfold dpB; rw [if_pos h]
theorem dp_of {w a : Int} (h1 : 1 ≤ w) (h2 : 1 ≤ a) : dpB w a = dvB (fw w) (fw a) := by unfold dpB; rw [if_neg (by omega)]
theorem dp_in {w a : Int} (h1 : 1 ≤ w) (h2 : 1 ≤ a) (w2 : w ≤ 9223372036854775807) (a2 : a ≤ 9223372036854775807) : 4503599627370496 ≤ dpB w a ∧ dpB w a ≤ 9146810843189477376 := by
  rw [dp_of h1 h2]
  exact dq_in (fw_Qn h1 w2 h2 a2)
theorem dp_le {w a : Int} (w2 : w ≤ 9223372036854775807) (a2 : a ≤ 9223372036854775807) : dpB w a ≤ 9146810843189477376 := by
  by_cases h : w < 1 ∨ a < 1
  · rw [dp_zero h]; omega
  · exact (dp_in (by omega) (by omega) w2 a2).2
end Go.Proofs.YtkckcohemalhiaaGreatDoor

namespace Go.Proofs.YtkckcohemalhiaaGreatDoor
open Tf Ieee
/-- above nothing; below nothing -/
def ps (a : Nat) : Bool := decide (0 < a ∧ a ≤ 9218868437227405312)
/-- the opposite; of nothing: nothing -/
def op (x : Nat) : Nat := if x = 0 then 0 else x + 9223372036854775808
end Go.Proofs.YtkckcohemalhiaaGreatDoor

namespace Go.Proofs.YtkckcohemalhiaaGreatDoor
open Go.RowKit Tf Cu
theorem arI_top (L : Nat) : 1 ≤ arI L ∧ arI L ≤ 9223372036854775807 := by
  have h : cI .even (arQ L) ≤ 9223372036854775807 := by
    unfold cI
    split
    · rename_i c
      unfold cOk at c
      simp only [Bool.and_eq_true, decide_eq_true_eq] at c
      omega
    · decide
  unfold arI
  omega
/-- the area of a cell -/
def arC (n c : Nat) : Int := arI (ArC n c)
theorem arC_in (n c : Nat) : 1 ≤ arC n c ∧ arC n c ≤ 9223372036854775807 := arI_top _
theorem IsFl.at0 {w : World} {b o len : Nat} {xs : Nat → Nat} (h : IsFl w (some ⟨b, o, none⟩) len xs) {k : Nat} (hk : k < len) : xs k < 18446744073709551616 ∧ b < w.heap.size ∧ w.cell? ⟨b, o + k, none⟩ = some (.float .f64 (xs k)) := by
  obtain ⟨h1, b', o', e, h2, h3⟩ := h k hk
  injection e with e1
  injection e1 with e2 e3
  subst e2 e3
  exact ⟨h1, h2, h3⟩
theorem IsIn.at0 {w : World} {b o len : Nat} {xs : Nat → Int} (h : IsIn w (some ⟨b, o, none⟩) len xs) {k : Nat} (hk : k < len) : xs k ≤ 9223372036854775807 ∧ b < w.heap.size ∧ w.cell? ⟨b, o + k, none⟩ = some (.int .i64 (xs k)) := by
  obtain ⟨h1, b', o', e, h2, h3⟩ := h k hk
  injection e with e1
  injection e1 with e2 e3
  subst e2 e3
  exact ⟨h1.2, h2, h3⟩
theorem IsFl.some0 {w : World} {a0 : Option Addr} {len : Nat} {xs : Nat → Nat} (h : IsFl w a0 len xs) (h0 : 0 < len) : ∃ b o, a0 = some ⟨b, o, none⟩ := by
  obtain ⟨_, b, o, e, _⟩ := h 0 h0
  exact ⟨b, o, e⟩
theorem IsIn.some0 {w : World} {a0 : Option Addr} {len : Nat} {xs : Nat → Int} (h : IsIn w a0 len xs) (h0 : 0 < len) : ∃ b o, a0 = some ⟨b, o, none⟩ := by
  obtain ⟨_, b, o, e, _⟩ := h 0 h0
  exact ⟨b, o, e⟩
end Go.Proofs.YtkckcohemalhiaaGreatDoor

namespace Go.Proofs.YtkckcohemalhiaaGreatDoor
open Go.RowKit Go.Deep
theorem rowIs.fl {w : World} {b n : Nat} {f : Nat → Nat} (h : w.rowIs b 40 n (fun i => .float .f64 (f i))) (hf : ∀ i, i < n → f i < 18446744073709551616) : IsFl w (some ⟨b, 0, none⟩) n f := fun k hk => ⟨hf k hk, b, 0, rfl, h.lt, by rw [Nat.zero_add]; exact h.cell hk⟩
theorem rowIs.in {w : World} {b n : Nat} {f : Nat → Int} (h : w.rowIs b 2 n (fun i => .int .i64 (f i))) (hf : ∀ i, i < n → -9223372036854775808 ≤ f i ∧ f i ≤ 9223372036854775807) : IsIn w (some ⟨b, 0, none⟩) n f := fun k hk => ⟨hf k hk, b, 0, rfl, h.lt, by rw [Nat.zero_add]; exact h.cell hk⟩
end Go.Proofs.YtkckcohemalhiaaGreatDoor

namespace Go.Proofs.YtkckcohemalhiaaGreatDoor
open Go.RowKit Go.Deep
namespace Sh
/-- a list of so many whole numbers -/
def IsI (w : World) (a0 : Option Addr) (len : Nat) (xs : Nat → Int) : Prop := ∀ k, k < len → (-9223372036854775808 ≤ xs k ∧ xs k ≤ 9223372036854775807) ∧ ∃ b o, a0 = some ⟨b, o, none⟩ ∧ b < w.heap.size ∧ w.cell? ⟨b, o + k, none⟩ = some (.int .i64 (xs k))
theorem IsI.below {w w' : World} {a0 : Option Addr} {len : Nat} {xs : Nat → Int} (h : IsI w a0 len xs) (hb : Below w.heap.size w w') : IsI w' a0 len xs := by
  intro k hk
  obtain ⟨h1, b, o, h2, h3, h4⟩ := h k hk
  exact ⟨h1, b, o, h2, Nat.lt_of_lt_of_le h3 hb.size, (Below.cell hb h3).trans h4⟩
theorem IsI.some0 {w : World} {a0 : Option Addr} {len : Nat} {xs : Nat → Int} (h : IsI w a0 len xs) (h0 : 0 < len) : ∃ b o, a0 = some ⟨b, o, none⟩ := by
  obtain ⟨_, b, o, h2, _⟩ := h 0 h0
  exact ⟨b, o, h2⟩
theorem IsI.at0 {w : World} {b o len k : Nat} {xs : Nat → Int} (h : IsI w (some ⟨b, o, none⟩) len xs) (hk : k < len) : (-9223372036854775808 ≤ xs k ∧ xs k ≤ 9223372036854775807) ∧ b < w.heap.size ∧ w.cell? ⟨b, o + k, none⟩ = some (.int .i64 (xs k)) := by
  obtain ⟨h1, b', o', h2, h3, h4⟩ := h k hk
  cases h2
  exact ⟨h1, h3, h4⟩
theorem IsI.nil (w : World) (a0 : Option Addr) (xs : Nat → Int) : IsI w a0 0 xs := fun k hk => absurd hk (Nat.not_lt_zero k)
theorem IsI.congr {w : World} {a0 : Option Addr} {len : Nat} {xs ys : Nat → Int} (h : IsI w a0 len xs) (e : ∀ k, k < len → xs k = ys k) : IsI w a0 len ys := fun k hk => by rw [← e k hk]; exact h k hk
theorem add_off (b off j : Nat) : (⟨b, off, none⟩ : Addr).add j = ⟨b, off + j, none⟩ := by unfold Addr.add; split <;> simp_all
theorem row_in {w : World} {b n : Nat} {f : Nat → Int} (h : w.rowIs b 2 n (fun i => .int .i64 (f i))) (hf : ∀ i, i < n → -9223372036854775808 ≤ f i ∧ f i ≤ 9223372036854775807) : IsI w (some ⟨b, 0, none⟩) n f := fun k hk => ⟨hf k hk, b, 0, rfl, h.lt, by rw [Nat.zero_add]; exact h.cell hk⟩
theorem info64 : (Tryz.prog.info? 2).map (fun i => (i.zero, i.size, i.bytes)) = some (some (.int .i64 0), 1, 8) := by kernel_rfl
/-- a list of the call's own, of so many whole numbers -/
def Own (B : Nat) (v : Value) (l : List Int) (w : World) : Prop := w.ownsRow B 2 1 v l.length (l.map (Value.int .i64))
theorem Own.in {B : Nat} {v : Value} {l : List Int} {w : World} (h : Own B v l w) (hl : ∀ x ∈ l, -9223372036854775808 ≤ x ∧ x ≤ 9223372036854775807) : ∃ a0 cap, v = .slice a0 l.length cap ∧ IsI w a0 l.length (fun j => l.getD j 0) := by
  rcases h.2 with ⟨rfl, h0⟩ | ⟨g, cap, cur, rfl, hb, hg, h1, h2, h3, h4⟩
  · exact ⟨none, 0, by rw [h0], fun k hk => by omega⟩
  · refine ⟨some ⟨g, 0, none⟩, cap, rfl, fun k hk => ?_⟩
    have hx : l.getD k 0 = l[k] := by simp [List.getD, hk]
    refine ⟨by dsimp only; rw [hx]; exact hl _ (List.getElem_mem _), g, 0, rfl, lt_of_block hg, ?_⟩
    have e := h.cells (g := g) rfl k (.int .i64 (l.getD k 0)) (by simp [hk])
    rw [add_off] at e
    exact e
theorem Own.new (w : World) (B : Nat) : Own B (.slice none 0 0) [] w := ⟨by simp, .inl ⟨rfl, rfl⟩⟩
theorem Own.to {B : Nat} {v : Value} {l : List Int} {w w' : World} (h : Own B v l w) (hb : Ab w w') : Own B v l w' := by
  refine ⟨h.1, ?_⟩
  rcases h.2 with h0 | ⟨g, cap, cur, e, hb', hg, h1, h2, h3, h4⟩
  · exact .inl h0
  · exact .inr ⟨g, cap, cur, e, hb', hb.heap hg, h1, h2, h3, h4⟩
theorem info_i : ∃ i, Tryz.prog.info? 2 = some i ∧ i.zero = some (.int .i64 0) ∧ i.size = 1 ∧ i.bytes = 8 := by
  have h := info64
  cases e : Tryz.prog.info? 2 with
  | none => rw [e] at h; cases h
  | some i =>
    rw [e] at h
    simp at h
    exact ⟨i, rfl, h.1, h.2.1, h.2.2⟩
/-- all blocks of V but g are in w as they were -/
def Abo (V : World) (g : Nat) (w : World) : Prop := w.os = V.os ∧ w.tape = V.tape ∧ w.output = V.output ∧ V.heap.size ≤ w.heap.size ∧ ∀ k, k < V.heap.size → k ≠ g → w.heap[k]? = V.heap[k]?
theorem Abo.ab {w0 V w : World} {g : Nat} (h : Abo V g w) (a : Ab w0 V) (hg : w0.heap.size ≤ g) : Ab w0 w := by
  obtain ⟨h1, h2, h3, h4, h5⟩ := h
  exact ⟨h1.trans a.os, h2.trans a.tape, h3.trans a.output, Nat.le_trans (Below.size a) h4, fun k hk => (h5 k (Nat.lt_of_lt_of_le hk (Below.size a)) (by omega)).trans (a.block k hk)⟩
theorem Abo.refl (V : World) (g : Nat) : Abo V g V := ⟨rfl, rfl, rfl, Nat.le_refl _, fun _ _ _ => rfl⟩
theorem Abo.grown {V wr w' : World} {g : Nat} {O : Obj} {row : Option Nat} (h : Abo V g wr) (hg : (wr.alloc O).grownBy w' row) (hr : ∀ b, row = some b → b = g ∨ V.heap.size ≤ b) : Abo V g w' := by
  obtain ⟨h1, h2, h3, h4, h5⟩ := h
  have hs : (wr.alloc O).heap.size = wr.heap.size + 1 := by
    show (wr.heap.push O).size = _
    simp
  refine ⟨hg.os.trans h1, hg.tape.trans h2, hg.output.trans h3, by have := hg.size; omega, fun k hk hne => ?_⟩
  refine (hg.block k (by omega) (fun e => ?_)).trans ((Below.heap_alloc _ _ _ (by omega)).trans (h5 k hk hne))
  rcases hr k e.symm with h6 | h6
  · exact hne h6
  · omega
theorem Own.alloc {B : Nat} {v : Value} {l : List Int} {w : World} (h : Own B v l w) (O : Obj) : Own B v l (w.alloc O) := World.ownsRow.alloc h O
theorem own_new (w : World) (B : Nat) (hB : B ≤ w.heap.size) : Own B (.slice (some ⟨w.heap.size, 0, none⟩) 0 0) [] (w.alloc (.cells #[] 2)) :=
  ⟨by simp, .inr ⟨w.heap.size, 0, #[], rfl, hB, heap_alloc_new _ _, Nat.le_refl _, by unfold maxLen; omega, by simp, by simp⟩⟩
theorem wpList_app {ops : Array Oper} {rest : List Oper} {o : Oper} {a : Act} {w : World} {Q : Exit → Act → World → Prop} (hgd : o.guard = none) (s x : Operand)
    (ho : o.op = .call { callee := .builtin .append, args := #[s, x], argTypes := #[23, 23] })
    (B : Nat) (v : Value) (l : List Int) (hs : a.eval s = v) (hown : Own B v l w)
    (ad : Addr) (m c : Nat) (news : List Int) (hx : a.eval x = .slice (some ad) m c) (hl : news.length = m) (hnews : ∀ j u, (news.map (Value.int .i64))[j]? = some u → w.cell? (ad.add j) = some u)
    (hm : 0 < m) (hlen : l.length + m ≤ 1048576) (hB : B ≤ w.heap.size) (nm : Nat) (hnm : l.length + m = nm)
    (h : ∀ g cap w', Own B (.slice (some ⟨g, 0, none⟩) nm cap) (l ++ news) w' → w.grownBy w' v.ownBlock → (v.ownBlock = some g ∨ g = w.heap.size) → B ≤ g → wpList Tryz.prog ops Q rest (a.put o.dst (.slice (some ⟨g, 0, none⟩) nm cap)) w') : wpList Tryz.prog ops Q (o :: rest) a w := by
  subst hnm
  obtain ⟨i0, hi, hz0, hz1, hz2⟩ := info_i
  refine wpList_append_lies w hgd s x _ ho B 2 i0 (.int .i64 0) 1 8 Tryz.underlying23 hi hz0 hz1 hz2 rfl (by decide) v l.length (l.map (Value.int .i64)) hs hown ad m c (news.map (Value.int .i64)) hx (by simpa using hl) hnews (fun u hu => by
    obtain ⟨y, _, rfl⟩ := List.mem_map.1 hu
    rfl) hm (by unfold maxLen; omega) (by omega) hB _ rfl ?_
  intro g cap w' o1 g1 e1 _
  have hb : B ≤ g := by
    rcases o1.2 with ⟨q, _⟩ | ⟨g2, _, _, q, hb, _⟩
    · cases q
    · injection q with q1 q2 q3
      injection q1 with q4
      injection q4 with q5
      omega
  refine h g cap w' ?_ g1 e1 hb
  unfold Own
  rw [List.length_append, List.map_append, hl]
  exact o1
theorem src_in {w : World} {pb : Option Addr} {L : Nat} {B : Nat → Int} (h : IsI w pb L B) (cb : Nat) : Src Tryz.prog 1 23 (.slice pb L cb) L ((List.range L).map fun k => Value.int .i64 (B k)) w := by
  have one : ∀ u ∈ (List.range L).map (fun k => Value.int .i64 (B k)), u.oneCell' = true := fun u hu => by
    obtain ⟨k, _, rfl⟩ := List.mem_map.1 hu
    rfl
  cases pb with
  | none =>
    have : L = 0 := by
      rcases Nat.eq_zero_or_pos L with h0 | h0
      · exact h0
      · obtain ⟨_, b, o, h2, _⟩ := h 0 h0
        cases h2
    subst this
    exact Src.ofNil w Tryz.underlying23 cb
  | some a =>
    refine Src.ofSlice w Tryz.underlying23 a L cb _ (by simp) (fun j u hu => ?_) one
    have hj : j < L := by
      rcases Nat.lt_or_ge j L with h1 | h1
      · exact h1
      · rw [List.getElem?_eq_none (by simpa using h1)] at hu; cases hu
    obtain ⟨_, b, o, h2, _, h4⟩ := h j hj
    cases h2
    simp [hj] at hu
    rw [add_off, ← hu]
    exact h4
end Sh
end Go.Proofs.YtkckcohemalhiaaGreatDoor
