/-
  Some of the texts of this proof, one behind the other.
-/
import Derived.Laws.CopyOwn
import Derived.Deep.QuietTactic
import Derived.Laws.IdiomCopy
import Derived.Deep.RegionHeld3
import Derived.Test.YtdigecacmibkpaaGreatDoorSq18
set_option maxRecDepth 100000
set_option maxHeartbeats 400000000
namespace Go.Proofs.YtdigecacmibkpaaGreatDoor
open Go.RowKit
namespace Cf
def Fresh (W : World) (S : Nat -> Option Nat) (b : Nat) : Prop := W.heap.size <= b /\ ∀ i c, S i = some c -> c ≠ b
def putL (S : Nat -> Option Nat) (i b : Nat) : Nat -> Option Nat := fun k => if k = i then some b else S k
def Has (W : World) (sp : Nat -> Option (Obj × (Nat -> Value))) (S : Nat -> Option Nat) (w : World) : Prop := Ab W w /\ ∀ i b, S i = some b -> W.heap.size <= b /\ ∃ o mk, sp i = some (o, mk) /\ w.heap[b]? = some o
theorem putL_comm (S : Nat -> Option Nat) {i j : Nat} (b c : Nat) (h : i ≠ j) : putL (putL S i b) j c = putL (putL S j c) i b := by
  funext k
  unfold putL
  by_cases e : k = j
  · subst e; simp [Ne.symm h]
  · by_cases e2 : k = i
    · subst e2; simp [e]
    · simp [e, e2]
theorem Fresh.put {W : World} {S : Nat -> Option Nat} {i b c : Nat} (h : Fresh W S c) (n : b ≠ c) : Fresh W (putL S i b) c :=
  ⟨h.1, fun k d e => by
    unfold putL at e
    by_cases q : k = i
    · rw [if_pos q] at e; injection e with e; exact fun x => n (e.trans x)
    · rw [if_neg q] at e; exact h.2 k d e⟩
theorem Fresh.of_put {W : World} {S : Nat -> Option Nat} {i b c : Nat} (h : Fresh W (putL S i b) c) (hi : S i = none) : Fresh W S c /\ b ≠ c := by
  refine ⟨⟨h.1, fun k d e => h.2 k d ?_⟩, h.2 i b (by simp [putL])⟩
  unfold putL
  by_cases q : k = i
  · subst q; rw [hi] at e; cases e
  · rw [if_neg q]; exact e
theorem Has.lt {W : World} {sp : Nat -> Option (Obj × (Nat -> Value))} {S : Nat -> Option Nat} {w : World} (h : Has W sp S w) {i b : Nat} (e : S i = some b) : b < w.heap.size := by
  obtain ⟨_, o, mk, _, q⟩ := h.2 i b e
  exact lt_of_block q
theorem Has.fresh {W : World} {sp : Nat -> Option (Obj × (Nat -> Value))} {S : Nat -> Option Nat} {w : World} (h : Has W sp S w) : Fresh W S w.heap.size :=
  ⟨h.1.size, fun i c e => by have := h.lt e; omega⟩
theorem Has.lay {W : World} {sp : Nat -> Option (Obj × (Nat -> Value))} {S : Nat -> Option Nat} {w w1 : World} (h : Has W sp S w) {i b : Nat} {o : Obj} {mk : Nat -> Value} (e : sp i = some (o, mk)) (a : Ab w w1) (hb : w.heap.size <= b) (ho : w1.heap[b]? = some o) : Has W sp (putL S i b) w1 :=
  ⟨h.1.trans a, fun k c q => by
    unfold putL at q
    by_cases z : k = i
    · subst z
      rw [if_pos rfl] at q
      injection q with q
      subst q
      exact ⟨Nat.le_trans h.1.size hb, o, mk, e, ho⟩
    · rw [if_neg z] at q
      obtain ⟨h1, o', mk', h2, h3⟩ := h.2 k c q
      exact ⟨h1, o', mk', h2, Ab.heap a h3⟩⟩
theorem Has.freshb {W : World} {sp : Nat -> Option (Obj × (Nat -> Value))} {S : Nat -> Option Nat} {w : World} (h : Has W sp S w) {b : Nat} (hb : w.heap.size <= b) : Fresh W S b :=
  ⟨Nat.le_trans h.1.size hb, fun i c e => by have := h.lt e; omega⟩
section
variable {P : Program} {ops : Array Oper} {md : Region.Mode} {W : World} {sp : Nat -> Option (Obj × (Nat -> Value))}
def YF (P : Program) (ops : Array Oper) (W : World) (o : Oper) (v : Value) (a : Act) : Prop :=
  (Region.wanted o (yielded ops a.tmps) = true /\ ∀ w, Ab W w -> (execOp a.eval o).run P w = .ok (.value v) w) \/ (Region.wanted o (yielded ops a.tmps) = false /\ v = undef)
def LayR (P : Program) (w : World) (ob : Obj) (mk : Nat -> Value) : Result Next -> Prop
  | .ok (.value u) w1 => ∃ b, u = mk b /\ Ab w w1 /\ w.heap.size <= b /\ w1.heap[b]? = some ob
  | .ok (.enter f args) w1 => w1 = w /\ Calls P f args w (fun e w2 => ∃ b, e = .returned (mk b) /\ Ab w w2 /\ w.heap.size <= b /\ w2.heap[b]? = some ob)
  | _ => False
def LF (P : Program) (ops : Array Oper) (W : World) (o : Oper) (ob : Obj) (mk : Nat -> Value) (a : Act) : Prop :=
  Region.wanted o (yielded ops a.tmps) = true /\ ∀ w, Ab W w -> LayR P w ob mk ((execOp a.eval o).run P w)
theorem YF.same {o : Oper} {v : Value} {a a' : Act} (h : YF P ops W o v a) (he : execOp a'.eval o = execOp a.eval o) (hw : Region.wanted o (yielded ops a'.tmps) = Region.wanted o (yielded ops a.tmps)) : YF P ops W o v a' := by
  unfold YF at *
  rw [he, hw]
  exact h
theorem LF.same {o : Oper} {ob : Obj} {mk : Nat -> Value} {a a' : Act} (h : LF P ops W o ob mk a) (he : execOp a'.eval o = execOp a.eval o) (hw : Region.wanted o (yielded ops a'.tmps) = Region.wanted o (yielded ops a.tmps)) : LF P ops W o ob mk a' := by
  unfold LF at *
  rw [he, hw]
  exact h
theorem YF.one {o : Oper} {v u : Value} {a : Act} (h : YF P ops W o v a) (k : YF P ops W o u a) : v = u := by
  rcases h with ⟨w1, h⟩ | ⟨w1, rfl⟩
  · rcases k with ⟨_, k⟩ | ⟨w2, _⟩
    · have := (h W (Ab.refl W)).symm.trans (k W (Ab.refl W))
      injection this with e
      injection e
    · rw [w1] at w2; cases w2
  · rcases k with ⟨w2, _⟩ | ⟨_, rfl⟩
    · rw [w1] at w2; cases w2
    · rfl
def fOp (P : Program) (ops : Array Oper) (W : World) (sp : Nat -> Option (Obj × (Nat -> Value))) (i : Nat) (K : Act -> (Nat -> Option Nat) -> Prop) (a : Act) (S : Nat -> Option Nat) : Prop :=
  match ops[i]? with
  | none => K a S
  | some o =>
    match sp i with
    | none => ∃ v, YF P ops W o v a /\ K (a.put o.dst v) S
    | some (ob, mk) => LF P ops W o ob mk a /\ ∀ b, Fresh W S b -> K (a.put o.dst (mk b)) (putL S i b)
theorem fOp_mono {i : Nat} {K K' : Act -> (Nat -> Option Nat) -> Prop} {a : Act} {S : Nat -> Option Nat} (h : ∀ a S, K a S -> K' a S) (hh : fOp P ops W sp i K a S) : fOp P ops W sp i K' a S := by
  unfold fOp at *
  cases ho : ops[i]? with
  | none => simp only [ho] at hh ⊢; exact h _ _ hh
  | some o =>
    cases hs : sp i with
    | none =>
      simp only [ho, hs] at hh ⊢
      obtain ⟨v, h1, h2⟩ := hh
      exact ⟨v, h1, h _ _ h2⟩
    | some x =>
      simp only [ho, hs] at hh ⊢
      exact ⟨hh.1, fun b hb => h _ _ (hh.2 b hb)⟩
def wpAnyF (P : Program) (md : Region.Mode) (ops : Array Oper) (W : World) (sp : Nat -> Option (Obj × (Nat -> Value))) (Q : Act -> (Nat -> Option Nat) -> Prop) : Nat -> Array Bool -> Act -> (Nat -> Option Nat) -> Prop
  | 0, listed, a, S => Region.ready md ops listed = [] /\ Q a S
  | fuel + 1, listed, a, S =>
    (Region.ready md ops listed = [] -> Q a S) ∧
    ∀ i ∈ Region.ready md ops listed, fOp P ops W sp i (wpAnyF P md ops W sp Q fuel (listed.setIfInBounds i true)) a S
def Tidy (W : World) (listed : Array Bool) (S : Nat -> Option Nat) : Prop := (∀ k, listed.getD k true = false -> S k = none) /\ ∃ n, W.heap.size <= n /\ ∀ i c, S i = some c -> c < n
theorem Tidy.fresh {listed : Array Bool} {S : Nat -> Option Nat} (h : Tidy W listed S) : ∃ b, Fresh W S b := by
  obtain ⟨_, n, h1, h2⟩ := h
  exact ⟨n, h1, fun i c e => by have := h2 i c e; omega⟩
theorem Tidy.set {listed : Array Bool} {S : Nat -> Option Nat} (h : Tidy W listed S) (j : Nat) : Tidy W (listed.setIfInBounds j true) S :=
  ⟨fun k hk => by
    by_cases e : j = k
    · subst e
      by_cases l : j < listed.size
      · simp [l] at hk
      · exact h.1 j (by rw [Array.setIfInBounds_eq_of_size_le (by omega)] at hk; exact hk)
    · rw [getD_set_ne true e] at hk; exact h.1 k hk, h.2⟩
theorem Tidy.lay {listed : Array Bool} {S : Nat -> Option Nat} (h : Tidy W listed S) {j : Nat} (hj : listed.getD j true = false) (b : Nat) : Tidy W (listed.setIfInBounds j true) (putL S j b) := by
  obtain ⟨h1, n, h2, h3⟩ := h
  refine ⟨fun k hk => ?_, max n (b + 1), by omega, fun i c e => ?_⟩
  · by_cases e : j = k
    · subst e
      by_cases l : j < listed.size
      · simp [l] at hk
      · simp [l] at hj
    · rw [getD_set_ne true e] at hk
      unfold putL
      rw [if_neg (Ne.symm e)]
      exact h1 k hk
  · unfold putL at e
    by_cases q : i = j
    · rw [if_pos q] at e; injection e with e; omega
    · rw [if_neg q] at e; have := h3 i c e; omega
theorem fOp_putY {j : Nat} {oi oj : Oper} {v : Value} (hj : ops[j]? = some oj) (hap : oi.apart ops oj = true) (hsi : ∀ cs b, oi.op ≠ .select cs b) (hsj : ∀ cs b, oj.op ≠ .select cs b)
    {K : Act -> (Nat -> Option Nat) -> Prop} {a : Act} {S : Nat -> Option Nat} (hy : YF P ops W oi v a) (h : fOp P ops W sp j K (a.put oi.dst v) S) :
    fOp P ops W sp j (fun a' S' => YF P ops W oi v a' /\ K (a'.put oi.dst v) S') a S := by
  obtain ⟨h1, h2, h3⟩ := Oper.apart_spec hap
  have keep : ∀ u, YF P ops W oi v (a.put oj.dst u) := fun u => hy.same (execOp_put oi hsi a oj.dst u h3) (wanted_put oi a oj.dst u h3)
  unfold fOp at *
  cases hs : sp j with
  | none =>
    simp only [hj, hs] at h ⊢
    obtain ⟨u, hu, hk⟩ := h
    exact ⟨u, hu.same (execOp_put oj hsj a oi.dst v h1).symm (wanted_put oj a oi.dst v h1).symm, keep u, by rw [<- Act.put_comm a v u h2]; exact hk⟩
  | some x =>
    simp only [hj, hs] at h ⊢
    exact ⟨h.1.same (execOp_put oj hsj a oi.dst v h1).symm (wanted_put oj a oi.dst v h1).symm, fun b hb => ⟨keep _, by rw [<- Act.put_comm a v _ h2]; exact h.2 b hb⟩⟩
theorem fOp_putL {i j : Nat} {oi oj : Oper} {ob : Obj} {mk : Nat -> Value} (hij : i ≠ j) (hj : ops[j]? = some oj) (hap : oi.apart ops oj = true) (hsi : ∀ cs b, oi.op ≠ .select cs b) (hsj : ∀ cs b, oj.op ≠ .select cs b)
    {K : Act -> (Nat -> Option Nat) -> Prop} {a : Act} {S : Nat -> Option Nat} (hf : ∃ b, Fresh W S b) (hSj : S j = none) (hy : LF P ops W oi ob mk a) (h : ∀ b, Fresh W S b -> fOp P ops W sp j K (a.put oi.dst (mk b)) (putL S i b)) :
    fOp P ops W sp j (fun a' S' => LF P ops W oi ob mk a' /\ ∀ b, Fresh W S' b -> K (a'.put oi.dst (mk b)) (putL S' i b)) a S := by
  obtain ⟨h1, h2, h3⟩ := Oper.apart_spec hap
  have keep : ∀ u, LF P ops W oi ob mk (a.put oj.dst u) := fun u => hy.same (execOp_put oi hsi a oj.dst u h3) (wanted_put oi a oj.dst u h3)
  obtain ⟨b0, hb0⟩ := hf
  unfold fOp at *
  cases hs : sp j with
  | none =>
    simp only [hj, hs] at h ⊢
    obtain ⟨u, hu, _⟩ := h b0 hb0
    have hu' : YF P ops W oj u a := hu.same (execOp_put oj hsj a oi.dst _ h1).symm (wanted_put oj a oi.dst _ h1).symm
    refine ⟨u, hu', keep u, fun b hb => ?_⟩
    obtain ⟨u2, hu2, hk⟩ := h b hb
    have e : u2 = u := YF.one (hu2.same (execOp_put oj hsj a oi.dst _ h1).symm (wanted_put oj a oi.dst _ h1).symm) hu'
    subst e
    rw [<- Act.put_comm a (mk b) u2 h2]
    exact hk
  | some x =>
    simp only [hj, hs] at h ⊢
    refine ⟨(h b0 hb0).1.same (execOp_put oj hsj a oi.dst _ h1).symm (wanted_put oj a oi.dst _ h1).symm, fun c hc => ⟨keep _, fun b hb => ?_⟩⟩
    obtain ⟨q1, q2⟩ := hb.of_put hSj
    have := (h b q1).2 c (hc.put (Ne.symm q2))
    rw [putL_comm S b c hij, Act.put_comm a (mk b) _ h2] at this
    exact this
theorem firstY {Q : Act -> (Nat -> Option Nat) -> Prop} {i : Nat} {oi : Oper} {v : Value} (hi : ops[i]? = some oi) (hsp : sp i = none) (hsel : ∀ (j : Nat) (o : Oper) cs b, ops[j]? = some o -> o.op ≠ .select cs b) :
    ∀ (fuel : Nat) (listed : Array Bool) (a : Act) (S : Nat -> Option Nat),
      (∀ j oj, ops[j]? = some oj -> j ≠ i -> listed.getD j true = false -> (∀ e ∈ oj.after, Region.binds md e = true -> e.on ≠ i) -> oi.apart ops oj = true) →
      i ∈ Region.ready md ops listed -> YF P ops W oi v a →
      wpAnyF P md ops W sp Q fuel (listed.setIfInBounds i true) (a.put oi.dst v) S -> wpAnyF P md ops W sp Q (fuel + 1) listed a S := by
  have go : ∀ (K : Act -> (Nat -> Option Nat) -> Prop) (a : Act) (S : Nat -> Option Nat), YF P ops W oi v a -> K (a.put oi.dst v) S -> fOp P ops W sp i K a S := fun K a S hy h => by
    unfold fOp; simp only [hi, hsp]; exact ⟨v, hy, h⟩
  intro fuel
  induction fuel with
  | zero =>
    intro listed a S _ hr hy H
    refine ⟨fun h => (by rw [h] at hr; cases hr), fun j hj => ?_⟩
    by_cases hji : j = i
    · subst hji; exact go _ _ _ hy H
    · have := ready_mono hj hji
      rw [H.1] at this
      cases this
  | succ fuel ih =>
    intro listed a S hfree hr hy H
    refine ⟨fun h => (by rw [h] at hr; cases hr), fun j hj => ?_⟩
    by_cases hji : j = i
    · subst hji; exact go _ _ _ hy H
    · have h1 := H.2 j (ready_mono hj hji)
      obtain ⟨hjun, oj, hoj, hall⟩ := mem_ready.1 hj
      have hnot : ∀ e ∈ oj.after, Region.binds md e = true -> e.on ≠ i := fun e he hb heq => by
        have h1 := hall e he hb
        have h0 := (mem_ready.1 hr).1
        rw [heq] at h1
        rcases Nat.lt_or_ge i listed.size with h' | h'
        · simp [h'] at h0 h1; rw [h0] at h1; cases h1
        · simp [Array.getElem?_eq_none h'] at h1
      have h2 := fOp_putY hoj (hfree j oj hoj hji hjun hnot) (fun cs b => hsel i oi cs b hi) (fun cs b => hsel j oj cs b hoj) hy h1
      have hfree' : ∀ k ok, ops[k]? = some ok -> k ≠ i -> (listed.setIfInBounds j true).getD k true = false →
          (∀ e ∈ ok.after, Region.binds md e = true -> e.on ≠ i) -> oi.apart ops ok = true := fun k ok hk hki hun hno => by
        refine hfree k ok hk hki ?_ hno
        by_cases hjk : j = k
        · subst hjk; exact hjun
        · rw [getD_set_ne true hjk] at hun; exact hun
      refine fOp_mono (fun a' S' h3 => ih (listed.setIfInBounds j true) a' S' hfree' (ready_mono hr (Ne.symm hji)) h3.1 ?_) h2
      rw [Array.setIfInBounds_comm _ _ hji]
      exact h3.2
theorem firstL {Q : Act -> (Nat -> Option Nat) -> Prop} {i : Nat} {oi : Oper} {ob : Obj} {mk : Nat -> Value} (hi : ops[i]? = some oi) (hsp : sp i = some (ob, mk)) (hsel : ∀ (j : Nat) (o : Oper) cs b, ops[j]? = some o -> o.op ≠ .select cs b) :
    ∀ (fuel : Nat) (listed : Array Bool) (a : Act) (S : Nat -> Option Nat), Tidy W listed S →
      (∀ j oj, ops[j]? = some oj -> j ≠ i -> listed.getD j true = false -> (∀ e ∈ oj.after, Region.binds md e = true -> e.on ≠ i) -> oi.apart ops oj = true) →
      i ∈ Region.ready md ops listed -> LF P ops W oi ob mk a →
      (∀ b, Fresh W S b -> wpAnyF P md ops W sp Q fuel (listed.setIfInBounds i true) (a.put oi.dst (mk b)) (putL S i b)) -> wpAnyF P md ops W sp Q (fuel + 1) listed a S := by
  have go : ∀ (K : Act -> (Nat -> Option Nat) -> Prop) (a : Act) (S : Nat -> Option Nat), LF P ops W oi ob mk a -> (∀ b, Fresh W S b -> K (a.put oi.dst (mk b)) (putL S i b)) -> fOp P ops W sp i K a S := fun K a S hy h => by
    unfold fOp; simp only [hi, hsp]; exact ⟨hy, h⟩
  intro fuel
  induction fuel with
  | zero =>
    intro listed a S ty _ hr hy H
    refine ⟨fun h => (by rw [h] at hr; cases hr), fun j hj => ?_⟩
    by_cases hji : j = i
    · subst hji; exact go _ _ _ hy H
    · obtain ⟨b, hb⟩ := ty.fresh
      have := ready_mono hj hji
      rw [(H b hb).1] at this
      cases this
  | succ fuel ih =>
    intro listed a S ty hfree hr hy H
    refine ⟨fun h => (by rw [h] at hr; cases hr), fun j hj => ?_⟩
    by_cases hji : j = i
    · subst hji; exact go _ _ _ hy H
    · have h1 := fun b hb => (H b hb).2 j (ready_mono hj hji)
      obtain ⟨hjun, oj, hoj, hall⟩ := mem_ready.1 hj
      have hnot : ∀ e ∈ oj.after, Region.binds md e = true -> e.on ≠ i := fun e he hb heq => by
        have h1 := hall e he hb
        have h0 := (mem_ready.1 hr).1
        rw [heq] at h1
        rcases Nat.lt_or_ge i listed.size with h' | h'
        · simp [h'] at h0 h1; rw [h0] at h1; cases h1
        · simp [Array.getElem?_eq_none h'] at h1
      have hap := hfree j oj hoj hji hjun hnot
      have hfree' : ∀ k ok, ops[k]? = some ok -> k ≠ i -> (listed.setIfInBounds j true).getD k true = false →
          (∀ e ∈ ok.after, Region.binds md e = true -> e.on ≠ i) -> oi.apart ops ok = true := fun k ok hk hki hun hno => by
        refine hfree k ok hk hki ?_ hno
        by_cases hjk : j = k
        · subst hjk; exact hjun
        · rw [getD_set_ne true hjk] at hun; exact hun
      have h2 := fOp_putL (Ne.symm hji) hoj hap (fun cs b => hsel i oi cs b hi) (fun cs b => hsel j oj cs b hoj) ty.fresh (ty.1 j hjun) hy h1
      -- what j leaves is tidy
      have h4 : fOp P ops W sp j (fun a' S' => Tidy W (listed.setIfInBounds j true) S' /\ LF P ops W oi ob mk a' /\ ∀ b, Fresh W S' b -> wpAnyF P md ops W sp Q fuel ((listed.setIfInBounds i true).setIfInBounds j true) (a'.put oi.dst (mk b)) (putL S' i b)) a S := by
        unfold fOp at h2 ⊢
        cases hs : sp j with
        | none =>
          simp only [hoj, hs] at h2 ⊢
          obtain ⟨u, hu, hk⟩ := h2
          exact ⟨u, hu, ty.set j, hk⟩
        | some x =>
          simp only [hoj, hs] at h2 ⊢
          exact ⟨h2.1, fun b hb => ⟨ty.lay hjun b, h2.2 b hb⟩⟩
      refine fOp_mono (fun a' S' h3 => ih (listed.setIfInBounds j true) a' S' h3.1 hfree' (ready_mono hr (Ne.symm hji)) h3.2.1 (fun b hb => ?_)) h4
      rw [Array.setIfInBounds_comm _ _ hji]
      exact h3.2.2 b hb
def wpFree (P : Program) (ops : Array Oper) (W : World) (sp : Nat -> Option (Obj × (Nat -> Value))) (Q : Act -> (Nat -> Option Nat) -> Prop) : List Oper -> Nat -> Act -> (Nat -> Option Nat) -> Prop
  | [], _, a, S => Q a S
  | o :: rest, k, a, S =>
    match sp k with
    | none => ∃ v, YF P ops W o v a /\ wpFree P ops W sp Q rest (k + 1) (a.put o.dst v) S
    | some (ob, mk) => LF P ops W o ob mk a /\ ∀ b, Fresh W S b -> wpFree P ops W sp Q rest (k + 1) (a.put o.dst (mk b)) (putL S k b)
theorem wpAnyF_lex {Q : Act -> (Nat -> Option Nat) -> Prop} (hs : Region.noSelect ops = true) : ∀ (l : List Oper) (k : Nat) (listed : Array Bool) (a : Act) (S : Nat -> Option Nat), (∀ j, l[j]? = ops[k + j]?) -> Tidy W listed S →
    Region.lexFrom md ops l.length k listed = true -> wpFree P ops W sp Q l k a S -> wpAnyF P md ops W sp Q l.length listed a S
  | [], _, _, _, _, _, _, hB, h => ⟨by simpa [Region.lexFrom] using hB, h⟩
  | o :: l, k, listed, a, S, hl, ty, hB, h => by
    have h0 : ops[k]? = some o := by simpa using (hl 0).symm
    simp only [List.length_cons, Region.lexFrom, Bool.and_eq_true] at hB
    obtain ⟨⟨hr, hf⟩, hB'⟩ := hB
    have hr' : k ∈ Region.ready md ops listed := by simpa using hr
    have hl' : ∀ j, l[j]? = ops[k + 1 + j]? := fun j => by have := hl (j + 1); simpa [Nat.add_assoc, Nat.add_comm 1 j] using this
    cases hsp : sp k with
    | none =>
      simp only [wpFree, hsp] at h
      obtain ⟨v, hy, hK⟩ := h
      exact firstY h0 hsp (Region.noSelect_spec hs) l.length listed a S (Region.free_spec h0 hf) hr' hy
        (wpAnyF_lex hs l (k + 1) _ _ _ hl' (ty.set k) hB' hK)
    | some x =>
      obtain ⟨ob, mk⟩ := x
      simp only [wpFree, hsp] at h
      exact firstL h0 hsp (Region.noSelect_spec hs) l.length listed a S ty (Region.free_spec h0 hf) hr' h.1
        (fun b hb => wpAnyF_lex hs l (k + 1) _ _ _ hl' (ty.lay (mem_ready.1 hr').1 b) hB' (h.2 b hb))
theorem wpOp_of_fOp {i : Nat} {a : Act} {S : Nat -> Option Nat} {K : Act -> (Nat -> Option Nat) -> Prop} {K' : Act -> World -> Prop} {Q' : Exit -> Act -> World -> Prop} {w : World} (hC : Has W sp S w) (h : ∀ a S w', Has W sp S w' -> K a S -> K' a w') (hh : fOp P ops W sp i K a S) : wpOp P ops Q' i K' a w := by
  unfold fOp at hh
  unfold wpOp
  cases ho : ops[i]? with
  | none => simp only [ho] at hh ⊢; exact h _ _ _ hC hh
  | some o =>
    cases hs : sp i with
    | none =>
      simp only [ho, hs] at hh ⊢
      obtain ⟨v, hy, hk⟩ := hh
      rcases hy with ⟨w1, hv⟩ | ⟨w1, rfl⟩
      · rw [if_pos w1]
        refine .inl ?_
        unfold Oper.wp
        rw [hv w hC.1]
        exact h _ _ _ hC hk
      · rw [if_neg (by rw [w1]; exact Bool.false_ne_true)]
        exact h _ _ _ hC hk
    | some x =>
      obtain ⟨ob, mk⟩ := x
      simp only [ho, hs] at hh ⊢
      obtain ⟨⟨w1, hv⟩, hk⟩ := hh
      rw [if_pos w1]
      refine .inl ?_
      unfold Oper.wp
      have q := hv w hC.1
      generalize (execOp a.eval o).run P w = r at q
      match r, q with
      | .ok (.value u) w2, ⟨b, hu, ha, hb, ho2⟩ =>
        subst hu
        exact h _ _ _ (hC.lay hs ha hb ho2) (hk b (hC.freshb hb))
      | .ok (.enter f args) w2, ⟨e, hc⟩ =>
        subst e
        refine Calls.mono hc ?_
        rintro e2 w3 ⟨b, rfl, ha, hb, ho2⟩
        exact h _ _ _ (hC.lay hs ha hb ho2) (hk b (hC.freshb hb))
end
theorem fOp_head {P : Program} {md : Region.Mode} {ops hd : Array Oper} {W : World} {sp : Nat -> Option (Obj × (Nat -> Value))} {n : Nat} (hhd : ∀ i, i < n -> hd[i]? = ops[i]?) (hb : backB md ops n = true) {i : Nat} (hi : i < n) {K : Act -> (Nat -> Option Nat) -> Prop} {a : Act} {S : Nat -> Option Nat} (h : fOp P hd W sp i K a S) : fOp P ops W sp i K a S := by
  unfold fOp at *
  rw [hhd i hi] at h
  cases ho : ops[i]? with
  | none => rw [ho] at h; exact h
  | some o =>
    have e : Region.wanted o (yielded hd a.tmps) = Region.wanted o (yielded ops a.tmps) := by
      unfold Region.wanted
      cases hg : o.guard with
      | none => rfl
      | some jb =>
        obtain ⟨j, b⟩ := jb
        have lt := (back_spec hb hi ho).2 j b hg
        show (yielded hd a.tmps j == some b) = (yielded ops a.tmps j == some b)
        unfold yielded
        rw [hhd j lt]
    simp only [ho] at h ⊢
    cases hs : sp i with
    | none =>
      simp only [hs] at h ⊢
      unfold YF at *
      rw [e] at h
      exact h
    | some x =>
      simp only [hs] at h ⊢
      unfold LF at *
      rw [e] at h
      exact h
theorem wpAny_of_headF {P : Program} {md : Region.Mode} {ops hd : Array Oper} {W : World} {sp : Nat -> Option (Obj × (Nat -> Value))} {n : Nat} {g : Nat} {Q1 : Act -> (Nat -> Option Nat) -> Prop} {Q' : Exit -> Act -> World -> Prop} (hhd : ∀ i, i < n -> hd[i]? = ops[i]?) (hsz : hd.size = n) (hn : n < ops.size) (hb : backB md ops n = true) (hs : Region.sinkB md ops n = true) (hc : Region.chainB md ops n = true)
    (hL : ∀ a S w, Has W sp S w -> Q1 a S -> wpAny P md ops Q' g (finA ops.size n) a w) :
    ∀ (fuel : Nat) (listed lh : Array Bool) (a : Act) (S : Nat -> Option Nat) (w : World), Has W sp S w -> HeadInv md ops n listed -> lh.size = n -> (∀ i, i < n -> lh.getD i true = listed.getD i true) →
      wpAnyF P md hd W sp Q1 fuel lh a S -> wpAny P md ops Q' (fuel + g) listed a w := by
  intro fuel
  induction fuel with
  | zero =>
    intro listed lh a S w hC inv hl he h
    have hls : n <= listed.size := by rw [inv.size]; omega
    rcases some_ready (by omega) hb hls with all | ⟨i, hi, hr⟩
    · rw [Nat.zero_add, fin_of hn inv all]
      exact hL a S w hC h.2
    · have := (ready_head hhd hb hl hls he hi).2 hr
      rw [h.1] at this
      cases this
  | succ fuel ih =>
    intro listed lh a S w hC inv hl he h
    have hls : n <= listed.size := by rw [inv.size]; omega
    rcases some_ready (by omega) hb hls with all | ⟨i0, hi0, hr0⟩
    · have no : Region.ready md hd lh = [] := by
        rw [List.eq_nil_iff_forall_not_mem]
        intro i hi
        obtain ⟨u, o, ho, _⟩ := mem_ready.1 hi
        have lt : i < n := by rw [<- hsz]; exact (Array.getElem?_eq_some_iff.1 ho).1
        rw [he i lt, all i lt] at u
        cases u
      rw [Nat.add_comm (fuel + 1) g, fin_of hn inv all]
      exact wpAny_more g (fuel + 1) _ a w (hL a S w hC (h.1 no))
    · rw [show fuel + 1 + g = (fuel + g) + 1 by omega]
      refine ⟨fun h0 => (by rw [h0] at hr0; cases hr0), fun i hi => ?_⟩
      have lt : i < n := by
        by_cases c : i < n
        · exact c
        · exact absurd hi (tail_waits hs hc hn inv _ i0 rfl hi0 (mem_ready.1 hr0).1 i (by omega))
      have hq := fOp_head hhd hb lt (h.2 i ((ready_head hhd hb hl hls he lt).2 hi))
      refine wpOp_of_fOp hC (fun a' S' w' hC' h' => ih _ _ a' S' w' hC' (inv.set hi lt) (by simp [hl]) (fun j hj => ?_) h') hq
      by_cases e : i = j
      · subst e
        simp [hl, lt, show i < listed.size by omega]
      · rw [getD_set_ne true e, getD_set_ne true e, he j hj]
theorem region_free {P : Program} {id : Nat} {Q : Exit -> Act -> World -> Prop} {a : Act} {w : World} {l : List Oper} (n : Nat) (sp : Nat -> Option (Obj × (Nat -> Value))) (hm : P.follows .mixedOrders = true) (hB : Region.lexB .any (l.take n).toArray = true) (hT : tailB l.toArray n = true)
    (h : wpFree P (l.take n).toArray w.drew sp (fun a' S => ∀ w', Has w.drew sp S w' -> wpList P l.toArray Q (l.drop n) a' w') (l.take n) 0 a (fun _ => none)) : (Code.region id l.toArray true).wp P Q a w := by
  simp only [tailB, Bool.and_eq_true, decide_eq_true_eq] at hT
  obtain ⟨⟨⟨⟨hn, hb⟩, hs⟩, hc⟩, hq⟩ := hT
  have hn' : n < l.length := by simpa using hn
  have htl : (l.take n).toArray.size = n := by simp; omega
  have hdl : (l.drop n).length = l.toArray.size - n := by simp
  refine wp_region_any hm ?_
  simp only [Region.lexB, Bool.and_eq_true] at hB
  have H := wpAnyF_lex (P := P) (W := w.drew) (sp := sp) (md := .any) hB.1 (l.take n) 0 (Array.replicate (l.take n).toArray.size false) a (fun _ => none) (by simp) ⟨fun _ _ => rfl, w.drew.heap.size, Nat.le_refl _, fun i c e => by cases e⟩ (by simpa using hB.2) h
  have inv0 : HeadInv .any l.toArray n (Array.replicate l.toArray.size false) :=
    ⟨by simp, fun j oj _ hl => (by rw [getD_replicate_false] at hl; cases hl), fun t _ ht => getD_in (by simpa using ht) (getD_replicate_false _ _)⟩
  have := wpAny_of_headF (P := P) (Q' := Q) (g := l.toArray.size - n) (hd := (l.take n).toArray) (ops := l.toArray) (fun i hi => by simp [hi]) htl hn hb hs hc
    (fun a' S' w' hC' h' => by
      have := wpAny_of_seq (P := P) (md := .any) (ops := l.toArray) (Q' := Q) (l.drop n) n (finA l.toArray.size n) a' w' (fun j => by simp) (by rw [hdl]; exact hq) (h' w' hC')
      rwa [hdl] at this)
    (l.take n).length _ _ a (fun _ => none) w.drew ⟨Ab.refl _, fun i b e => by cases e⟩ inv0 (by simpa using htl) (fun i hi => by
      rw [getD_in (listed := Array.replicate l.toArray.size false) (by simp; omega) (getD_replicate_false _ _)]
      exact getD_in (by rw [Array.size_replicate]; omega) (getD_replicate_false _ _)) H
  have e : (l.take n).length + (l.toArray.size - n) = l.toArray.size := by simp; omega
  rw [e] at this
  exact this
section
variable {P : Program} {ops : Array Oper} {W : World} {sp : Nat -> Option (Obj × (Nat -> Value))} {Q : Act -> (Nat -> Option Nat) -> Prop} {o : Oper} {rest : List Oper} {k : Nat} {a : Act} {S : Nat -> Option Nat}
theorem wpFree_one {U : Type} {F : U -> World} (HF : Hid (∀ w', Ab W w' -> ∃ u, w' = F u)) (hs : sp k = none) (hp : plainB o.op = true) (h : wpQuiet P ops (fun w' => ∃ u, w' = F u) (fun a' => wpFree P ops W sp Q rest (k + 1) a' S) [o] a) : wpFree P ops W sp Q (o :: rest) k a S := by
  simp only [wpFree, hs]
  simp only [wpQuiet] at h
  by_cases c : Region.wanted o (yielded ops a.tmps) = true
  · rw [if_pos c] at h
    obtain ⟨v, h1, h2⟩ := h
    refine ⟨v, .inl ⟨c, fun w hw => ?_⟩, h2⟩
    have q := h1 w (HF.out w hw)
    unfold Oper.quietAt at q
    cases e : (execOp a.eval o).run P w with
    | ok n w' =>
      obtain ⟨x, rfl⟩ := plain_value hp e
      rw [e] at q
      obtain ⟨q1, q2⟩ := q
      rw [q1, q2]
    | halt x w' => rw [e] at q; exact absurd q (by simp [Oper.quietUpon])
  · rw [if_neg c] at h
    exact ⟨undef, .inr ⟨by simpa using c, rfl⟩, h⟩
theorem wpFree_lay {ob : Obj} {mk : Nat -> Value} (hs : sp k = some (ob, mk)) (hw : Region.wanted o (yielded ops a.tmps) = true) (hr : ∀ w, Ab W w -> LayR P w ob mk ((execOp a.eval o).run P w))
    (h : ∀ b, Fresh W S b -> wpFree P ops W sp Q rest (k + 1) (a.put o.dst (mk b)) (putL S k b)) : wpFree P ops W sp Q (o :: rest) k a S := by
  simp only [wpFree, hs]
  exact ⟨⟨hw, hr⟩, h⟩
theorem lay_run {ob : Obj} {mk : Nat -> Value} (h : ∀ w, Ab W w -> (execOp a.eval o).run P w = .ok (.value (mk w.heap.size)) (w.alloc ob)) : ∀ w, Ab W w -> LayR P w ob mk ((execOp a.eval o).run P w) := fun w hw => by
  rw [h w hw]
  exact ⟨w.heap.size, rfl, bl1 _ _, Nat.le_refl _, heap_alloc_new _ _⟩
theorem lay_call {ob : Obj} {mk : Nat -> Value} {f : FuncId} {args : Array Value} (h1 : ∀ w, (execOp a.eval o).run P w = .ok (.enter f args) w) (h2 : ∀ w, Ab W w -> Calls P f args w (fun e w2 => ∃ b, e = .returned (mk b) /\ Ab w w2 /\ w.heap.size <= b /\ w2.heap[b]? = some ob)) : ∀ w, Ab W w -> LayR P w ob mk ((execOp a.eval o).run P w) := fun w hw => by
  rw [h1 w]
  exact ⟨rfl, h2 w hw⟩
theorem run_val {s : Sem Value} {w w' : World} {x : Value} (h : s.run P w = .ok x w') : (do pure (Next.value (← s)) : Sem Next).run P w = .ok (.value x) w' := by
  rw [Sem.run_bind, h]
  rfl
theorem lay_make {t : TypeId} {x y : Operand} {vx vy : Value} {mk : Nat -> Value} {ob : Obj} (ho : o.op = .makeSlice t x y) (hx : a.eval x = vx) (hy : a.eval y = vy) (M : ∀ w : World, (Instr.makeSlice t vx vy).run P w = .ok (mk w.heap.size) (w.alloc ob)) :
    ∀ w, Ab W w -> (execOp a.eval o).run P w = .ok (.value (mk w.heap.size)) (w.alloc ob) := by
  intro w _
  unfold execOp
  rw [ho]
  simp only [hx, hy]
  exact run_val (M w)
theorem lay_alloc {t : TypeId} {mk : Nat -> Value} {ob : Obj} (ho : o.op = .alloc t) (M : ∀ w : World, (Instr.alloc t true (.tuple #[])).run P w = .ok (mk w.heap.size) (w.alloc ob)) :
    ∀ w, Ab W w -> (execOp a.eval o).run P w = .ok (.value (mk w.heap.size)) (w.alloc ob) := by
  intro w _
  unfold execOp
  rw [ho]
  exact run_val (M w)
theorem wpFree_nil (h : Q a S) : wpFree P ops W sp Q [] k a S := h
end
theorem Has.at {W : World} {sp : Nat -> Option (Obj × (Nat -> Value))} {S : Nat -> Option Nat} {w : World} (h : Has W sp S w) {i b : Nat} {ob : Obj} {mk : Nat -> Value} (e : S i = some b) (s : sp i = some (ob, mk)) : w.heap[b]? = some ob /\ W.heap.size <= b := by
  obtain ⟨h1, o, m, h2, h3⟩ := h.2 i b e
  rw [s] at h2
  injection h2 with h2
  injection h2 with h2
  subst h2
  exact ⟨h3, h1⟩
end Cf
end Go.Proofs.YtdigecacmibkpaaGreatDoor

namespace Go.Proofs.YtdigecacmibkpaaGreatDoor
open Go.RowKit Tf Cu Go.Deep
attribute [local go_sem] run_bits run_from raw_feq raw_fne raw_flt raw_fgt run_neg run_store_float
namespace Fc
theorem madeCells_size16 (z : Value) (n : Nat) : (madeCells #[z] n).size = n := by
  obtain ⟨c, h1, h2⟩ := World.rowIs_made default z n 0
  have e := heap_alloc_new (default : World) (Obj.cells (madeCells #[z] n) 0)
  rw [e] at h1
  injection h1 with h1
  injection h1 with h1
  rw [h1]
  exact h2.1
theorem copy16 (pa : Option Addr) (len ca : Nat) (xs : Nat -> Nat) (w : World) (hA : IsFl w pa len xs) :
    ∃ v', (Builtin.copy_ #[30, 30] 3 #[.slice (some ⟨w.heap.size, 0, none⟩) len len, .slice pa len ca]).run Tryz.prog (w.alloc (Obj.cells (madeCells #[.float .f64 0] len) 22)) = .ok (goInt len) v' /\ Below w.heap.size w v' /\ v'.rowIs w.heap.size 22 len (fun i => .float .f64 (xs i)) := by
  have hs : (Tryz.prog.info? 22).map (·.size) = some 1 := by kernel_rfl
  by_cases c : len = 0
  · subst c
    exact ⟨_, run_copy_none _ _ _ _ 22 _ _ _ _ _ _ Tryz.underlying30 hs (by simp), bl1 _ _, (World.rowIs_made _ _ _ _).congr (fun i hi => by omega)⟩
  · obtain ⟨-, b, o, rfl, -, -⟩ := hA 0 (by omega)
    have sz := madeCells_size16 (.float .f64 0) len
    refine ⟨_, (run_copy_row Tryz.prog (w.alloc (Obj.cells (madeCells #[.float .f64 0] len) 22)) _ _ _ 22 w.heap.size 0 len len ⟨b, o, none⟩ len ca (madeCells #[.float .f64 0] len) 22 ((List.range len).map (fun i => .float .f64 (xs i))) Tryz.underlying30 hs (heap_alloc_new _ _) (by simp) ?_ (by simp [sz]) (by simp [Value.oneCell'])).trans (by simp; rfl), ?_, ?_⟩
    · intro j v hj
      obtain ⟨hj1, hj2⟩ := List.getElem?_eq_some_iff.1 hj
      simp at hj1 hj2
      have h := hA.at0 hj1
      rw [add_off12, (bl1 w _).cell (p := ⟨b, o + j, none⟩) h.2.1, h.2.2, <- hj2]
    · exact below_setRow (bl1 _ _) (Nat.le_refl _) _
    · refine ⟨_, setRow_heap _ _ _ _ _ _ (heap_alloc_new _ _), ?_⟩
      have e : (madeCells #[Value.float .f64 0] len).toList.drop len = [] := by simp [sz]
      rw [e, List.append_nil]
      refine ⟨by simp, fun i hi => ?_⟩
      simp [hi]
theorem rcopied16 (pa : Option Addr) (len ca : Nat) (xs : Nat -> Nat) (w : World) (hl : len <= 4294967296) (hA : IsFl w pa len xs) :
    Calls Tryz.prog 61 #[.slice pa len ca] w fun e w' => ∃ b, e = .returned (.slice (some ⟨b, 0, none⟩) len len) /\ Below w.heap.size w w' /\ w'.rowIs b 22 len (fun i => .float .f64 (xs i)) /\ w.heap.size <= b := by
  have M1 : ∀ v : World, (Instr.makeSlice 30 (.int .i64 (len : Nat)) (.int .i64 (len : Nat))).run Tryz.prog v = .ok (.slice (some ⟨v.heap.size, 0, none⟩) len len) (v.alloc (Obj.cells (madeCells #[.float .f64 0] len) 22)) := fun v =>
    run_make_row' (P := Tryz.prog) 30 22 (.float .f64 0) 8 Tryz.underlying30 infoF64 rfl .i64 .i64 len (by omega) (by omega) v
  have HA := hid hA
  clear hA hl
  go_enter Tryz.func61, Tryz.ntmps61
  obtain ⟨v', CP, bv, rv⟩ := copy16 pa len ca xs w HA.out
  have BV := hid bv
  have RV := hid rv
  clear bv rv HA
  go_wp2
  go_ret
  exact ⟨_, rfl, BV.out, RV.out, Nat.le_refl _⟩
end Fc
end Go.Proofs.YtdigecacmibkpaaGreatDoor

namespace Go.Proofs.YtdigecacmibkpaaGreatDoor
open Go.RowKit Go.Deep
namespace Rn
open Sh
def cl4 (r : Int × Int × Int × Int) : List Value := [.int .i64 r.1, .int .i64 r.2.1, .int .i64 r.2.2.1, .int .i64 r.2.2.2]
def OwnR (B : Nat) (v : Value) (l : List (Int × Int × Int × Int)) (w : World) : Prop := w.ownsRow B 60 4 v l.length (l.flatMap cl4)
theorem cl4_at : ∀ (l : List (Int × Int × Int × Int)) (k j : Nat), k < l.length -> j < 4 -> (l.flatMap cl4)[k * 4 + j]? = (cl4 (l.getD k (0, 0, 0, 0)))[j]?
  | [], k, _, hk, _ => absurd hk (Nat.not_lt_zero k)
  | r :: l, 0, j, _, hj => by
    rw [List.flatMap_cons, List.getElem?_append_left (by show _ < 4; omega)]
    simp [List.getD]
  | r :: l, k + 1, j, hk, hj => by
    rw [List.flatMap_cons, List.getElem?_append_right (by show 4 <= _; omega)]
    have e : (k + 1) * 4 + j - (cl4 r).length = k * 4 + j := by show (k + 1) * 4 + j - 4 = _; omega
    rw [e, cl4_at l k j (by simpa using hk) hj]
    simp [List.getD]
theorem OwnR.in {B : Nat} {v : Value} {l : List (Int × Int × Int × Int)} {w : World} (h : OwnR B v l w) (h4 : ∀ r ∈ l, W4 r) : ∃ a0 cap, v = .slice a0 l.length cap /\ IsRn w a0 l.length (fun j => l.getD j (0, 0, 0, 0)) := by
  rcases h.2 with ⟨rfl, h0⟩ | ⟨g, cap, cur, rfl, hb, hg, h1, h2, h3, h5⟩
  · exact ⟨none, 0, by rw [h0], fun k hk => by omega⟩
  · refine ⟨some ⟨g, 0, none⟩, cap, rfl, fun k hk => ?_⟩
    have hx : l.getD k (0, 0, 0, 0) = l[k] := by simp [List.getD, hk]
    have cc : ∀ j, j < 4 -> ∀ u, (cl4 (l.getD k (0, 0, 0, 0)))[j]? = some u -> w.cell? ⟨g, k * 4 + j, none⟩ = some u := fun j hj u hu => by
      have e := h.cells (g := g) rfl (k * 4 + j) u (by rw [cl4_at l k j hk hj]; exact hu)
      rw [Sh.add_off, Nat.zero_add] at e
      exact e
    refine ⟨by dsimp only; rw [hx]; exact h4 _ (List.getElem_mem _), g, 0, rfl, lt_of_block hg, ?_, ?_, ?_, ?_⟩
    · rw [Nat.zero_add]; exact cc 0 (by omega) _ rfl
    · rw [Nat.zero_add]; exact cc 1 (by omega) _ rfl
    · rw [Nat.zero_add]; exact cc 2 (by omega) _ rfl
    · rw [Nat.zero_add]; exact cc 3 (by omega) _ rfl
theorem OwnR.to {B : Nat} {v : Value} {l : List (Int × Int × Int × Int)} {w w' : World} (h : OwnR B v l w) (hb : Ab w w') : OwnR B v l w' := by
  refine ⟨h.1, ?_⟩
  rcases h.2 with h0 | ⟨g, cap, cur, e, hb', hg, h1, h2, h3, h4⟩
  · exact .inl h0
  · exact .inr ⟨g, cap, cur, e, hb', hb.heap hg, h1, h2, h3, h4⟩
end Rn
end Go.Proofs.YtdigecacmibkpaaGreatDoor

namespace Go.Proofs.YtdigecacmibkpaaGreatDoor
open Go.RowKit Go.Deep
namespace Rn
open Sh
def f4 (r : Int × Int × Int × Int) (j : Nat) : Int := if j = 0 then r.1 else if j = 1 then r.2.1 else if j = 2 then r.2.2.1 else r.2.2.2
def RAt (w : World) (g m : Nat) (R : Nat -> Int × Int × Int × Int) : Prop := w.rowIs g 60 (m * 4) (fun i => .int .i64 (f4 (R (i / 4)) (i % 4)))
theorem RAt.c {w : World} {g m k j : Nat} {R : Nat -> Int × Int × Int × Int} (h : RAt w g m R) (hk : k < m) (hj : j < 4) : w.cell? ⟨g, k * 4 + j, none⟩ = some (.int .i64 (f4 (R k) j)) := by
  have e := World.rowIs.cell h (i := k * 4 + j) (by omega)
  rw [e]
  have h1 : (k * 4 + j) % 4 = j := by omega
  have h2 : (k * 4 + j) / 4 = k := by omega
  simp only [h1, h2]
theorem RAt.rn {w : World} {g m n : Nat} {R : Nat -> Int × Int × Int × Int} (h : RAt w g m R) (hn : n <= m) (h4 : ∀ k, k < n -> W4 (R k)) : IsRn w (some ⟨g, 0, none⟩) n R := fun k hk => ⟨h4 k hk, g, 0, rfl, World.rowIs.lt h, by
  rw [Nat.zero_add]
  exact ⟨RAt.c (j := 0) h (by omega) (by omega), RAt.c (j := 1) h (by omega) (by omega), RAt.c (j := 2) h (by omega) (by omega), RAt.c (j := 3) h (by omega) (by omega)⟩⟩
theorem RAt.to {w w' : World} {g m : Nat} {R : Nat -> Int × Int × Int × Int} (h : RAt w g m R) (a : Ab w w') : RAt w' g m R := Sh.row_ab h a
theorem RAt.congr {w : World} {g m : Nat} {R Q : Nat -> Int × Int × Int × Int} (h : RAt w g m R) (e : ∀ k, k < m -> R k = Q k) : RAt w g m Q := World.rowIs.congr h (fun i hi => by rw [e (i / 4) (by omega)])
theorem RAt.put {w : World} {g m c : Nat} {R : Nat -> Int × Int × Int × Int} (h : RAt w g m R) (r : Int × Int × Int × Int) :
    RAt ((((w.setCell ⟨g, c * 4, none⟩ (.int .i64 r.1)).setCell ⟨g, c * 4 + 1, none⟩ (.int .i64 r.2.1)).setCell ⟨g, c * 4 + 2, none⟩ (.int .i64 r.2.2.1)).setCell ⟨g, c * 4 + 3, none⟩ (.int .i64 r.2.2.2)) g m (fun k => if k = c then r else R k) := by
  refine ((((World.rowIs.set h (c * 4) (.int .i64 r.1)).set (c * 4 + 1) (.int .i64 r.2.1)).set (c * 4 + 2) (.int .i64 r.2.2.1)).set (c * 4 + 3) (.int .i64 r.2.2.2)).congr (fun i _ => ?_)
  by_cases e : i / 4 = c
  · have q : i = c * 4 \/ i = c * 4 + 1 \/ i = c * 4 + 2 \/ i = c * 4 + 3 := by omega
    rcases q with rfl | rfl | rfl | rfl
    · simp [f4]
    · simp [f4, show (c * 4 + 1) / 4 = c by omega, show (c * 4 + 1) % 4 = 1 by omega]
    · simp [f4, show (c * 4 + 2) / 4 = c by omega, show (c * 4 + 2) % 4 = 2 by omega]
    · simp [f4, show (c * 4 + 3) / 4 = c by omega, show (c * 4 + 3) % 4 = 3 by omega]
  · have n0 : i ≠ c * 4 := by omega
    have n1 : i ≠ c * 4 + 1 := by omega
    have n2 : i ≠ c * 4 + 2 := by omega
    have n3 : i ≠ c * 4 + 3 := by omega
    simp [e, n0, n1, n2, n3]
end Rn
end Go.Proofs.YtdigecacmibkpaaGreatDoor

namespace Go.Proofs.YtdigecacmibkpaaGreatDoor
open Go.RowKit Tf Cu Go.Deep
attribute [local go_sem] run_bits run_from raw_feq raw_fne raw_flt raw_fgt run_neg run_store_float
namespace Ss
theorem row_obj {w : World} {b n : Nat} {t : TypeId} {f : Nat -> Value} (h : w.rowIs b t n f) : w.heap[b]? = some (.cells ((List.range n).map f).toArray t) := by
  obtain ⟨c, h1, h2, h3⟩ := h
  rw [h1]
  have e : c = ((List.range n).map f).toArray := by
    apply Array.ext_getElem?
    intro i
    by_cases hi : i < n
    · rw [h3 i hi]
      simp [hi]
    · rw [Array.getElem?_eq_none (by omega), Array.getElem?_eq_none (by simp; omega)]
  rw [e]
theorem obj_row {w : World} {b n : Nat} {t : TypeId} {f : Nat -> Value} (h : w.heap[b]? = some (.cells ((List.range n).map f).toArray t)) : w.rowIs b t n f := ⟨_, h, by simp, fun i hi => by simp [hi]⟩
theorem rows_own {B g n : Nat} {t : TypeId} {F : Nat -> Value} {w : World} (h : w.rowIs g t n F) (hB : B <= g) (hc : n <= maxLen) : w.ownsRow B t 1 (.slice (some ⟨g, 0, none⟩) n n) n ((List.range n).map F) := by
  obtain ⟨c, hb, hs, hf⟩ := h
  refine ⟨by simp, .inr ⟨g, n, c, rfl, hB, hb, Nat.le_refl _, hc, by omega, ?_⟩⟩
  apply List.ext_getElem?
  intro i
  by_cases hi : i < n
  · have := hf i hi
    simp [hi, this]
  · simp [hi, hs]
theorem ownG_row {B g n : Nat} {f : Nat -> Nat} {w : World} (h : w.rowIs g 22 n (fun i => .float .f64 (f i))) (hB : B <= g) (hc : n <= maxLen) : OwnG B (.slice (some ⟨g, 0, none⟩) n n) ((List.range n).map f) w := by
  have q := rows_own h hB hc
  unfold OwnG
  simpa [Function.comp_def] using q
theorem own_rowI {B g n : Nat} {f : Nat -> Int} {w : World} (h : w.rowIs g 2 n (fun i => .int .i64 (f i))) (hB : B <= g) (hc : n <= maxLen) : Sh.Own B (.slice (some ⟨g, 0, none⟩) n n) ((List.range n).map f) w := by
  have q := rows_own h hB hc
  unfold Sh.Own
  simpa [Function.comp_def] using q
theorem enter_run {P : Program} {a : Act} {o : Oper} {x : Operand} {f : FuncId} {fn : Func} {ats : Array TypeId} {v : Value} (ho : o.op = .call { callee := .value (.func f), args := #[x], argTypes := ats }) (hx : a.eval x = v) (hf : P.funcs[f]? = some fn) (hn : (fn.name == "runtime.NumGoroutine") = false) (hb : fn.body.isNone = false) (w : World) : (execOp a.eval o).run P w = .ok (.enter f #[v]) w := by
  have h1 : fn.name ≠ "runtime.NumGoroutine" := by simpa using hn
  have ef : a.eval (.func f) = .func (.func f) #[] #[] := rfl
  have e : execOp a.eval o = callFunc f #[v] := by
    unfold execOp
    simp [ho, resolve, Deferred.ofValue, invoke, ef, hx]
  obtain ⟨c, hc⟩ : ∃ c, fn.body = some c := by
    cases h : fn.body with
    | none => simp [h] at hb
    | some c => exact ⟨c, rfl⟩
  rw [e]
  simp [callFunc, hf, h1, hc]
end Ss
end Go.Proofs.YtdigecacmibkpaaGreatDoor

namespace Go.Proofs.YtdigecacmibkpaaGreatDoor
open Go.RowKit Tf Cu Go.Deep
attribute [local go_sem] run_bits run_from raw_feq raw_fne raw_flt raw_fgt run_neg run_store_float
namespace Ss
def SeaIn (M g : Nat) (p1 : Option Addr) (c1 : Nat) (p2 : Option Addr) (c2 : Nat) (p3 : Option Addr) (c3 : Nat) (p4 : Option Addr) (c4 : Nat) (n1 n2 n3 n4 : Nat) (A : Nat -> Nat) (B C : Nat -> Int) (D : Nat -> Nat) (sk st : Int) (v : World) : Prop :=
  v.heap[g]? = some (.cells #[.slice p1 n1 c1, .slice p2 n2 c2, .slice p3 n3 c3, .slice p4 n4 c4, .int .i64 sk, .int .i64 st] 33) /\ (IsFl v p1 n1 A /\ Sh.IsI v p2 n2 B /\ Sh.IsI v p3 n3 C /\ IsFl v p4 n4 D) /\ (OV 22 M (.slice p1 n1 c1) (((List.range n1).map A).map (Value.float .f64)) v /\ OV 2 M (.slice p2 n2 c2) (((List.range n2).map B).map (Value.int .i64)) v /\ OV 2 M (.slice p3 n3 c3) (((List.range n3).map C).map (Value.int .i64)) v /\ OV 22 M (.slice p4 n4 c4) (((List.range n4).map D).map (Value.float .f64)) v) /\ (∀ k, ((Value.slice p1 n1 c1).ownBlock = some k \/ (Value.slice p2 n2 c2).ownBlock = some k \/ (Value.slice p3 n3 c3).ownBlock = some k \/ (Value.slice p4 n4 c4).ownBlock = some k) -> k < g) /\ (Dj (.slice p1 n1 c1) (.slice p2 n2 c2) /\ Dj (.slice p1 n1 c1) (.slice p3 n3 c3) /\ Dj (.slice p1 n1 c1) (.slice p4 n4 c4) /\ Dj (.slice p2 n2 c2) (.slice p3 n3 c3) /\ Dj (.slice p2 n2 c2) (.slice p4 n4 c4) /\ Dj (.slice p3 n3 c3) (.slice p4 n4 c4))
theorem SeaIn.q {M g : Nat} {p1 : Option Addr} {c1 : Nat} {p2 : Option Addr} {c2 : Nat} {p3 : Option Addr} {c3 : Nat} {p4 : Option Addr} {c4 : Nat} {n1 n2 n3 n4 : Nat} {A : Nat -> Nat} {B C : Nat -> Int} {D : Nat -> Nat} {sk st : Int} {v v' : World} {P : Nat -> Prop} (h : SeaIn M g p1 c1 p2 c2 p3 c3 p4 c4 n1 n2 n3 n4 A B C D sk st v) (a : Rv.AbQ v P v') (hP : ∀ k, P k -> k < M \/ g < k) (hM : M <= g) : SeaIn M g p1 c1 p2 c2 p3 c3 p4 c4 n1 n2 n3 n4 A B C D sk st v' := by
  obtain ⟨h1, ⟨i1, i2, i3, i4⟩, ⟨o1, o2, o3, o4⟩, hk, dj⟩ := h
  have nt : ∀ k, M <= k -> k < g -> ¬ P k := fun k x y q => by have := hP k q; omega
  have ob : ∀ (p : Option Addr) (n c b o : Nat), p = some ⟨b, o, none⟩ -> (Value.slice p n c).ownBlock = some b := fun p n c b o e => by subst e; rfl
  refine ⟨Rv.AbQ.heap a h1 (fun q => by have := hP _ q; omega), ⟨Rv.AbQ.isFl a i1 (fun b o e => nt b (o1.blk (ob _ _ _ _ _ e)).1 (hk b (.inl (ob _ _ _ _ _ e)))), Rv.AbQ.isI a i2 (fun b o e => nt b (o2.blk (ob _ _ _ _ _ e)).1 (hk b (.inr (.inl (ob _ _ _ _ _ e))))), Rv.AbQ.isI a i3 (fun b o e => nt b (o3.blk (ob _ _ _ _ _ e)).1 (hk b (.inr (.inr (.inl (ob _ _ _ _ _ e)))))), Rv.AbQ.isFl a i4 (fun b o e => nt b (o4.blk (ob _ _ _ _ _ e)).1 (hk b (.inr (.inr (.inr (ob _ _ _ _ _ e))))))⟩, ⟨o1.blkeq (fun k e => a.2.2.2.2 k (o1.blk e).2 (nt k (o1.blk e).1 (hk k (.inl e)))), o2.blkeq (fun k e => a.2.2.2.2 k (o2.blk e).2 (nt k (o2.blk e).1 (hk k (.inr (.inl e))))), o3.blkeq (fun k e => a.2.2.2.2 k (o3.blk e).2 (nt k (o3.blk e).1 (hk k (.inr (.inr (.inl e)))))), o4.blkeq (fun k e => a.2.2.2.2 k (o4.blk e).2 (nt k (o4.blk e).1 (hk k (.inr (.inr (.inr e))))))⟩, hk, dj⟩
theorem SeaIn.to {M g : Nat} {p1 : Option Addr} {c1 : Nat} {p2 : Option Addr} {c2 : Nat} {p3 : Option Addr} {c3 : Nat} {p4 : Option Addr} {c4 : Nat} {n1 n2 n3 n4 : Nat} {A : Nat -> Nat} {B C : Nat -> Int} {D : Nat -> Nat} {sk st : Int} {v v' : World} (h : SeaIn M g p1 c1 p2 c2 p3 c3 p4 c4 n1 n2 n3 n4 A B C D sk st v) (a : Ab v v') (hM : M <= g) : SeaIn M g p1 c1 p2 c2 p3 c3 p4 c4 n1 n2 n3 n4 A B C D sk st v' := h.q (Rv.AbQ.to (Rv.AbQ.refl v (fun _ => False)) a) (fun _ q => q.elim) hM
theorem SeaIn.k {M g : Nat} {p1 : Option Addr} {c1 : Nat} {p2 : Option Addr} {c2 : Nat} {p3 : Option Addr} {c3 : Nat} {p4 : Option Addr} {c4 : Nat} {n1 n2 n3 n4 : Nat} {A : Nat -> Nat} {B C : Nat -> Int} {D : Nat -> Nat} {sk st : Int} {v : World} (h : SeaIn M g p1 c1 p2 c2 p3 c3 p4 c4 n1 n2 n3 n4 A B C D sk st v) : K20 v M (fun k => M <= k /\ k < g) (((List.range n1).map A).map (Value.float .f64)) (((List.range n2).map B).map (Value.int .i64)) (((List.range n3).map C).map (Value.int .i64)) (((List.range n4).map D).map (Value.float .f64)) (.slice p1 n1 c1) (.slice p2 n2 c2) (.slice p3 n3 c3) (.slice p4 n4 c4) v := by
  obtain ⟨h1, _, ⟨o1, o2, o3, o4⟩, hk, dj⟩ := h
  exact ⟨Rv.AbQ.refl _ _, o1, o2, o3, o4, dj, fun k e => .inl ⟨(o1.blk e).1, hk k (.inl e)⟩, fun k e => .inl ⟨(o2.blk e).1, hk k (.inr (.inl e))⟩, fun k e => .inl ⟨(o3.blk e).1, hk k (.inr (.inr (.inl e)))⟩, fun k e => .inl ⟨(o4.blk e).1, hk k (.inr (.inr (.inr e)))⟩⟩
def Bnd (n1 n2 n3 n4 : Nat) (A : Nat -> Nat) (B C : Nat -> Int) (D : Nat -> Nat) : Prop := (∀ i, i < n1 -> A i < 18446744073709551616) /\ (∀ i, i < n2 -> Sh.W64 (B i)) /\ (∀ i, i < n3 -> Sh.W64 (C i)) /\ (∀ i, i < n4 -> D i < 18446744073709551616)
theorem sea_new {M : Nat} {vv : Value} {n1 n2 n3 n4 : Nat} {A : Nat -> Nat} {B C : Nat -> Int} {D : Nat -> Nat} {sk st : Int} {u : World} (h : OwnS M vv n1 n2 n3 n4 A B C D sk st u) (hb : Bnd n1 n2 n3 n4 A B C D) :
    ∃ p1 c1 p2 c2 p3 c3 p4 c4, vv = .agg #[.slice p1 n1 c1, .slice p2 n2 c2, .slice p3 n3 c3, .slice p4 n4 c4, .int .i64 sk, .int .i64 st] /\ SeaIn M u.heap.size p1 c1 p2 c2 p3 c3 p4 c4 n1 n2 n3 n4 A B C D sk st (u.alloc (.cells #[.slice p1 n1 c1, .slice p2 n2 c2, .slice p3 n3 c3, .slice p4 n4 c4, .int .i64 sk, .int .i64 st] 33)) := by
  obtain ⟨p1, c1, p2, c2, p3, c3, p4, c4, e, ⟨i1, i2, i3, i4⟩, ⟨o1, o2, o3, o4⟩, dj⟩ := own_k20 h hb.1 hb.2.1 hb.2.2.1 hb.2.2.2
  have a : ∀ o, Ab u (u.alloc o) := fun o => bl1 _ _
  exact ⟨p1, c1, p2, c2, p3, c3, p4, c4, e, heap_alloc_new _ _, ⟨i1.below (a _), i2.below (a _), i3.below (a _), i4.below (a _)⟩, ⟨o1.to (a _), o2.to (a _), o3.to (a _), o4.to (a _)⟩, fun k q => by
    rcases q with q | q | q | q
    · exact (o1.blk q).2
    · exact (o2.blk q).2
    · exact (o3.blk q).2
    · exact (o4.blk q).2, dj⟩
theorem own_zero (M : Nat) (w : World) : OwnS M (.agg #[.slice none 0 0, .slice none 0 0, .slice none 0 0, .slice none 0 0, .int .i64 0, .int .i64 0]) 0 0 0 0 (fun _ => 0) (fun _ => 0) (fun _ => 0) (fun _ => 0) 0 0 w :=
  ⟨_, _, _, _, rfl, ⟨by simp, .inl ⟨rfl, rfl⟩⟩, ⟨by simp, .inl ⟨rfl, rfl⟩⟩, ⟨by simp, .inl ⟨rfl, rfl⟩⟩, ⟨by simp, .inl ⟨rfl, rfl⟩⟩, fun _ e => (by cases e), fun _ e => (by cases e)⟩
theorem bnd_zero : Bnd 0 0 0 0 (fun _ => 0) (fun _ => 0) (fun _ => 0) (fun _ => 0) := ⟨fun _ h => by omega, fun _ h => by omega, fun _ h => by omega, fun _ h => by omega⟩
theorem sumN_ge {W : Nat -> Int} {n i : Nat} (h : ∀ j, j < n -> 0 <= W j) (hi : i < n) : 0 <= Sh.sumN W n /\ W i <= Sh.sumN W n := by
  have nn : ∀ m, m <= n -> 0 <= Sh.sumN W m := fun m hm => by
    induction m with
    | zero => exact Int.le_refl _
    | succ m ih =>
      have := ih (by omega)
      have := h m (by omega)
      show 0 <= Sh.sumN W m + W m
      omega
  have ge : ∀ m, m <= n -> i < m -> W i <= Sh.sumN W m := fun m hm => by
    induction m with
    | zero => omega
    | succ m ih =>
      intro q
      show W i <= Sh.sumN W m + W m
      by_cases e : i = m
      · subst e
        have := nn i (by omega)
        omega
      · have := ih (by omega) (by omega)
        have := h m (by omega)
        omega
  exact ⟨nn n (Nat.le_refl _), ge n (Nat.le_refl _) hi⟩
theorem side_sq {side : Int} (h : 1 <= side /\ side <= 32) : 1 <= side.toNat /\ 6 * side.toNat * side.toNat <= 6144 := by
  have a : side.toNat <= 32 := by omega
  have b := Nat.mul_le_mul (Nat.mul_le_mul (Nat.le_refl 6) a) a
  exact ⟨by omega, by omega⟩
theorem bnd_lake {side : Int} {lb : Nat} {B : Nat -> Nat} {l : Nat} (h : lkE side lb B l = 0) (hB : ∀ i, i < lb -> B i < 18446744073709551616) : Bnd lb lb lb (2 * lb) B (lkW side.toNat B l) (fun _ => 0) (fun _ => 0) /\ (lb <= 131072 /\ lb <= 131072 /\ lb <= 131072 /\ 2 * lb <= 131072) := by
  obtain ⟨h1, h2, h3⟩ := lake_ok h
  have q := side_sq h1
  obtain ⟨-, -, ⟨w1, w2⟩, -⟩ := h3
  refine ⟨⟨hB, fun i hi => ?_, fun i _ => ?_, fun i _ => ?_⟩, by omega⟩
  · rw [h2] at hi
    have g := sumN_ge w1 hi
    have g0 := w1 i hi
    unfold Sh.W64
    omega
  · unfold Sh.W64; (try dsimp only); omega
  · (try dsimp only); omega
theorem tuE_ok {side : Int} {lb lw lt ls : Nat} {B : Nat -> Nat} {W T : Nat -> Int} {S : Nat -> Nat} {sky st turn : Int} (h : tuE side lb lw lt ls B W T S sky st turn = 0) : (1 <= side /\ side <= 32) /\ (lb = 6 * side.toNat * side.toNat /\ lw = 6 * side.toNat * side.toNat /\ lt = 6 * side.toNat * side.toNat /\ ls = 2 * (6 * side.toNat * side.toNat)) /\ okN (6 * side.toNat * side.toNat) B W T S sky st := by
  have c : (chk side lb lw lt ls B W T S sky st).2 = 0 := by
    unfold tuE at h
    by_cases q : (chk side lb lw lt ls B W T S sky st).2 = 0
    · exact q
    · rw [if_pos q] at h
      exact absurd h q
  unfold chk at c
  by_cases q : 1 <= side /\ side <= 32
  · rw [if_pos q] at c
    obtain ⟨a, b⟩ := chN_ok.1 c
    exact ⟨q, a, b⟩
  · rw [if_neg q] at c
    exact absurd c (by decide)
theorem chk_zero {side : Int} {lb lw lt ls : Nat} {B : Nat -> Nat} {W T : Nat -> Int} {S : Nat -> Nat} {sky st : Int} (h1 : 1 <= side /\ side <= 32) (hl : lb = 6 * side.toNat * side.toNat /\ lw = 6 * side.toNat * side.toNat /\ lt = 6 * side.toNat * side.toNat /\ ls = 2 * (6 * side.toNat * side.toNat)) (h : okN (6 * side.toNat * side.toNat) B W T S sky st) : chk side lb lw lt ls B W T S sky st = (0, 0) := by
  unfold chk
  rw [if_pos h1]
  exact chN_zero ⟨hl, h⟩
end Ss
end Go.Proofs.YtdigecacmibkpaaGreatDoor

namespace Go.Proofs.YtdigecacmibkpaaGreatDoor
open Tf Cu
namespace Ss
def atS (n r i : Nat) : Nat := eE n (tnT n r (edT n i))
section
variable {n r : Nat}
theorem eE_two (hn : 1 <= n) {t u : Nat} (ht : t < 24 * n * n) (hu : u < 24 * n * n) (h : eE n u = eE n t) : u = t \/ u = mt n t := by
  unfold eE at h
  cases a : isL n u with
  | true =>
    cases b : isL n t with
    | true => simp [a, b] at h; exact .inl (eN_inj a b h)
    | false => simp [a, b] at h; exact .inr (eN_inj a (by rw [isL_mt hn ht, b]; rfl) h)
  | false =>
    cases b : isL n t with
    | true =>
      simp [a, b] at h
      have e := eN_inj (by rw [isL_mt hn hu, a]; rfl) b h
      right
      rw [<- e, mt_mt hn hu]
    | false =>
      simp [a, b] at h
      have e := eN_inj (by rw [isL_mt hn hu, a]; rfl) (by rw [isL_mt hn ht, b]; rfl) h
      left
      rw [<- mt_mt hn hu, e, mt_mt hn ht]
theorem atS_lt (hn : 1 <= n) (hr : r < 24) {i : Nat} (hi : i < 12 * n * n) : atS n r i < 12 * n * n := eE_lt hn (tnT_lt hn (edT_spec hn hi).1 hr)
theorem atS_inj (hn : 1 <= n) (hr : r < 24) {i j : Nat} (hi : i < 12 * n * n) (hj : j < 12 * n * n) (h : atS n r i = atS n r j) : i = j := by
  obtain ⟨h1, h2, h3⟩ := edT_spec hn hi
  obtain ⟨k1, k2, k3⟩ := edT_spec hn hj
  rcases eE_two hn (tnT_lt hn k1 hr) (tnT_lt hn h1 hr) h with q | q
  · have e := (tT_inv hn hr h1).1
    rw [q, (tT_inv hn hr k1).1] at e
    rw [<- h3, <- k3, e]
  · rw [mt_tn hn k1 hr] at q
    have e := (tT_inv hn hr h1).1
    rw [q, (tT_inv hn hr (mt_lt hn k1)).1] at e
    rw [<- e, isL_mt hn k1, k2] at h2
    cases h2
theorem atS_ex (hn : 1 <= n) (hr : r < 24) (S : Nat -> Nat) {e : Nat} (he : e < 12 * n * n) : ∃ i, i < 12 * n * n /\ atS n r i = e /\ tuS n r S e = if eS n (tnT n r (edT n i)) < 0 then ngC (S i) else S i := by
  obtain ⟨h1, h2, h3⟩ := edT_spec hn he
  have iv := (inv_tab r hr).1
  obtain ⟨t, ht⟩ : ∃ t, tnT n (inv r) (edT n e) = t := ⟨_, rfl⟩
  have tl : t < 24 * n * n := by rw [<- ht]; exact tnT_lt hn h1 iv
  have tb : tnT n r t = edT n e := by rw [<- ht]; exact (tT_inv hn hr h1).2
  unfold tuS
  rw [ht]
  cases l : isL n t with
  | true =>
    refine ⟨eN n t, ed_lt hn tl l, ?_, ?_⟩
    · unfold atS eE
      rw [edT_eN hn tl l, tb, if_pos h2, h3]
    · have es : eS n (edT n e) = 1 := by unfold eS; rw [if_pos h2]
      rw [edT_eN hn tl l, tb, seen_l l, es, if_neg (by decide)]
  | false =>
    have ml := mt_lt hn tl
    have m := isL_mt hn tl
    rw [l] at m
    have q : tnT n r (mt n t) = mt n (edT n e) := by rw [<- mt_tn hn tl hr, tb]
    have qn : isL n (mt n (edT n e)) = false := by rw [isL_mt hn h1, h2]; rfl
    refine ⟨eN n (mt n t), ed_lt hn ml m, ?_, ?_⟩
    · unfold atS eE
      rw [edT_eN hn ml m, q, if_neg (by rw [qn]; decide), mt_mt hn h1, h3]
    · have es : eS n (mt n (edT n e)) = -1 := by unfold eS; rw [if_neg (by rw [qn]; decide)]
      rw [edT_eN hn ml m, q, seen_r l, es, if_pos (by decide)]
theorem tn_inj (hn : 1 <= n) (hr : r < 24) {c d : Nat} (hc : c < 6 * n * n) (hd : d < 6 * n * n) (h : tnC n r c = tnC n r d) : c = d := by
  have e := (tn_inv hn hr hc).1
  rw [h, (tn_inv hn hr hd).1] at e
  exact e.symm
end
end Ss
end Go.Proofs.YtdigecacmibkpaaGreatDoor

namespace Go.Proofs.YtdigecacmibkpaaGreatDoor
open Go.RowKit Tf Cu Go.Deep
attribute [local go_sem] run_bits run_from raw_feq raw_fne raw_flt raw_fgt run_neg run_store_float
namespace Ss
theorem info_f20 : (Tryz.prog.info? 22).map (fun i => (i.zero, i.size, i.bytes)) = some (some (.float .f64 0), 1, 8) := by kernel_rfl
end Ss
end Go.Proofs.YtdigecacmibkpaaGreatDoor

namespace Go.Proofs.YtdigecacmibkpaaGreatDoor
open Go.RowKit Tf
attribute [local go_sem] run_bits run_from raw_feq raw_fne raw_flt raw_fgt run_neg
theorem isC_eq {r c : Nat} (h : IsC r c) (c0 : 0 < c) (c1 : c <= 9218868437227405312) : r = c := by
  have e := h.2
  unfold canonB at e
  split at e
  · unfold quiet at e; omega
  · split at e
    · omega
    · exact e
theorem isQ_eq {r c : Nat} (h : IsQ r c) (c1 : c <= 9218868437227405312) : r = c := by
  have e := h.2
  unfold qB at e
  split at e
  · unfold quiet at e; omega
  · exact e
theorem mg_nn11 {x : Nat} (h : x <= 9218868437227405312) : mg x <= 9218868437227405312 := by unfold mg; omega
theorem fill_no (b : Nat) (a : Int) (l : Nat) (w : World) (h : fgt l b = false \/ a < 1) :
    Calls Tryz.prog 25 #[.float .f64 b, .int .i64 a, .float .f64 l] w fun e w' => e = .returned (.int .i64 0) /\ w' = w := by
  cases c : fgt l b
  · clear h
    go_enter Tryz.func25, Tryz.ntmps25
    go_wp2
    go_ret
    exact ⟨rfl, rfl⟩
  · have d : a < 1 := by simpa [c] using h
    clear h
    go_enter Tryz.func25, Tryz.ntmps25
    go_wp2
    go_ret
    exact ⟨rfl, rfl⟩
theorem fill_yes (b : Nat) (a : Int) (l : Nat) (w : World) (hb : b < 18446744073709551616) (hl : l < 18446744073709551616) (h : fgt l b = true) (a1 : 1 <= a) (a2 : a <= 9223372036854775807) :
    Calls Tryz.prog 25 #[.float .f64 b, .int .i64 a, .float .f64 l] w fun e w' => e = .returned (.int .i64 (fil b a l)) /\ ∃ k, w' = w.drewN k := by
  obtain ⟨n1, n2, k0⟩ := (fgt_iff hl hb).1 h
  have hi := hi_in hl hb n1 n2 k0
  have hp := fil_prod hl hb h a1 a2
  rw [fil_yes h a1]
  obtain ⟨r, k, hr, hc⟩ := sub_any (P := Tryz.prog) w l (qB l) b (qB b) (IsQ.self hl) (IsQ.self hb)
  have q1 : qB l = l := by unfold qB; rw [if_neg (by rw [n1]; exact Bool.false_ne_true)]
  have q2 : qB b = b := by unfold qB; rw [if_neg (by rw [n2]; exact Bool.false_ne_true)]
  rw [q1, q2] at hc
  obtain rfl := isC_eq hc hi.1 hi.2
  have F := hid (fromInt_any a (w.drewN k))
  rw [show rn false (a * one) = fw a from rfl] at F
  have fa := fw_in a1 a2
  obtain ⟨p, m, hm, hq⟩ := mul_any (P := Tryz.prog) (w.drewN k) (sbB l b) (qB (sbB l b)) (fw a) (qB (fw a)) (IsQ.self (by omega)) (IsQ.self (by omega))
  have q3 : qB (sbB l b) = sbB l b := by unfold qB; rw [if_neg (by rw [isN_false.2 (by have := mg_nn11 hi.2; omega)]; exact Bool.false_ne_true)]
  have q4 : qB (fw a) = fw a := by unfold qB; rw [if_neg (by rw [isN_false.2 (by have := mg_nn11 (show fw a <= 9218868437227405312 by omega); omega)]; exact Bool.false_ne_true)]
  rw [q3, q4] at hq
  obtain rfl := isQ_eq hq hp
  have C := hid (clamp_at (mlB (sbB l b) (fw a)) 4503599627370496 _ (w.drewN (k + m)) (by omega) (by decide) rfl)
  generalize clampB (mlB (sbB l b) (fw a)) 4503599627370496 = z at *
  clear hq hc q1 q2 q3 q4 hp hi fa
  generalize mlB (sbB l b) (fw a) = y at *
  generalize sbB l b = d at *
  generalize fw a = f at *
  go_enter Tryz.func25, Tryz.ntmps25
  go_wp2_with fail
  refine F.out.mono ?_
  rintro e w' ⟨rfl, rfl⟩
  go_wp2_with fail
  refine C.out.mono ?_
  rintro e w' ⟨rfl, j, rfl⟩
  go_wp2
  go_ret
  exact ⟨rfl, k + m + j, rfl⟩
theorem fill_at (b : Nat) (a : Int) (l : Nat) (w : World) (hb : b < 18446744073709551616) (hl : l < 18446744073709551616) (a2 : a <= 9223372036854775807) :
    Calls Tryz.prog 25 #[.float .f64 b, .int .i64 a, .float .f64 l] w fun e w' => e = .returned (.int .i64 (fil b a l)) /\ ∃ k, w' = w.drewN k := by
  by_cases c : fgt l b = false \/ a < 1
  · rw [fil_no c]
    exact (fill_no b a l w c).mono fun _ _ h => ⟨h.1, 0, h.2⟩
  · have h : fgt l b = true := by cases k : fgt l b; exact absurd (.inl k) c; rfl
    exact fill_yes b a l w hb hl h (by omega) a2
end Go.Proofs.YtdigecacmibkpaaGreatDoor
