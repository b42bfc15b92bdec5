/-
  Some of the texts of this proof, one behind the other.
-/
import Derived.Lib.SliceRun
import Derived.Deep.AppendSrc
import Derived.Deep.AppendLies
import Derived.Test.YtdigecacmibkpaaGreatDoorSq24
set_option maxRecDepth 100000
set_option maxHeartbeats 400000000
namespace Go.Proofs.YtdigecacmibkpaaGreatDoor
open Go.RowKit
namespace Cg
abbrev Ix := Option Nat × Nat
abbrev Sp := Nat -> Option ((Ix -> World -> Prop) × (Ix -> Value))
def Stable (sp : Sp) : Prop := ∀ i R mk, sp i = some (R, mk) -> ∀ x w w', R x w -> Ab w w' -> R x w'
def Fresh (W : World) (S : Nat -> Option Ix) (x : Ix) : Prop := ∀ b, x.1 = some b -> W.heap.size <= b /\ ∀ i y, S i = some y -> y.1 ≠ some b
def putL (S : Nat -> Option Ix) (i : Nat) (x : Ix) : Nat -> Option Ix := fun k => if k = i then some x else S k
def Has (W : World) (sp : Sp) (S : Nat -> Option Ix) (w : World) : Prop := Ab W w /\ ∀ i x, S i = some x -> (∀ b, x.1 = some b -> W.heap.size <= b /\ b < w.heap.size) /\ ∃ R mk, sp i = some (R, mk) /\ R x w
theorem putL_comm (S : Nat -> Option Ix) {i j : Nat} (b c : Ix) (h : i ≠ j) : putL (putL S i b) j c = putL (putL S j c) i b := by
  funext k
  unfold putL
  by_cases e : k = j
  · subst e; simp [Ne.symm h]
  · by_cases e2 : k = i
    · subst e2; simp [e]
    · simp [e, e2]
theorem Fresh.put {W : World} {S : Nat -> Option Ix} {i : Nat} {x y : Ix} (h : Fresh W S y) (n : ∀ b, y.1 = some b -> x.1 ≠ some b) : Fresh W (putL S i x) y :=
  fun b hb => ⟨(h b hb).1, fun k z e => by
    unfold putL at e
    by_cases q : k = i
    · rw [if_pos q] at e; injection e with e; rw [<- e]; exact n b hb
    · rw [if_neg q] at e; exact (h b hb).2 k z e⟩
theorem Fresh.of_put {W : World} {S : Nat -> Option Ix} {i : Nat} {x y : Ix} (h : Fresh W (putL S i x) y) (hi : S i = none) : Fresh W S y /\ ∀ b, y.1 = some b -> x.1 ≠ some b := by
  refine ⟨fun b hb => ⟨(h b hb).1, fun k z e => (h b hb).2 k z ?_⟩, fun b hb => (h b hb).2 i x (by simp [putL])⟩
  unfold putL
  by_cases q : k = i
  · subst q; rw [hi] at e; cases e
  · rw [if_neg q]; exact e
theorem Has.lay {W : World} {sp : Sp} (st : Stable sp) {S : Nat -> Option Ix} {w w1 : World} (h : Has W sp S w) {i : Nat} {x : Ix} {R : Ix -> World -> Prop} {mk : Ix -> Value} (e : sp i = some (R, mk)) (a : Ab w w1) (hb : ∀ b, x.1 = some b -> w.heap.size <= b /\ b < w1.heap.size) (ho : R x w1) : Has W sp (putL S i x) w1 :=
  ⟨h.1.trans a, fun k c q => by
    unfold putL at q
    by_cases z : k = i
    · subst z
      rw [if_pos rfl] at q
      injection q with q
      subst q
      exact ⟨fun b e2 => ⟨Nat.le_trans h.1.size (hb b e2).1, (hb b e2).2⟩, R, mk, e, ho⟩
    · rw [if_neg z] at q
      obtain ⟨h1, R', mk', h2, h3⟩ := h.2 k c q
      exact ⟨fun b e2 => ⟨(h1 b e2).1, Nat.lt_of_lt_of_le (h1 b e2).2 a.size⟩, R', mk', h2, st k R' mk' h2 c w w1 h3 a⟩⟩
theorem Has.freshb {W : World} {sp : Sp} {S : Nat -> Option Ix} {w : World} (h : Has W sp S w) {x : Ix} (hb : ∀ b, x.1 = some b -> w.heap.size <= b) : Fresh W S x :=
  fun b e => ⟨Nat.le_trans h.1.size (hb b e), fun i y e2 e3 => by
    have h1 := ((h.2 i y e2).1 b e3).2
    have h2 := hb b e
    omega⟩
section
variable {P : Program} {ops : Array Oper} {md : Region.Mode} {W : World} {sp : Sp}
def YF (P : Program) (ops : Array Oper) (W : World) (o : Oper) (v : Value) (a : Act) : Prop :=
  (Region.wanted o (yielded ops a.tmps) = true /\ ∀ w, Ab W w -> (execOp a.eval o).run P w = .ok (.value v) w) \/ (Region.wanted o (yielded ops a.tmps) = false /\ v = undef)
def LayR (P : Program) (w : World) (ob : Ix -> World -> Prop) (mk : Ix -> Value) : Result Next -> Prop
  | .ok (.value u) w1 => ∃ x, u = mk x /\ Ab w w1 /\ (∀ b, x.1 = some b -> w.heap.size <= b /\ b < w1.heap.size) /\ ob x w1
  | .ok (.enter f args) w1 => w1 = w /\ Calls P f args w (fun e w2 => ∃ x, e = .returned (mk x) /\ Ab w w2 /\ (∀ b, x.1 = some b -> w.heap.size <= b /\ b < w2.heap.size) /\ ob x w2)
  | _ => False
def LF (P : Program) (ops : Array Oper) (W : World) (o : Oper) (ob : Ix -> World -> Prop) (mk : Ix -> Value) (a : Act) : Prop :=
  Region.wanted o (yielded ops a.tmps) = true /\ ∀ w, Ab W w -> LayR P w ob mk ((execOp a.eval o).run P w)
theorem YF.same {o : Oper} {v : Value} {a a' : Act} (h : YF P ops W o v a) (he : execOp a'.eval o = execOp a.eval o) (hw : Region.wanted o (yielded ops a'.tmps) = Region.wanted o (yielded ops a.tmps)) : YF P ops W o v a' := by
  unfold YF at *
  rw [he, hw]
  exact h
theorem LF.same {o : Oper} {ob : Ix -> World -> Prop} {mk : Ix -> Value} {a a' : Act} (h : LF P ops W o ob mk a) (he : execOp a'.eval o = execOp a.eval o) (hw : Region.wanted o (yielded ops a'.tmps) = Region.wanted o (yielded ops a.tmps)) : LF P ops W o ob mk a' := by
  unfold LF at *
  rw [he, hw]
  exact h
theorem YF.one {o : Oper} {v u : Value} {a : Act} (h : YF P ops W o v a) (k : YF P ops W o u a) : v = u := by
  rcases h with ⟨w1, h⟩ | ⟨w1, rfl⟩
  · rcases k with ⟨_, k⟩ | ⟨w2, _⟩
    · have := (h W (Ab.refl W)).symm.trans (k W (Ab.refl W))
      injection this with e
      injection e
    · rw [w1] at w2; cases w2
  · rcases k with ⟨w2, _⟩ | ⟨_, rfl⟩
    · rw [w1] at w2; cases w2
    · rfl
def fOp (P : Program) (ops : Array Oper) (W : World) (sp : Sp) (i : Nat) (K : Act -> (Nat -> Option Ix) -> Prop) (a : Act) (S : Nat -> Option Ix) : Prop :=
  match ops[i]? with
  | none => K a S
  | some o =>
    match sp i with
    | none => ∃ v, YF P ops W o v a /\ K (a.put o.dst v) S
    | some (ob, mk) => LF P ops W o ob mk a /\ ∀ b, Fresh W S b -> K (a.put o.dst (mk b)) (putL S i b)
theorem fOp_mono {i : Nat} {K K' : Act -> (Nat -> Option Ix) -> Prop} {a : Act} {S : Nat -> Option Ix} (h : ∀ a S, K a S -> K' a S) (hh : fOp P ops W sp i K a S) : fOp P ops W sp i K' a S := by
  unfold fOp at *
  cases ho : ops[i]? with
  | none => simp only [ho] at hh ⊢; exact h _ _ hh
  | some o =>
    cases hs : sp i with
    | none =>
      simp only [ho, hs] at hh ⊢
      obtain ⟨v, h1, h2⟩ := hh
      exact ⟨v, h1, h _ _ h2⟩
    | some x =>
      simp only [ho, hs] at hh ⊢
      exact ⟨hh.1, fun b hb => h _ _ (hh.2 b hb)⟩
def wpAnyF (P : Program) (md : Region.Mode) (ops : Array Oper) (W : World) (sp : Sp) (Q : Act -> (Nat -> Option Ix) -> Prop) : Nat -> Array Bool -> Act -> (Nat -> Option Ix) -> Prop
  | 0, listed, a, S => Region.ready md ops listed = [] /\ Q a S
  | fuel + 1, listed, a, S =>
    (Region.ready md ops listed = [] -> Q a S) ∧
    ∀ i ∈ Region.ready md ops listed, fOp P ops W sp i (wpAnyF P md ops W sp Q fuel (listed.setIfInBounds i true)) a S
def Tidy (listed : Array Bool) (S : Nat -> Option Ix) : Prop := ∀ k, listed.getD k true = false -> S k = none
theorem any_fresh (W : World) (S : Nat -> Option Ix) : ∃ x, Fresh W S x := ⟨(none, 0), fun b e => by cases e⟩
theorem Tidy.set {listed : Array Bool} {S : Nat -> Option Ix} (h : Tidy listed S) (j : Nat) : Tidy (listed.setIfInBounds j true) S :=
  fun k hk => by
    by_cases e : j = k
    · subst e
      by_cases l : j < listed.size
      · simp [l] at hk
      · exact h j (by rw [Array.setIfInBounds_eq_of_size_le (by omega)] at hk; exact hk)
    · rw [getD_set_ne true e] at hk; exact h k hk
theorem Tidy.lay {listed : Array Bool} {S : Nat -> Option Ix} (h : Tidy listed S) {j : Nat} (hj : listed.getD j true = false) (b : Ix) : Tidy (listed.setIfInBounds j true) (putL S j b) := by
  refine fun k hk => ?_
  by_cases e : j = k
  · subst e
    by_cases l : j < listed.size
    · simp [l] at hk
    · simp [l] at hj
  · rw [getD_set_ne true e] at hk
    unfold putL
    rw [if_neg (Ne.symm e)]
    exact h k hk
theorem fOp_putY {j : Nat} {oi oj : Oper} {v : Value} (hj : ops[j]? = some oj) (hap : oi.apart ops oj = true) (hsi : ∀ cs b, oi.op ≠ .select cs b) (hsj : ∀ cs b, oj.op ≠ .select cs b)
    {K : Act -> (Nat -> Option Ix) -> Prop} {a : Act} {S : Nat -> Option Ix} (hy : YF P ops W oi v a) (h : fOp P ops W sp j K (a.put oi.dst v) S) :
    fOp P ops W sp j (fun a' S' => YF P ops W oi v a' /\ K (a'.put oi.dst v) S') a S := by
  obtain ⟨h1, h2, h3⟩ := Oper.apart_spec hap
  have keep : ∀ u, YF P ops W oi v (a.put oj.dst u) := fun u => hy.same (execOp_put oi hsi a oj.dst u h3) (wanted_put oi a oj.dst u h3)
  unfold fOp at *
  cases hs : sp j with
  | none =>
    simp only [hj, hs] at h ⊢
    obtain ⟨u, hu, hk⟩ := h
    exact ⟨u, hu.same (execOp_put oj hsj a oi.dst v h1).symm (wanted_put oj a oi.dst v h1).symm, keep u, by rw [<- Act.put_comm a v u h2]; exact hk⟩
  | some x =>
    simp only [hj, hs] at h ⊢
    exact ⟨h.1.same (execOp_put oj hsj a oi.dst v h1).symm (wanted_put oj a oi.dst v h1).symm, fun b hb => ⟨keep _, by rw [<- Act.put_comm a v _ h2]; exact h.2 b hb⟩⟩
theorem fOp_putL {i j : Nat} {oi oj : Oper} {ob : Ix -> World -> Prop} {mk : Ix -> Value} (hij : i ≠ j) (hj : ops[j]? = some oj) (hap : oi.apart ops oj = true) (hsi : ∀ cs b, oi.op ≠ .select cs b) (hsj : ∀ cs b, oj.op ≠ .select cs b)
    {K : Act -> (Nat -> Option Ix) -> Prop} {a : Act} {S : Nat -> Option Ix} (hSj : S j = none) (hy : LF P ops W oi ob mk a) (h : ∀ b, Fresh W S b -> fOp P ops W sp j K (a.put oi.dst (mk b)) (putL S i b)) :
    fOp P ops W sp j (fun a' S' => LF P ops W oi ob mk a' /\ ∀ b, Fresh W S' b -> K (a'.put oi.dst (mk b)) (putL S' i b)) a S := by
  obtain ⟨h1, h2, h3⟩ := Oper.apart_spec hap
  have keep : ∀ u, LF P ops W oi ob mk (a.put oj.dst u) := fun u => hy.same (execOp_put oi hsi a oj.dst u h3) (wanted_put oi a oj.dst u h3)
  obtain ⟨b0, hb0⟩ := any_fresh W S
  unfold fOp at *
  cases hs : sp j with
  | none =>
    simp only [hj, hs] at h ⊢
    obtain ⟨u, hu, _⟩ := h b0 hb0
    have hu' : YF P ops W oj u a := hu.same (execOp_put oj hsj a oi.dst _ h1).symm (wanted_put oj a oi.dst _ h1).symm
    refine ⟨u, hu', keep u, fun b hb => ?_⟩
    obtain ⟨u2, hu2, hk⟩ := h b hb
    have e : u2 = u := YF.one (hu2.same (execOp_put oj hsj a oi.dst _ h1).symm (wanted_put oj a oi.dst _ h1).symm) hu'
    subst e
    rw [<- Act.put_comm a (mk b) u2 h2]
    exact hk
  | some x =>
    simp only [hj, hs] at h ⊢
    refine ⟨(h b0 hb0).1.same (execOp_put oj hsj a oi.dst _ h1).symm (wanted_put oj a oi.dst _ h1).symm, fun c hc => ⟨keep _, fun b hb => ?_⟩⟩
    obtain ⟨q1, q2⟩ := hb.of_put hSj
    have := (h b q1).2 c (hc.put (fun d e e2 => q2 d e2 e))
    rw [putL_comm S b c hij, Act.put_comm a (mk b) _ h2] at this
    exact this
theorem firstY {Q : Act -> (Nat -> Option Ix) -> Prop} {i : Nat} {oi : Oper} {v : Value} (hi : ops[i]? = some oi) (hsp : sp i = none) (hsel : ∀ (j : Nat) (o : Oper) cs b, ops[j]? = some o -> o.op ≠ .select cs b) :
    ∀ (fuel : Nat) (listed : Array Bool) (a : Act) (S : Nat -> Option Ix),
      (∀ j oj, ops[j]? = some oj -> j ≠ i -> listed.getD j true = false -> (∀ e ∈ oj.after, Region.binds md e = true -> e.on ≠ i) -> oi.apart ops oj = true) →
      i ∈ Region.ready md ops listed -> YF P ops W oi v a →
      wpAnyF P md ops W sp Q fuel (listed.setIfInBounds i true) (a.put oi.dst v) S -> wpAnyF P md ops W sp Q (fuel + 1) listed a S := by
  have go : ∀ (K : Act -> (Nat -> Option Ix) -> Prop) (a : Act) (S : Nat -> Option Ix), YF P ops W oi v a -> K (a.put oi.dst v) S -> fOp P ops W sp i K a S := fun K a S hy h => by
    unfold fOp; simp only [hi, hsp]; exact ⟨v, hy, h⟩
  intro fuel
  induction fuel with
  | zero =>
    intro listed a S _ hr hy H
    refine ⟨fun h => (by rw [h] at hr; cases hr), fun j hj => ?_⟩
    by_cases hji : j = i
    · subst hji; exact go _ _ _ hy H
    · have := ready_mono hj hji
      rw [H.1] at this
      cases this
  | succ fuel ih =>
    intro listed a S hfree hr hy H
    refine ⟨fun h => (by rw [h] at hr; cases hr), fun j hj => ?_⟩
    by_cases hji : j = i
    · subst hji; exact go _ _ _ hy H
    · have h1 := H.2 j (ready_mono hj hji)
      obtain ⟨hjun, oj, hoj, hall⟩ := mem_ready.1 hj
      have hnot : ∀ e ∈ oj.after, Region.binds md e = true -> e.on ≠ i := fun e he hb heq => by
        have h1 := hall e he hb
        have h0 := (mem_ready.1 hr).1
        rw [heq] at h1
        rcases Nat.lt_or_ge i listed.size with h' | h'
        · simp [h'] at h0 h1; rw [h0] at h1; cases h1
        · simp [Array.getElem?_eq_none h'] at h1
      have h2 := fOp_putY hoj (hfree j oj hoj hji hjun hnot) (fun cs b => hsel i oi cs b hi) (fun cs b => hsel j oj cs b hoj) hy h1
      have hfree' : ∀ k ok, ops[k]? = some ok -> k ≠ i -> (listed.setIfInBounds j true).getD k true = false →
          (∀ e ∈ ok.after, Region.binds md e = true -> e.on ≠ i) -> oi.apart ops ok = true := fun k ok hk hki hun hno => by
        refine hfree k ok hk hki ?_ hno
        by_cases hjk : j = k
        · subst hjk; exact hjun
        · rw [getD_set_ne true hjk] at hun; exact hun
      refine fOp_mono (fun a' S' h3 => ih (listed.setIfInBounds j true) a' S' hfree' (ready_mono hr (Ne.symm hji)) h3.1 ?_) h2
      rw [Array.setIfInBounds_comm _ _ hji]
      exact h3.2
theorem firstL {Q : Act -> (Nat -> Option Ix) -> Prop} {i : Nat} {oi : Oper} {ob : Ix -> World -> Prop} {mk : Ix -> Value} (hi : ops[i]? = some oi) (hsp : sp i = some (ob, mk)) (hsel : ∀ (j : Nat) (o : Oper) cs b, ops[j]? = some o -> o.op ≠ .select cs b) :
    ∀ (fuel : Nat) (listed : Array Bool) (a : Act) (S : Nat -> Option Ix), Tidy listed S →
      (∀ j oj, ops[j]? = some oj -> j ≠ i -> listed.getD j true = false -> (∀ e ∈ oj.after, Region.binds md e = true -> e.on ≠ i) -> oi.apart ops oj = true) →
      i ∈ Region.ready md ops listed -> LF P ops W oi ob mk a →
      (∀ b, Fresh W S b -> wpAnyF P md ops W sp Q fuel (listed.setIfInBounds i true) (a.put oi.dst (mk b)) (putL S i b)) -> wpAnyF P md ops W sp Q (fuel + 1) listed a S := by
  have go : ∀ (K : Act -> (Nat -> Option Ix) -> Prop) (a : Act) (S : Nat -> Option Ix), LF P ops W oi ob mk a -> (∀ b, Fresh W S b -> K (a.put oi.dst (mk b)) (putL S i b)) -> fOp P ops W sp i K a S := fun K a S hy h => by
    unfold fOp; simp only [hi, hsp]; exact ⟨hy, h⟩
  intro fuel
  induction fuel with
  | zero =>
    intro listed a S ty _ hr hy H
    refine ⟨fun h => (by rw [h] at hr; cases hr), fun j hj => ?_⟩
    by_cases hji : j = i
    · subst hji; exact go _ _ _ hy H
    · obtain ⟨b, hb⟩ := any_fresh W S
      have := ready_mono hj hji
      rw [(H b hb).1] at this
      cases this
  | succ fuel ih =>
    intro listed a S ty hfree hr hy H
    refine ⟨fun h => (by rw [h] at hr; cases hr), fun j hj => ?_⟩
    by_cases hji : j = i
    · subst hji; exact go _ _ _ hy H
    · have h1 := fun b hb => (H b hb).2 j (ready_mono hj hji)
      obtain ⟨hjun, oj, hoj, hall⟩ := mem_ready.1 hj
      have hnot : ∀ e ∈ oj.after, Region.binds md e = true -> e.on ≠ i := fun e he hb heq => by
        have h1 := hall e he hb
        have h0 := (mem_ready.1 hr).1
        rw [heq] at h1
        rcases Nat.lt_or_ge i listed.size with h' | h'
        · simp [h'] at h0 h1; rw [h0] at h1; cases h1
        · simp [Array.getElem?_eq_none h'] at h1
      have hap := hfree j oj hoj hji hjun hnot
      have hfree' : ∀ k ok, ops[k]? = some ok -> k ≠ i -> (listed.setIfInBounds j true).getD k true = false →
          (∀ e ∈ ok.after, Region.binds md e = true -> e.on ≠ i) -> oi.apart ops ok = true := fun k ok hk hki hun hno => by
        refine hfree k ok hk hki ?_ hno
        by_cases hjk : j = k
        · subst hjk; exact hjun
        · rw [getD_set_ne true hjk] at hun; exact hun
      have h2 := fOp_putL (Ne.symm hji) hoj hap (fun cs b => hsel i oi cs b hi) (fun cs b => hsel j oj cs b hoj) (ty j hjun) hy h1
      -- what j leaves is tidy
      have h4 : fOp P ops W sp j (fun a' S' => Tidy (listed.setIfInBounds j true) S' /\ LF P ops W oi ob mk a' /\ ∀ b, Fresh W S' b -> wpAnyF P md ops W sp Q fuel ((listed.setIfInBounds i true).setIfInBounds j true) (a'.put oi.dst (mk b)) (putL S' i b)) a S := by
        unfold fOp at h2 ⊢
        cases hs : sp j with
        | none =>
          simp only [hoj, hs] at h2 ⊢
          obtain ⟨u, hu, hk⟩ := h2
          exact ⟨u, hu, ty.set j, hk⟩
        | some x =>
          simp only [hoj, hs] at h2 ⊢
          exact ⟨h2.1, fun b hb => ⟨ty.lay hjun b, h2.2 b hb⟩⟩
      refine fOp_mono (fun a' S' h3 => ih (listed.setIfInBounds j true) a' S' h3.1 hfree' (ready_mono hr (Ne.symm hji)) h3.2.1 (fun b hb => ?_)) h4
      rw [Array.setIfInBounds_comm _ _ hji]
      exact h3.2.2 b hb
def wpFree (P : Program) (ops : Array Oper) (W : World) (sp : Sp) (Q : Act -> (Nat -> Option Ix) -> Prop) : List Oper -> Nat -> Act -> (Nat -> Option Ix) -> Prop
  | [], _, a, S => Q a S
  | o :: rest, k, a, S =>
    match sp k with
    | none => ∃ v, YF P ops W o v a /\ wpFree P ops W sp Q rest (k + 1) (a.put o.dst v) S
    | some (ob, mk) => LF P ops W o ob mk a /\ ∀ b, Fresh W S b -> wpFree P ops W sp Q rest (k + 1) (a.put o.dst (mk b)) (putL S k b)
theorem wpAnyF_lex {Q : Act -> (Nat -> Option Ix) -> Prop} (hs : Region.noSelect ops = true) : ∀ (l : List Oper) (k : Nat) (listed : Array Bool) (a : Act) (S : Nat -> Option Ix), (∀ j, l[j]? = ops[k + j]?) -> Tidy listed S →
    Region.lexFrom md ops l.length k listed = true -> wpFree P ops W sp Q l k a S -> wpAnyF P md ops W sp Q l.length listed a S
  | [], _, _, _, _, _, _, hB, h => ⟨by simpa [Region.lexFrom] using hB, h⟩
  | o :: l, k, listed, a, S, hl, ty, hB, h => by
    have h0 : ops[k]? = some o := by simpa using (hl 0).symm
    simp only [List.length_cons, Region.lexFrom, Bool.and_eq_true] at hB
    obtain ⟨⟨hr, hf⟩, hB'⟩ := hB
    have hr' : k ∈ Region.ready md ops listed := by simpa using hr
    have hl' : ∀ j, l[j]? = ops[k + 1 + j]? := fun j => by have := hl (j + 1); simpa [Nat.add_assoc, Nat.add_comm 1 j] using this
    cases hsp : sp k with
    | none =>
      simp only [wpFree, hsp] at h
      obtain ⟨v, hy, hK⟩ := h
      exact firstY h0 hsp (Region.noSelect_spec hs) l.length listed a S (Region.free_spec h0 hf) hr' hy
        (wpAnyF_lex hs l (k + 1) _ _ _ hl' (ty.set k) hB' hK)
    | some x =>
      obtain ⟨ob, mk⟩ := x
      simp only [wpFree, hsp] at h
      exact firstL h0 hsp (Region.noSelect_spec hs) l.length listed a S ty (Region.free_spec h0 hf) hr' h.1
        (fun b hb => wpAnyF_lex hs l (k + 1) _ _ _ hl' (ty.lay (mem_ready.1 hr').1 b) hB' (h.2 b hb))
theorem wpOp_of_fOp (stb : Stable sp) {i : Nat} {a : Act} {S : Nat -> Option Ix} {K : Act -> (Nat -> Option Ix) -> Prop} {K' : Act -> World -> Prop} {Q' : Exit -> Act -> World -> Prop} {w : World} (hC : Has W sp S w) (h : ∀ a S w', Has W sp S w' -> K a S -> K' a w') (hh : fOp P ops W sp i K a S) : wpOp P ops Q' i K' a w := by
  unfold fOp at hh
  unfold wpOp
  cases ho : ops[i]? with
  | none => simp only [ho] at hh ⊢; exact h _ _ _ hC hh
  | some o =>
    cases hs : sp i with
    | none =>
      simp only [ho, hs] at hh ⊢
      obtain ⟨v, hy, hk⟩ := hh
      rcases hy with ⟨w1, hv⟩ | ⟨w1, rfl⟩
      · rw [if_pos w1]
        refine .inl ?_
        unfold Oper.wp
        rw [hv w hC.1]
        exact h _ _ _ hC hk
      · rw [if_neg (by rw [w1]; exact Bool.false_ne_true)]
        exact h _ _ _ hC hk
    | some x =>
      obtain ⟨ob, mk⟩ := x
      simp only [ho, hs] at hh ⊢
      obtain ⟨⟨w1, hv⟩, hk⟩ := hh
      rw [if_pos w1]
      refine .inl ?_
      unfold Oper.wp
      have q := hv w hC.1
      generalize (execOp a.eval o).run P w = r at q
      match r, q with
      | .ok (.value u) w2, ⟨b, hu, ha, hb, ho2⟩ =>
        subst hu
        exact h _ _ _ (hC.lay stb hs ha hb ho2) (hk b (hC.freshb (fun d e => (hb d e).1)))
      | .ok (.enter f args) w2, ⟨e, hc⟩ =>
        subst e
        refine Calls.mono hc ?_
        rintro e2 w3 ⟨b, rfl, ha, hb, ho2⟩
        exact h _ _ _ (hC.lay stb hs ha hb ho2) (hk b (hC.freshb (fun d e => (hb d e).1)))
end
theorem fOp_head {P : Program} {md : Region.Mode} {ops hd : Array Oper} {W : World} {sp : Sp} {n : Nat} (hhd : ∀ i, i < n -> hd[i]? = ops[i]?) (hb : backB md ops n = true) {i : Nat} (hi : i < n) {K : Act -> (Nat -> Option Ix) -> Prop} {a : Act} {S : Nat -> Option Ix} (h : fOp P hd W sp i K a S) : fOp P ops W sp i K a S := by
  unfold fOp at *
  rw [hhd i hi] at h
  cases ho : ops[i]? with
  | none => rw [ho] at h; exact h
  | some o =>
    have e : Region.wanted o (yielded hd a.tmps) = Region.wanted o (yielded ops a.tmps) := by
      unfold Region.wanted
      cases hg : o.guard with
      | none => rfl
      | some jb =>
        obtain ⟨j, b⟩ := jb
        have lt := (back_spec hb hi ho).2 j b hg
        show (yielded hd a.tmps j == some b) = (yielded ops a.tmps j == some b)
        unfold yielded
        rw [hhd j lt]
    simp only [ho] at h ⊢
    cases hs : sp i with
    | none =>
      simp only [hs] at h ⊢
      unfold YF at *
      rw [e] at h
      exact h
    | some x =>
      simp only [hs] at h ⊢
      unfold LF at *
      rw [e] at h
      exact h
theorem wpAny_of_headF {P : Program} {md : Region.Mode} {ops hd : Array Oper} {W : World} {sp : Sp} (stb : Stable sp) {n : Nat} {g : Nat} {Q1 : Act -> (Nat -> Option Ix) -> Prop} {Q' : Exit -> Act -> World -> Prop} (hhd : ∀ i, i < n -> hd[i]? = ops[i]?) (hsz : hd.size = n) (hn : n < ops.size) (hb : backB md ops n = true) (hs : Region.sinkB md ops n = true) (hc : Region.chainB md ops n = true)
    (hL : ∀ a S w, Has W sp S w -> Q1 a S -> wpAny P md ops Q' g (finA ops.size n) a w) :
    ∀ (fuel : Nat) (listed lh : Array Bool) (a : Act) (S : Nat -> Option Ix) (w : World), Has W sp S w -> HeadInv md ops n listed -> lh.size = n -> (∀ i, i < n -> lh.getD i true = listed.getD i true) →
      wpAnyF P md hd W sp Q1 fuel lh a S -> wpAny P md ops Q' (fuel + g) listed a w := by
  intro fuel
  induction fuel with
  | zero =>
    intro listed lh a S w hC inv hl he h
    have hls : n <= listed.size := by rw [inv.size]; omega
    rcases some_ready (by omega) hb hls with all | ⟨i, hi, hr⟩
    · rw [Nat.zero_add, fin_of hn inv all]
      exact hL a S w hC h.2
    · have := (ready_head hhd hb hl hls he hi).2 hr
      rw [h.1] at this
      cases this
  | succ fuel ih =>
    intro listed lh a S w hC inv hl he h
    have hls : n <= listed.size := by rw [inv.size]; omega
    rcases some_ready (by omega) hb hls with all | ⟨i0, hi0, hr0⟩
    · have no : Region.ready md hd lh = [] := by
        rw [List.eq_nil_iff_forall_not_mem]
        intro i hi
        obtain ⟨u, o, ho, _⟩ := mem_ready.1 hi
        have lt : i < n := by rw [<- hsz]; exact (Array.getElem?_eq_some_iff.1 ho).1
        rw [he i lt, all i lt] at u
        cases u
      rw [Nat.add_comm (fuel + 1) g, fin_of hn inv all]
      exact wpAny_more g (fuel + 1) _ a w (hL a S w hC (h.1 no))
    · rw [show fuel + 1 + g = (fuel + g) + 1 by omega]
      refine ⟨fun h0 => (by rw [h0] at hr0; cases hr0), fun i hi => ?_⟩
      have lt : i < n := by
        by_cases c : i < n
        · exact c
        · exact absurd hi (tail_waits hs hc hn inv _ i0 rfl hi0 (mem_ready.1 hr0).1 i (by omega))
      have hq := fOp_head hhd hb lt (h.2 i ((ready_head hhd hb hl hls he lt).2 hi))
      refine wpOp_of_fOp stb hC (fun a' S' w' hC' h' => ih _ _ a' S' w' hC' (inv.set hi lt) (by simp [hl]) (fun j hj => ?_) h') hq
      by_cases e : i = j
      · subst e
        simp [hl, lt, show i < listed.size by omega]
      · rw [getD_set_ne true e, getD_set_ne true e, he j hj]
theorem region_free {P : Program} {id : Nat} {Q : Exit -> Act -> World -> Prop} {a : Act} {w : World} {l : List Oper} (n : Nat) (sp : Sp) (stb : Stable sp) (hm : P.follows .mixedOrders = true) (hB : Region.lexB .any (l.take n).toArray = true) (hT : tailB l.toArray n = true)
    (h : wpFree P (l.take n).toArray w.drew sp (fun a' S => ∀ w', Has w.drew sp S w' -> wpList P l.toArray Q (l.drop n) a' w') (l.take n) 0 a (fun _ => none)) : (Code.region id l.toArray true).wp P Q a w := by
  simp only [tailB, Bool.and_eq_true, decide_eq_true_eq] at hT
  obtain ⟨⟨⟨⟨hn, hb⟩, hs⟩, hc⟩, hq⟩ := hT
  have hn' : n < l.length := by simpa using hn
  have htl : (l.take n).toArray.size = n := by simp; omega
  have hdl : (l.drop n).length = l.toArray.size - n := by simp
  refine wp_region_any hm ?_
  simp only [Region.lexB, Bool.and_eq_true] at hB
  have H := wpAnyF_lex (P := P) (W := w.drew) (sp := sp) (md := .any) hB.1 (l.take n) 0 (Array.replicate (l.take n).toArray.size false) a (fun _ => none) (by simp) (fun _ _ => rfl) (by simpa using hB.2) h
  have inv0 : HeadInv .any l.toArray n (Array.replicate l.toArray.size false) :=
    ⟨by simp, fun j oj _ hl => (by rw [getD_replicate_false] at hl; cases hl), fun t _ ht => getD_in (by simpa using ht) (getD_replicate_false _ _)⟩
  have := wpAny_of_headF stb (P := P) (Q' := Q) (g := l.toArray.size - n) (hd := (l.take n).toArray) (ops := l.toArray) (fun i hi => by simp [hi]) htl hn hb hs hc
    (fun a' S' w' hC' h' => by
      have := wpAny_of_seq (P := P) (md := .any) (ops := l.toArray) (Q' := Q) (l.drop n) n (finA l.toArray.size n) a' w' (fun j => by simp) (by rw [hdl]; exact hq) (h' w' hC')
      rwa [hdl] at this)
    (l.take n).length _ _ a (fun _ => none) w.drew ⟨Ab.refl _, fun i b e => by cases e⟩ inv0 (by simpa using htl) (fun i hi => by
      rw [getD_in (listed := Array.replicate l.toArray.size false) (by simp; omega) (getD_replicate_false _ _)]
      exact getD_in (by rw [Array.size_replicate]; omega) (getD_replicate_false _ _)) H
  have e : (l.take n).length + (l.toArray.size - n) = l.toArray.size := by simp; omega
  rw [e] at this
  exact this
section
variable {P : Program} {ops : Array Oper} {W : World} {sp : Sp} {Q : Act -> (Nat -> Option Ix) -> Prop} {o : Oper} {rest : List Oper} {k : Nat} {a : Act} {S : Nat -> Option Ix}
theorem wpFree_one {U : Type} {F : U -> World} (HF : Hid (∀ w', Ab W w' -> ∃ u, w' = F u)) (hs : sp k = none) (hp : plainB o.op = true) (h : wpQuiet P ops (fun w' => ∃ u, w' = F u) (fun a' => wpFree P ops W sp Q rest (k + 1) a' S) [o] a) : wpFree P ops W sp Q (o :: rest) k a S := by
  simp only [wpFree, hs]
  simp only [wpQuiet] at h
  by_cases c : Region.wanted o (yielded ops a.tmps) = true
  · rw [if_pos c] at h
    obtain ⟨v, h1, h2⟩ := h
    refine ⟨v, .inl ⟨c, fun w hw => ?_⟩, h2⟩
    have q := h1 w (HF.out w hw)
    unfold Oper.quietAt at q
    cases e : (execOp a.eval o).run P w with
    | ok n w' =>
      obtain ⟨x, rfl⟩ := plain_value hp e
      rw [e] at q
      obtain ⟨q1, q2⟩ := q
      rw [q1, q2]
    | halt x w' => rw [e] at q; exact absurd q (by simp [Oper.quietUpon])
  · rw [if_neg c] at h
    exact ⟨undef, .inr ⟨by simpa using c, rfl⟩, h⟩
theorem wpFree_lay {ob : Ix -> World -> Prop} {mk : Ix -> Value} (hs : sp k = some (ob, mk)) (hw : Region.wanted o (yielded ops a.tmps) = true) (hr : ∀ w, Ab W w -> LayR P w ob mk ((execOp a.eval o).run P w))
    (h : ∀ b, Fresh W S b -> wpFree P ops W sp Q rest (k + 1) (a.put o.dst (mk b)) (putL S k b)) : wpFree P ops W sp Q (o :: rest) k a S := by
  simp only [wpFree, hs]
  exact ⟨⟨hw, hr⟩, h⟩
theorem lay_run {ob : Ix -> World -> Prop} {mk : Ix -> Value} {O : Obj} {c : Nat} (h : ∀ w, Ab W w -> (execOp a.eval o).run P w = .ok (.value (mk (some w.heap.size, c))) (w.alloc O)) (hR : ∀ w, Ab W w -> ob (some w.heap.size, c) (w.alloc O)) : ∀ w, Ab W w -> LayR P w ob mk ((execOp a.eval o).run P w) := fun w hw => by
  rw [h w hw]
  refine ⟨(some w.heap.size, c), rfl, bl1 _ _, fun b e => ?_, hR w hw⟩
  injection e with e
  subst e
  refine ⟨Nat.le_refl _, ?_⟩
  show _ < (w.heap.push O).size
  simp
theorem lay_call {ob : Ix -> World -> Prop} {mk : Ix -> Value} {f : FuncId} {args : Array Value} (h1 : ∀ w, (execOp a.eval o).run P w = .ok (.enter f args) w) (h2 : ∀ w, Ab W w -> Calls P f args w (fun e w2 => ∃ x, e = .returned (mk x) /\ Ab w w2 /\ (∀ b, x.1 = some b -> w.heap.size <= b /\ b < w2.heap.size) /\ ob x w2)) : ∀ w, Ab W w -> LayR P w ob mk ((execOp a.eval o).run P w) := fun w hw => by
  rw [h1 w]
  exact ⟨rfl, h2 w hw⟩
theorem run_val {s : Sem Value} {w w' : World} {x : Value} (h : s.run P w = .ok x w') : (do pure (Next.value (← s)) : Sem Next).run P w = .ok (.value x) w' := by
  rw [Sem.run_bind, h]
  rfl
theorem run_make {t : TypeId} {x y : Operand} {vx vy u : Value} {w w' : World} (ho : o.op = .makeSlice t x y) (hx : a.eval x = vx) (hy : a.eval y = vy) (M : (Instr.makeSlice t vx vy).run P w = .ok u w') : (execOp a.eval o).run P w = .ok (.value u) w' := by
  unfold execOp
  rw [ho]
  simp only [hx, hy]
  exact run_val M
theorem wpFree_nil (h : Q a S) : wpFree P ops W sp Q [] k a S := h
end
theorem Has.at {W : World} {sp : Sp} {S : Nat -> Option Ix} {w : World} (h : Has W sp S w) {i : Nat} {x : Ix} {R : Ix -> World -> Prop} {mk : Ix -> Value} (e : S i = some x) (s : sp i = some (R, mk)) : R x w /\ ∀ b, x.1 = some b -> W.heap.size <= b /\ b < w.heap.size := by
  obtain ⟨h1, o, m, h2, h3⟩ := h.2 i x e
  rw [s] at h2
  injection h2 with h2
  injection h2 with h2
  subst h2
  exact ⟨h3, h1⟩
end Cg
end Go.Proofs.YtdigecacmibkpaaGreatDoor

namespace Go.Proofs.YtdigecacmibkpaaGreatDoor
open Go.RowKit Tf Cu Go.Deep
namespace Ss
theorem src_fl20 {w : World} {pb : Option Addr} {L : Nat} {B : Nat -> Nat} (h : IsFl w pb L B) (cb : Nat) : Src Tryz.prog 1 30 (.slice pb L cb) L ((List.range L).map fun k => Value.float .f64 (B k)) w := by
  have one : ∀ u ∈ (List.range L).map (fun k => Value.float .f64 (B k)), u.oneCell' = true := fun u hu => by
    obtain ⟨k, _, rfl⟩ := List.mem_map.1 hu
    rfl
  cases pb with
  | none =>
    have : L = 0 := by
      rcases Nat.eq_zero_or_pos L with h0 | h0
      · exact h0
      · obtain ⟨_, b, o, h2, _⟩ := h 0 h0
        cases h2
    subst this
    exact Src.ofNil w Tryz.underlying30 cb
  | some a =>
    refine Src.ofSlice w Tryz.underlying30 a L cb _ (by simp) (fun j u hu => ?_) one
    have hj : j < L := by
      rcases Nat.lt_or_ge j L with h1 | h1
      · exact h1
      · rw [List.getElem?_eq_none (by simpa using h1)] at hu; cases hu
    obtain ⟨_, b, o, h2, _, h4⟩ := h j hj
    cases h2
    simp [hj] at hu
    rw [add_off12, <- hu]
    exact h4
theorem wpList_app20f {ops : Array Oper} {rest : List Oper} {o : Oper} {a : Act} {w : World} {Q : Exit -> Act -> World -> Prop} (hgd : o.guard = none) (s x : Operand)
    (ho : o.op = .call { callee := .builtin .append, args := #[s, x], argTypes := #[30, 30] })
    (B : Nat) (v : Value) (l : List Nat) (hs : a.eval s = v) (hown : OwnG B v l w)
    (ad : Addr) (m c : Nat) (news : List Nat) (hx : a.eval x = .slice (some ad) m c) (hl : news.length = m) (hnews : ∀ j u, (news.map (Value.float .f64))[j]? = some u -> w.cell? (ad.add j) = some u)
    (hm : 0 < m) (hlen : l.length + m <= 17592186044416) (hB : B <= w.heap.size) (nm : Nat) (hnm : l.length + m = nm)
    (h : ∀ g cap w', OwnG B (.slice (some ⟨g, 0, none⟩) nm cap) (l ++ news) w' -> w.grownBy w' v.ownBlock -> (v.ownBlock = some g \/ g = w.heap.size) -> B <= g -> wpList Tryz.prog ops Q rest (a.put o.dst (.slice (some ⟨g, 0, none⟩) nm cap)) w') : wpList Tryz.prog ops Q (o :: rest) a w := by
  subst hnm
  obtain ⟨i0, hi, hz0, hz1, hz2⟩ := info_g
  refine wpList_append_lies w hgd s x _ ho B 22 i0 (.float .f64 0) 1 8 Tryz.underlying30 hi hz0 hz1 hz2 rfl (by decide) v l.length (l.map (Value.float .f64)) hs hown ad m c (news.map (Value.float .f64)) hx (by simpa using hl) hnews (fun u hu => by
    obtain ⟨y, _, rfl⟩ := List.mem_map.1 hu
    rfl) hm (by unfold maxLen; omega) (by omega) hB _ rfl ?_
  intro g cap w' o1 g1 e1 _
  have hb : B <= g := by
    rcases o1.2 with ⟨q, _⟩ | ⟨g2, _, _, q, hb, _⟩
    · cases q
    · injection q with q1 q2 q3
      injection q1 with q4
      injection q4 with q5
      omega
  refine h g cap w' ?_ g1 e1 hb
  unfold OwnG
  rw [List.length_append, List.map_append, hl]
  exact o1
theorem eql_nil20f (w : World) (a : Option Addr) (n c : Nat) : (binOp .eql 30 (.slice a n c) (.slice none 0 0)).run Tryz.prog w = .ok (.bool a.isNone) w := Lib.run_eql_slice_nil w _ _ a n c 0 0 Tryz.underlying30
attribute [local go_sem] eql_nil20f
theorem wpList_zero20f {ops : Array Oper} {rest : List Oper} {o : Oper} {a : Act} {w : World} {Q : Exit -> Act -> World -> Prop} (hgd : o.guard = none) (s x : Operand)
    (ho : o.op = .call { callee := .builtin .append, args := #[s, x], argTypes := #[30, 30] })
    (g : Nat) (hs : a.eval s = .slice (some ⟨g, 0, none⟩) 0 0) (src : Value) (hx : a.eval x = src) (hsrc : Src Tryz.prog 1 30 src 0 [] w)
    (h : wpList Tryz.prog ops Q rest (a.put o.dst (.slice (some ⟨g, 0, none⟩) 0 0)) w) : wpList Tryz.prog ops Q (o :: rest) a w := by
  obtain ⟨i0, hi, hz0, hz1, hz2⟩ := info_g
  refine wpList_plain hgd fun _ hK => ?_
  have hr := run_append_room_src (P := Tryz.prog) w 30 30 o.type 22 i0 Tryz.underlying30 hi g 0 0 0 src 0 [] (by rw [hz1]; exact hsrc) (Nat.le_refl _) (fun j hj => absurd hj (Nat.not_lt_zero j)) (fun j hj => absurd hj (Nat.not_lt_zero j))
  unfold Oper.wp execOp
  simp only [ho, resolve, invoke, builtin, Sem.run_bind, Sem.run_pure, Result.andThen_ok, List.map_toArray, List.map_cons, List.map_nil, hs, hx, hr]
  exact hK _ _ h
theorem news_in20f {w : World} {b o N : Nat} {D : Nat -> Nat} (h : IsFl w (some ⟨b, o, none⟩) N D) : ∀ j u, (((List.range N).map D).map (Value.float .f64))[j]? = some u -> w.cell? ((⟨b, o, none⟩ : Addr).add j) = some u := fun j u hu => by
  have hj : j < N := by
    rcases Nat.lt_or_ge j N with h1 | h1
    · exact h1
    · rw [List.getElem?_eq_none (by simpa using h1)] at hu; cases hu
  simp [hj] at hu
  rw [add_off12, <- hu]
  exact (h.at0 hj).2.2
theorem clone20f_none (n c : Nat) (w : World) : Calls Tryz.prog 46 #[.slice none n c] w fun e w' => e = .returned (.slice none 0 0) /\ w' = w := by
  go_enter Tryz.func46, Tryz.ntmps46
  go_wp2
  go_ret
  exact ⟨rfl, rfl⟩
theorem clone20f_zero (p : Addr) (c : Nat) (f : Nat -> Nat) (w : World) : Calls Tryz.prog 46 #[.slice (some p) 0 c] w fun e w' => e = .returned (.slice (some ⟨w.heap.size, 0, none⟩) 0 0) /\ w' = w.alloc (.cells #[] 22) := by
  have SR := hid (src_fl20 ((fun k hk => absurd hk (Nat.not_lt_zero k) : IsFl (w.alloc (.cells #[] 22)) (some p) 0 f)) c)
  go_enter Tryz.func46, Tryz.ntmps46
  go_wp2_with (first
    | (at_builtin; refine wpList_zero20f rfl (.tmp 5) (.tmp 6) rfl w.heap.size rfl (.slice (some p) 0 c) rfl SR.out ?_))
  go_ret
  exact ⟨rfl, rfl⟩
theorem clone20f_go (b o n c : Nat) (f : Nat -> Nat) (w : World) (h0 : 0 < n) (hn : n <= 17592186044416) (hf : IsFl w (some ⟨b, o, none⟩) n f) : Calls Tryz.prog 46 #[.slice (some ⟨b, o, none⟩) n c] w fun e w' => ∃ v, e = .returned v /\ Below w.heap.size w w' /\ OwnG w.heap.size v ((List.range n).map f) w' := by
  have O2 := hid (OwnG.new w w.heap.size (Nat.le_refl _))
  have N1 := hid (news_in20f (hf.below (bl1 w (.cells #[] 22))))
  have LS : Hid (w.heap.size <= (w.alloc (.cells #[] 22)).heap.size) := by show _ <= _; simp
  have H0 := hid h0
  have HN := hid hn
  clear hf h0 hn
  go_enter Tryz.func46, Tryz.ntmps46
  go_wp2_with (first
    | (at_builtin; refine wpList_app20f rfl (.tmp 5) (.tmp 6) rfl w.heap.size (.slice (some ⟨w.heap.size, 0, none⟩) 0 0) [] rfl O2.out ⟨b, o, none⟩ n c ((List.range n).map f) rfl (by simp) N1.out H0.out (by have := HN.out; simp; omega) LS.out n (by simp) ?_; intro g1 c1 w1 o1 x1 y1 _; have O1 := hid o1; have X1 := hid x1; clear o1 x1 y1))
  go_ret
  refine ⟨_, rfl, Below.grown (bl1 w _ : Below _ _ _) X1.out LS.out (fun k hk => (World.ownsRow.lt O2.out k hk).1), ?_⟩
  have h := O1.out
  rw [List.nil_append] at h
  exact h
theorem clone20f_at (p : Option Addr) (n c : Nat) (f : Nat -> Nat) (w : World) (hn : n <= 17592186044416) (hf : IsFl w p n f) : Calls Tryz.prog 46 #[.slice p n c] w fun e w' => ∃ v, e = .returned v /\ Below w.heap.size w w' /\ OwnG w.heap.size v ((List.range n).map f) w' := by
  rcases Nat.eq_zero_or_pos n with h0 | h0
  · subst h0
    cases p with
    | none =>
      refine (clone20f_none 0 c w).mono ?_
      rintro e w' ⟨rfl, rfl⟩
      exact ⟨_, rfl, Below.refl _ _, (⟨by simp, .inl ⟨rfl, rfl⟩⟩ : OwnG _ _ _ _)⟩
    | some a =>
      refine (clone20f_zero a c f w).mono ?_
      rintro e w' ⟨rfl, rfl⟩
      exact ⟨_, rfl, bl1 _ _, OwnG.new w w.heap.size (Nat.le_refl _)⟩
  · obtain ⟨b, o, rfl⟩ := hf.some0 h0
    exact clone20f_go b o n c f w h0 hn hf
theorem wpList_app20i {ops : Array Oper} {rest : List Oper} {o : Oper} {a : Act} {w : World} {Q : Exit -> Act -> World -> Prop} (hgd : o.guard = none) (s x : Operand)
    (ho : o.op = .call { callee := .builtin .append, args := #[s, x], argTypes := #[31, 31] })
    (B : Nat) (v : Value) (l : List Int) (hs : a.eval s = v) (hown : Sh.Own B v l w)
    (ad : Addr) (m c : Nat) (news : List Int) (hx : a.eval x = .slice (some ad) m c) (hl : news.length = m) (hnews : ∀ j u, (news.map (Value.int .i64))[j]? = some u -> w.cell? (ad.add j) = some u)
    (hm : 0 < m) (hlen : l.length + m <= 17592186044416) (hB : B <= w.heap.size) (nm : Nat) (hnm : l.length + m = nm)
    (h : ∀ g cap w', Sh.Own B (.slice (some ⟨g, 0, none⟩) nm cap) (l ++ news) w' -> w.grownBy w' v.ownBlock -> (v.ownBlock = some g \/ g = w.heap.size) -> B <= g -> wpList Tryz.prog ops Q rest (a.put o.dst (.slice (some ⟨g, 0, none⟩) nm cap)) w') : wpList Tryz.prog ops Q (o :: rest) a w := by
  subst hnm
  obtain ⟨i0, hi, hz0, hz1, hz2⟩ := Sh.info_i
  refine wpList_append_lies w hgd s x _ ho B 2 i0 (.int .i64 0) 1 8 Tryz.underlying31 hi hz0 hz1 hz2 rfl (by decide) v l.length (l.map (Value.int .i64)) hs hown ad m c (news.map (Value.int .i64)) hx (by simpa using hl) hnews (fun u hu => by
    obtain ⟨y, _, rfl⟩ := List.mem_map.1 hu
    rfl) hm (by unfold maxLen; omega) (by omega) hB _ rfl ?_
  intro g cap w' o1 g1 e1 _
  have hb : B <= g := by
    rcases o1.2 with ⟨q, _⟩ | ⟨g2, _, _, q, hb, _⟩
    · cases q
    · injection q with q1 q2 q3
      injection q1 with q4
      injection q4 with q5
      omega
  refine h g cap w' ?_ g1 e1 hb
  unfold Sh.Own
  rw [List.length_append, List.map_append, hl]
  exact o1
theorem eql_nil20i (w : World) (a : Option Addr) (n c : Nat) : (binOp .eql 31 (.slice a n c) (.slice none 0 0)).run Tryz.prog w = .ok (.bool a.isNone) w := Lib.run_eql_slice_nil w _ _ a n c 0 0 Tryz.underlying31
attribute [local go_sem] eql_nil20i
theorem wpList_zero20i {ops : Array Oper} {rest : List Oper} {o : Oper} {a : Act} {w : World} {Q : Exit -> Act -> World -> Prop} (hgd : o.guard = none) (s x : Operand)
    (ho : o.op = .call { callee := .builtin .append, args := #[s, x], argTypes := #[31, 31] })
    (g : Nat) (hs : a.eval s = .slice (some ⟨g, 0, none⟩) 0 0) (src : Value) (hx : a.eval x = src) (hsrc : Src Tryz.prog 1 31 src 0 [] w)
    (h : wpList Tryz.prog ops Q rest (a.put o.dst (.slice (some ⟨g, 0, none⟩) 0 0)) w) : wpList Tryz.prog ops Q (o :: rest) a w := by
  obtain ⟨i0, hi, hz0, hz1, hz2⟩ := Sh.info_i
  refine wpList_plain hgd fun _ hK => ?_
  have hr := run_append_room_src (P := Tryz.prog) w 31 31 o.type 2 i0 Tryz.underlying31 hi g 0 0 0 src 0 [] (by rw [hz1]; exact hsrc) (Nat.le_refl _) (fun j hj => absurd hj (Nat.not_lt_zero j)) (fun j hj => absurd hj (Nat.not_lt_zero j))
  unfold Oper.wp execOp
  simp only [ho, resolve, invoke, builtin, Sem.run_bind, Sem.run_pure, Result.andThen_ok, List.map_toArray, List.map_cons, List.map_nil, hs, hx, hr]
  exact hK _ _ h
theorem news_in20i {w : World} {b o N : Nat} {D : Nat -> Int} (h : Sh.IsI w (some ⟨b, o, none⟩) N D) : ∀ j u, (((List.range N).map D).map (Value.int .i64))[j]? = some u -> w.cell? ((⟨b, o, none⟩ : Addr).add j) = some u := fun j u hu => by
  have hj : j < N := by
    rcases Nat.lt_or_ge j N with h1 | h1
    · exact h1
    · rw [List.getElem?_eq_none (by simpa using h1)] at hu; cases hu
  simp [hj] at hu
  rw [Sh.add_off, <- hu]
  exact (h.at0 hj).2.2
theorem clone20i_none (n c : Nat) (w : World) : Calls Tryz.prog 47 #[.slice none n c] w fun e w' => e = .returned (.slice none 0 0) /\ w' = w := by
  go_enter Tryz.func47, Tryz.ntmps47
  go_wp2
  go_ret
  exact ⟨rfl, rfl⟩
theorem clone20i_zero (p : Addr) (c : Nat) (f : Nat -> Int) (w : World) : Calls Tryz.prog 47 #[.slice (some p) 0 c] w fun e w' => e = .returned (.slice (some ⟨w.heap.size, 0, none⟩) 0 0) /\ w' = w.alloc (.cells #[] 2) := by
  have SR := hid (Sh.src_in (Sh.IsI.nil (w.alloc (.cells #[] 2)) (some p) f) c)
  go_enter Tryz.func47, Tryz.ntmps47
  go_wp2_with (first
    | (at_builtin; refine wpList_zero20i rfl (.tmp 5) (.tmp 6) rfl w.heap.size rfl (.slice (some p) 0 c) rfl SR.out ?_))
  go_ret
  exact ⟨rfl, rfl⟩
theorem clone20i_go (b o n c : Nat) (f : Nat -> Int) (w : World) (h0 : 0 < n) (hn : n <= 17592186044416) (hf : Sh.IsI w (some ⟨b, o, none⟩) n f) : Calls Tryz.prog 47 #[.slice (some ⟨b, o, none⟩) n c] w fun e w' => ∃ v, e = .returned v /\ Below w.heap.size w w' /\ Sh.Own w.heap.size v ((List.range n).map f) w' := by
  have O2 := hid (Sh.own_new w w.heap.size (Nat.le_refl _))
  have N1 := hid (news_in20i (hf.below (bl1 w (.cells #[] 2))))
  have LS : Hid (w.heap.size <= (w.alloc (.cells #[] 2)).heap.size) := by show _ <= _; simp
  have H0 := hid h0
  have HN := hid hn
  clear hf h0 hn
  go_enter Tryz.func47, Tryz.ntmps47
  go_wp2_with (first
    | (at_builtin; refine wpList_app20i rfl (.tmp 5) (.tmp 6) rfl w.heap.size (.slice (some ⟨w.heap.size, 0, none⟩) 0 0) [] rfl O2.out ⟨b, o, none⟩ n c ((List.range n).map f) rfl (by simp) N1.out H0.out (by have := HN.out; simp; omega) LS.out n (by simp) ?_; intro g1 c1 w1 o1 x1 y1 _; have O1 := hid o1; have X1 := hid x1; clear o1 x1 y1))
  go_ret
  refine ⟨_, rfl, Below.grown (bl1 w _ : Below _ _ _) X1.out LS.out (fun k hk => (World.ownsRow.lt O2.out k hk).1), ?_⟩
  have h := O1.out
  rw [List.nil_append] at h
  exact h
theorem clone20i_at (p : Option Addr) (n c : Nat) (f : Nat -> Int) (w : World) (hn : n <= 17592186044416) (hf : Sh.IsI w p n f) : Calls Tryz.prog 47 #[.slice p n c] w fun e w' => ∃ v, e = .returned v /\ Below w.heap.size w w' /\ Sh.Own w.heap.size v ((List.range n).map f) w' := by
  rcases Nat.eq_zero_or_pos n with h0 | h0
  · subst h0
    cases p with
    | none =>
      refine (clone20i_none 0 c w).mono ?_
      rintro e w' ⟨rfl, rfl⟩
      exact ⟨_, rfl, Below.refl _ _, Sh.Own.new _ _⟩
    | some a =>
      refine (clone20i_zero a c f w).mono ?_
      rintro e w' ⟨rfl, rfl⟩
      exact ⟨_, rfl, bl1 _ _, Sh.own_new w w.heap.size (Nat.le_refl _)⟩
  · obtain ⟨b, o, rfl⟩ := hf.some0 h0
    exact clone20i_go b o n c f w h0 hn hf
def mkS (n : Nat) (x : Cg.Ix) : Value := match x.1 with
  | some b => .slice (some ⟨b, 0, none⟩) n x.2
  | none => .slice none 0 0
theorem mkS_own (n : Nat) (x : Cg.Ix) : (mkS n x).ownBlock = x.1 := by
  obtain ⟨x1, x2⟩ := x
  cases x1 <;> rfl
theorem row_ix {t : TypeId} {B n : Nat} {v : Value} {l : List Value} {w : World} (h : w.ownsRow B t 1 v n l) : ∃ x : Cg.Ix, v = mkS n x /\ ∀ b, x.1 = some b -> B <= b /\ b < w.heap.size := by
  rcases h.2 with ⟨rfl, h0⟩ | ⟨g, cap, cur, rfl, hb, hg, -⟩
  · exact ⟨(none, 0), rfl, fun b e => by cases e⟩
  · refine ⟨(some g, cap), rfl, fun b e => ?_⟩
    injection e with e
    subst e
    exact ⟨hb, lt_of_block hg⟩
theorem row_less {t : TypeId} {B B' n : Nat} {v : Value} {l : List Value} {w : World} (h : w.ownsRow B t 1 v n l) (hb : B' <= B) : w.ownsRow B' t 1 v n l := by
  refine ⟨h.1, ?_⟩
  rcases h.2 with h0 | ⟨g, cap, cur, e, h1, rest⟩
  · exact .inl h0
  · exact .inr ⟨g, cap, cur, e, by omega, rest⟩
theorem cloneF (p : Option Addr) (n c : Nat) (f : Nat -> Nat) (M : Nat) (w : World) (hn : n <= 17592186044416) (hf : IsFl w p n f) (hM : M <= w.heap.size) :
    Calls Tryz.prog 46 #[.slice p n c] w fun e w2 => ∃ x, e = .returned (mkS n x) /\ Ab w w2 /\ (∀ b, x.1 = some b -> w.heap.size <= b /\ b < w2.heap.size) /\ OwnG M (mkS n x) ((List.range n).map f) w2 :=
  (clone20f_at p n c f w hn hf).mono fun e w2 h => by
    obtain ⟨v, rfl, h1, h2⟩ := h
    have h3 := h2
    unfold OwnG at h3
    rw [List.length_map, List.length_range] at h3
    obtain ⟨x, rfl, hx⟩ := row_ix h3
    exact ⟨x, rfl, h1, hx, row_less h2 hM⟩
theorem cloneI (p : Option Addr) (n c : Nat) (f : Nat -> Int) (M : Nat) (w : World) (hn : n <= 17592186044416) (hf : Sh.IsI w p n f) (hM : M <= w.heap.size) :
    Calls Tryz.prog 47 #[.slice p n c] w fun e w2 => ∃ x, e = .returned (mkS n x) /\ Ab w w2 /\ (∀ b, x.1 = some b -> w.heap.size <= b /\ b < w2.heap.size) /\ Sh.Own M (mkS n x) ((List.range n).map f) w2 :=
  (clone20i_at p n c f w hn hf).mono fun e w2 h => by
    obtain ⟨v, rfl, h1, h2⟩ := h
    have h3 := h2
    unfold Sh.Own at h3
    rw [List.length_map, List.length_range] at h3
    obtain ⟨x, rfl, hx⟩ := row_ix h3
    exact ⟨x, rfl, h1, hx, row_less h2 hM⟩
end Ss
end Go.Proofs.YtdigecacmibkpaaGreatDoor
