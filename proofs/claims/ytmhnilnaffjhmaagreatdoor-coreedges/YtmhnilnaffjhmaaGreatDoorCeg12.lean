/-
  Some of the texts of this proof, one behind the other.
-/
import Derived.Lib.SliceRun
import Derived.Deep.AppendSrc
import Derived.Deep.AppendLies
import Derived.Test.YtmhnilnaffjhmaaGreatDoorCeg11
set_option maxRecDepth 100000
set_option maxHeartbeats 400000000
namespace Go.Proofs.YtmhnilnaffjhmaaGreatDoor
open _root_.Go.Proofs.Tryz
section
open Go.RowKit
namespace Cg
abbrev Ix:=Option Nat × Nat
abbrev Sp:=Nat->Option ((Ix->World->Prop) × (Ix->Value))
def Stable(sp:Sp):Prop:= ∀i R mk,sp i=some (R,mk)-> ∀x w w',R x w->Ab w w'->R x w'
def Fresh(W:World)(S:Nat->Option Ix)(x:Ix):Prop:= ∀b,x.1=some b->W.heap.size<=b/\ ∀i y,S i=some y->y.1≠some b
def putL(S:Nat->Option Ix)(i:Nat)(x:Ix):Nat->Option Ix:=fun k=>if k=i then some x else S k
def Has(W:World)(sp:Sp)(S:Nat->Option Ix)(w:World):Prop:=Ab W w/\ ∀i x,S i=some x->(∀b,x.1=some b->W.heap.size<=b/\b<w.heap.size)/\ ∃R mk,sp i=some (R,mk)/\R x w
theorem oI(S:Nat->Option Ix){i j:Nat}(b c:Ix)(h:i≠j):putL (putL S i b) j c=putL (putL S j c) i b:=by
 funext k
 unfold putL
 by_cases e:k=j
 ·subst e;simp[Ne.symm h]
 ·by_cases e2:k=i
  ·subst e2;simp[e]
  ·simp[e,e2]
theorem Fresh.put{W:World}{S:Nat->Option Ix}{i:Nat}{x y:Ix}(h:Fresh W S y)(n: ∀b,y.1=some b->x.1≠some b):Fresh W (putL S i x) y:=
 fun b hb=>⟨(h b hb).1,fun k z e=>by
  unfold putL at e
  by_cases q:k=i
  ·rw[if_pos q]at e;injection e with e;rw[<- e];exact n b hb
  ·rw[if_neg q]at e;exact(h b hb).2 k z e⟩
theorem Fresh.of_put{W:World}{S:Nat->Option Ix}{i:Nat}{x y:Ix}(h:Fresh W (putL S i x) y)(hi:S i=none):Fresh W S y/\ ∀b,y.1=some b->x.1≠some b:=by
 refine⟨fun b hb=>⟨(h b hb).1,fun k z e=>(h b hb).2 k z ?_⟩,fun b hb=>(h b hb).2 i x (by simp[putL])⟩
 unfold putL
 by_cases q:k=i
 ·subst q;rw[hi]at e;cases e
 ·rw[if_neg q];exact e
theorem Has.lay{W:World}{sp:Sp}(st:Stable sp){S:Nat->Option Ix}{w w1:World}(h:Has W sp S w){i:Nat}{x:Ix}{R:Ix->World->Prop}{mk:Ix->Value}(e:sp i=some (R,mk))(a:Ab w w1)(hb: ∀b,x.1=some b->w.heap.size<=b/\b<w1.heap.size)(ho:R x w1):Has W sp (putL S i x) w1:=
 ⟨h.1.trans a,fun k c q=>by
  unfold putL at q
  by_cases z:k=i
  ·subst z
   rw[if_pos rfl]at q
   injection q with q
   subst q
   exact⟨fun b e2=>⟨Nat.le_trans h.1.size (hb b e2).1,(hb b e2).2⟩,R,mk,e,ho⟩
  ·rw[if_neg z]at q
   obtain⟨h1,R',mk',h2,h3⟩:=h.2 k c q
   exact⟨fun b e2=>⟨(h1 b e2).1,Nat.lt_of_lt_of_le (h1 b e2).2 a.size⟩,R',mk',h2,st k R' mk' h2 c w w1 h3 a⟩⟩
theorem Has.freshb{W:World}{sp:Sp}{S:Nat->Option Ix}{w:World}(h:Has W sp S w){x:Ix}(hb: ∀b,x.1=some b->w.heap.size<=b):Fresh W S x:=
 fun b e=>⟨Nat.le_trans h.1.size (hb b e),fun i y e2 e3=>by
  have h1:=((h.2 i y e2).1 b e3).2
  have h2:=hb b e
  omega⟩
section
variable {P:Program} {ops:Array Oper} {md:Region.Mode} {W:World} {sp:Sp}
def YF(P:Program)(ops:Array Oper)(W:World)(o:Oper)(v:Value)(a:Act):Prop:=
 (Region.wanted o (yielded ops a.tmps)=true/\ ∀w,Ab W w->(execOp a.eval o).run P w=.ok (.value v) w)\/(Region.wanted o (yielded ops a.tmps)=false/\v=undef)
def LayR(P:Program)(w:World)(ob:Ix->World->Prop)(mk:Ix->Value):Result Next->Prop
 | .ok (.value u) w1=> ∃x,u=mk x/\Ab w w1/\(∀b,x.1=some b->w.heap.size<=b/\b<w1.heap.size)/\ob x w1
 | .ok (.enter f args) w1=>w1=w/\Calls P f args w (fun e w2=> ∃x,e=.returned (mk x)/\Ab w w2/\(∀b,x.1=some b->w.heap.size<=b/\b<w2.heap.size)/\ob x w2)
 | _=>False
def LF(P:Program)(ops:Array Oper)(W:World)(o:Oper)(ob:Ix->World->Prop)(mk:Ix->Value)(a:Act):Prop:=
 Region.wanted o (yielded ops a.tmps)=true/\ ∀w,Ab W w->LayR P w ob mk ((execOp a.eval o).run P w)
theorem YF.same{o:Oper}{v:Value}{a a':Act}(h:YF P ops W o v a)(he:execOp a'.eval o=execOp a.eval o)(hw:Region.wanted o (yielded ops a'.tmps)=Region.wanted o (yielded ops a.tmps)):YF P ops W o v a':=by
 unfold YF at*
 rw[he,hw]
 exact h
theorem LF.same{o:Oper}{ob:Ix->World->Prop}{mk:Ix->Value}{a a':Act}(h:LF P ops W o ob mk a)(he:execOp a'.eval o=execOp a.eval o)(hw:Region.wanted o (yielded ops a'.tmps)=Region.wanted o (yielded ops a.tmps)):LF P ops W o ob mk a':=by
 unfold LF at*
 rw[he,hw]
 exact h
theorem YF.one{o:Oper}{v u:Value}{a:Act}(h:YF P ops W o v a)(k:YF P ops W o u a):v=u:=by
 rcases h with⟨w1,h⟩ | ⟨w1,rfl⟩
 ·rcases k with⟨_,k⟩ | ⟨w2,_⟩
  ·have:=(h W (Ab.refl W)).symm.trans (k W (Ab.refl W))
   injection this with e
   injection e
  ·rw[w1]at w2;cases w2
 ·rcases k with⟨w2,_⟩ | ⟨_,rfl⟩
  ·rw[w1]at w2;cases w2
  ·rfl
def fOp(P:Program)(ops:Array Oper)(W:World)(sp:Sp)(i:Nat)(K:Act->(Nat->Option Ix)->Prop)(a:Act)(S:Nat->Option Ix):Prop:=
 match ops[i]? with
 | none=>K a S
 | some o=>
  match sp i with
  | none=> ∃v,YF P ops W o v a/\K (a.put o.dst v) S
  | some (ob,mk)=>LF P ops W o ob mk a/\ ∀b,Fresh W S b->K (a.put o.dst (mk b)) (putL S i b)
theorem kD{i:Nat}{K K':Act->(Nat->Option Ix)->Prop}{a:Act}{S:Nat->Option Ix}(h: ∀a S,K a S->K' a S)(hh:fOp P ops W sp i K a S):fOp P ops W sp i K' a S:=by
 unfold fOp at*
 cases ho:ops[i]? with
 | none=>simp only[ho]at hh ⊢;exact h _ _ hh
 | some o=>
  cases hs:sp i with
  | none=>
   simp only[ho,hs]at hh ⊢
   obtain⟨v,h1,h2⟩:=hh
   exact⟨v,h1,h _ _ h2⟩
  | some x=>
   simp only[ho,hs]at hh ⊢
   exact⟨hh.1,fun b hb=>h _ _ (hh.2 b hb)⟩
def wpAnyF(P:Program)(md:Region.Mode)(ops:Array Oper)(W:World)(sp:Sp)(Q:Act->(Nat->Option Ix)->Prop):Nat->Array Bool->Act->(Nat->Option Ix)->Prop
 | 0,listed,a,S=>Region.ready md ops listed=[]/\Q a S
 | fuel+1,listed,a,S=>
  (Region.ready md ops listed=[]->Q a S)/\
  ∀i ∈ Region.ready md ops listed,fOp P ops W sp i (wpAnyF P md ops W sp Q fuel (listed.setIfInBounds i true)) a S
def Tidy(listed:Array Bool)(S:Nat->Option Ix):Prop:= ∀k,listed.getD k true=false->S k=none
theorem uH(W:World)(S:Nat->Option Ix): ∃x,Fresh W S x:=⟨(none,0),fun b e=>by cases e⟩
theorem Tidy.set{listed:Array Bool}{S:Nat->Option Ix}(h:Tidy listed S)(j:Nat):Tidy (listed.setIfInBounds j true) S:=
 fun k hk=>by
  by_cases e:j=k
  ·subst e
   by_cases l:j<listed.size
   ·simp[l]at hk
   ·exact h j (by rw[Array.setIfInBounds_eq_of_size_le (by omega)]at hk;exact hk)
  ·rw[getD_set_ne true e]at hk;exact h k hk
theorem Tidy.lay{listed:Array Bool}{S:Nat->Option Ix}(h:Tidy listed S){j:Nat}(hj:listed.getD j true=false)(b:Ix):Tidy (listed.setIfInBounds j true) (putL S j b):=by
 refine fun k hk=> ?_
 by_cases e:j=k
 ·subst e
  by_cases l:j<listed.size
  ·simp[l]at hk
  ·simp[l]at hj
 ·rw[getD_set_ne true e]at hk
  unfold putL
  rw[if_neg (Ne.symm e)]
  exact h k hk
theorem sD{j:Nat}{oi oj:Oper}{v:Value}(hj:ops[j]? =some oj)(hap:oi.apart ops oj=true)(hsi: ∀cs b,oi.op≠ .select cs b)(hsj: ∀cs b,oj.op≠ .select cs b)
  {K:Act->(Nat->Option Ix)->Prop} {a:Act} {S:Nat->Option Ix} (hy:YF P ops W oi v a) (h:fOp P ops W sp j K (a.put oi.dst v) S):
  fOp P ops W sp j (fun a' S'=>YF P ops W oi v a'/\K (a'.put oi.dst v) S') a S:=by
 obtain⟨h1,h2,h3⟩:=Oper.apart_spec hap
 have keep: ∀u,YF P ops W oi v (a.put oj.dst u):=fun u=>hy.same (execOp_put oi hsi a oj.dst u h3) (wanted_put oi a oj.dst u h3)
 unfold fOp at*
 cases hs:sp j with
 | none=>
  simp only[hj,hs]at h ⊢
  obtain⟨u,hu,hk⟩:=h
  exact⟨u,hu.same (execOp_put oj hsj a oi.dst v h1).symm (wanted_put oj a oi.dst v h1).symm,keep u,by rw[<- Act.put_comm a v u h2];exact hk⟩
 | some x=>
  simp only[hj,hs]at h ⊢
  exact⟨h.1.same (execOp_put oj hsj a oi.dst v h1).symm (wanted_put oj a oi.dst v h1).symm,fun b hb=>⟨keep _,by rw[<- Act.put_comm a v _ h2];exact h.2 b hb⟩⟩
theorem sE{i j:Nat}{oi oj:Oper}{ob:Ix->World->Prop}{mk:Ix->Value}(hij:i≠j)(hj:ops[j]? =some oj)(hap:oi.apart ops oj=true)(hsi: ∀cs b,oi.op≠ .select cs b)(hsj: ∀cs b,oj.op≠ .select cs b)
  {K:Act->(Nat->Option Ix)->Prop} {a:Act} {S:Nat->Option Ix} (hSj:S j=none) (hy:LF P ops W oi ob mk a) (h: ∀b,Fresh W S b->fOp P ops W sp j K (a.put oi.dst (mk b)) (putL S i b)):
  fOp P ops W sp j (fun a' S'=>LF P ops W oi ob mk a'/\ ∀b,Fresh W S' b->K (a'.put oi.dst (mk b)) (putL S' i b)) a S:=by
 obtain⟨h1,h2,h3⟩:=Oper.apart_spec hap
 have keep: ∀u,LF P ops W oi ob mk (a.put oj.dst u):=fun u=>hy.same (execOp_put oi hsi a oj.dst u h3) (wanted_put oi a oj.dst u h3)
 obtain⟨b0,hb0⟩:=uH W S
 unfold fOp at*
 cases hs:sp j with
 | none=>
  simp only[hj,hs]at h ⊢
  obtain⟨u,hu,_⟩:=h b0 hb0
  have hu':YF P ops W oj u a:=hu.same (execOp_put oj hsj a oi.dst _ h1).symm (wanted_put oj a oi.dst _ h1).symm
  refine⟨u,hu',keep u,fun b hb=> ?_⟩
  obtain⟨u2,hu2,hk⟩:=h b hb
  have e:u2=u:=YF.one (hu2.same (execOp_put oj hsj a oi.dst _ h1).symm (wanted_put oj a oi.dst _ h1).symm) hu'
  subst e
  rw[<- Act.put_comm a (mk b) u2 h2]
  exact hk
 | some x=>
  simp only[hj,hs]at h ⊢
  refine⟨(h b0 hb0).1.same (execOp_put oj hsj a oi.dst _ h1).symm (wanted_put oj a oi.dst _ h1).symm,fun c hc=>⟨keep _,fun b hb=> ?_⟩⟩
  obtain⟨q1,q2⟩:=hb.of_put hSj
  have:=(h b q1).2 c (hc.put (fun d e e2=>q2 d e2 e))
  rw[oI S b c hij,Act.put_comm a (mk b) _ h2]at this
  exact this
theorem firstY{Q:Act->(Nat->Option Ix)->Prop}{i:Nat}{oi:Oper}{v:Value}(hi:ops[i]? =some oi)(hsp:sp i=none)(hsel: ∀(j:Nat) (o:Oper) cs b,ops[j]? =some o->o.op≠ .select cs b):
  ∀(fuel:Nat) (listed:Array Bool) (a:Act) (S:Nat->Option Ix),
   (∀j oj,ops[j]? =some oj->j≠i->listed.getD j true=false->(∀e ∈ oj.after,Region.binds md e=true->e.on≠i)->oi.apart ops oj=true)->
   i ∈ Region.ready md ops listed->YF P ops W oi v a->
   wpAnyF P md ops W sp Q fuel (listed.setIfInBounds i true) (a.put oi.dst v) S->wpAnyF P md ops W sp Q (fuel+1) listed a S:=by
 have go: ∀(K:Act->(Nat->Option Ix)->Prop) (a:Act) (S:Nat->Option Ix),YF P ops W oi v a->K (a.put oi.dst v) S->fOp P ops W sp i K a S:=fun K a S hy h=>by
  unfold fOp;simp only[hi,hsp];exact⟨v,hy,h⟩
 intro fuel
 induction fuel with
 | zero=>
  intro listed a S _ hr hy H
  refine⟨fun h=>(by rw[h]at hr;cases hr),fun j hj=> ?_⟩
  by_cases hji:j=i
  ·subst hji;exact go _ _ _ hy H
  ·have:=ready_mono hj hji
   rw[H.1]at this
   cases this
 | succ fuel ih=>
  intro listed a S hfree hr hy H
  refine⟨fun h=>(by rw[h]at hr;cases hr),fun j hj=> ?_⟩
  by_cases hji:j=i
  ·subst hji;exact go _ _ _ hy H
  ·have h1:=H.2 j (ready_mono hj hji)
   obtain⟨hjun,oj,hoj,hall⟩:=mem_ready.1 hj
   have hnot: ∀e ∈ oj.after,Region.binds md e=true->e.on≠i:=fun e he hb heq=>by
    have h1:=hall e he hb
    have h0:=(mem_ready.1 hr).1
    rw[heq]at h1
    rcases Nat.lt_or_ge i listed.size with h' | h'
    ·simp[h']at h0 h1;rw[h0]at h1;cases h1
    ·simp[Array.getElem?_eq_none h']at h1
   have h2:=sD hoj (hfree j oj hoj hji hjun hnot) (fun cs b=>hsel i oi cs b hi) (fun cs b=>hsel j oj cs b hoj) hy h1
   have hfree': ∀k ok,ops[k]? =some ok->k≠i->(listed.setIfInBounds j true).getD k true=false->
     (∀e ∈ ok.after,Region.binds md e=true->e.on≠i)->oi.apart ops ok=true:=fun k ok hk hki hun hno=>by
    refine hfree k ok hk hki ?_ hno
    by_cases hjk:j=k
    ·subst hjk;exact hjun
    ·rw[getD_set_ne true hjk]at hun;exact hun
   refine kD (fun a' S' h3=>ih (listed.setIfInBounds j true) a' S' hfree' (ready_mono hr (Ne.symm hji)) h3.1 ?_) h2
   rw[Array.setIfInBounds_comm _ _ hji]
   exact h3.2
theorem firstL{Q:Act->(Nat->Option Ix)->Prop}{i:Nat}{oi:Oper}{ob:Ix->World->Prop}{mk:Ix->Value}(hi:ops[i]? =some oi)(hsp:sp i=some (ob,mk))(hsel: ∀(j:Nat) (o:Oper) cs b,ops[j]? =some o->o.op≠ .select cs b):
  ∀(fuel:Nat) (listed:Array Bool) (a:Act) (S:Nat->Option Ix),Tidy listed S->
   (∀j oj,ops[j]? =some oj->j≠i->listed.getD j true=false->(∀e ∈ oj.after,Region.binds md e=true->e.on≠i)->oi.apart ops oj=true)->
   i ∈ Region.ready md ops listed->LF P ops W oi ob mk a->
   (∀b,Fresh W S b->wpAnyF P md ops W sp Q fuel (listed.setIfInBounds i true) (a.put oi.dst (mk b)) (putL S i b))->wpAnyF P md ops W sp Q (fuel+1) listed a S:=by
 have go: ∀(K:Act->(Nat->Option Ix)->Prop) (a:Act) (S:Nat->Option Ix),LF P ops W oi ob mk a->(∀b,Fresh W S b->K (a.put oi.dst (mk b)) (putL S i b))->fOp P ops W sp i K a S:=fun K a S hy h=>by
  unfold fOp;simp only[hi,hsp];exact⟨hy,h⟩
 intro fuel
 induction fuel with
 | zero=>
  intro listed a S ty _ hr hy H
  refine⟨fun h=>(by rw[h]at hr;cases hr),fun j hj=> ?_⟩
  by_cases hji:j=i
  ·subst hji;exact go _ _ _ hy H
  ·obtain⟨b,hb⟩:=uH W S
   have:=ready_mono hj hji
   rw[(H b hb).1]at this
   cases this
 | succ fuel ih=>
  intro listed a S ty hfree hr hy H
  refine⟨fun h=>(by rw[h]at hr;cases hr),fun j hj=> ?_⟩
  by_cases hji:j=i
  ·subst hji;exact go _ _ _ hy H
  ·have h1:=fun b hb=>(H b hb).2 j (ready_mono hj hji)
   obtain⟨hjun,oj,hoj,hall⟩:=mem_ready.1 hj
   have hnot: ∀e ∈ oj.after,Region.binds md e=true->e.on≠i:=fun e he hb heq=>by
    have h1:=hall e he hb
    have h0:=(mem_ready.1 hr).1
    rw[heq]at h1
    rcases Nat.lt_or_ge i listed.size with h' | h'
    ·simp[h']at h0 h1;rw[h0]at h1;cases h1
    ·simp[Array.getElem?_eq_none h']at h1
   have hap:=hfree j oj hoj hji hjun hnot
   have hfree': ∀k ok,ops[k]? =some ok->k≠i->(listed.setIfInBounds j true).getD k true=false->
     (∀e ∈ ok.after,Region.binds md e=true->e.on≠i)->oi.apart ops ok=true:=fun k ok hk hki hun hno=>by
    refine hfree k ok hk hki ?_ hno
    by_cases hjk:j=k
    ·subst hjk;exact hjun
    ·rw[getD_set_ne true hjk]at hun;exact hun
   have h2:=sE (Ne.symm hji) hoj hap (fun cs b=>hsel i oi cs b hi) (fun cs b=>hsel j oj cs b hoj) (ty j hjun) hy h1
   -- what j leaves is tidy
   have h4:fOp P ops W sp j (fun a' S'=>Tidy (listed.setIfInBounds j true) S'/\LF P ops W oi ob mk a'/\ ∀b,Fresh W S' b->wpAnyF P md ops W sp Q fuel ((listed.setIfInBounds i true).setIfInBounds j true) (a'.put oi.dst (mk b)) (putL S' i b)) a S:=by
    unfold fOp at h2 ⊢
    cases hs:sp j with
    | none=>
     simp only[hoj,hs]at h2 ⊢
     obtain⟨u,hu,hk⟩:=h2
     exact⟨u,hu,ty.set j,hk⟩
    | some x=>
     simp only[hoj,hs]at h2 ⊢
     exact⟨h2.1,fun b hb=>⟨ty.lay hjun b,h2.2 b hb⟩⟩
   refine kD (fun a' S' h3=>ih (listed.setIfInBounds j true) a' S' h3.1 hfree' (ready_mono hr (Ne.symm hji)) h3.2.1 (fun b hb=> ?_)) h4
   rw[Array.setIfInBounds_comm _ _ hji]
   exact h3.2.2 b hb
def wpFree(P:Program)(ops:Array Oper)(W:World)(sp:Sp)(Q:Act->(Nat->Option Ix)->Prop):List Oper->Nat->Act->(Nat->Option Ix)->Prop
 | [],_,a,S=>Q a S
 | o :: rest,k,a,S=>
  match sp k with
  | none=> ∃v,YF P ops W o v a/\wpFree P ops W sp Q rest (k+1) (a.put o.dst v) S
  | some (ob,mk)=>LF P ops W o ob mk a/\ ∀b,Fresh W S b->wpFree P ops W sp Q rest (k+1) (a.put o.dst (mk b)) (putL S k b)
theorem eG{Q:Act->(Nat->Option Ix)->Prop}(hs:Region.noSelect ops=true): ∀(l:List Oper) (k:Nat) (listed:Array Bool) (a:Act) (S:Nat->Option Ix),(∀j,l[j]? =ops[k+j]?)->Tidy listed S->
  Region.lexFrom md ops l.length k listed=true->wpFree P ops W sp Q l k a S->wpAnyF P md ops W sp Q l.length listed a S
 | [],_,_,_,_,_,_,hB,h=>⟨by simpa [Region.lexFrom]using hB,h⟩
 | o :: l,k,listed,a,S,hl,ty,hB,h=>by
  have h0:ops[k]? =some o:=by simpa using(hl 0).symm
  simp only[List.length_cons,Region.lexFrom,Bool.and_eq_true]at hB
  obtain⟨⟨hr,hf⟩,hB'⟩:=hB
  have hr':k ∈ Region.ready md ops listed:=by simpa using hr
  have hl': ∀j,l[j]? =ops[k+1+j]? :=fun j=>by have:=hl (j+1);simpa [Nat.add_assoc,Nat.add_comm 1 j]using this
  cases hsp:sp k with
  | none=>
   simp only[wpFree,hsp]at h
   obtain⟨v,hy,hK⟩:=h
   exact firstY h0 hsp (Region.noSelect_spec hs) l.length listed a S (Region.free_spec h0 hf) hr' hy
    (eG hs l (k+1) _ _ _ hl' (ty.set k) hB' hK)
  | some x=>
   obtain⟨ob,mk⟩:=x
   simp only[wpFree,hsp]at h
   exact firstL h0 hsp (Region.noSelect_spec hs) l.length listed a S ty (Region.free_spec h0 hf) hr' h.1
    (fun b hb=>eG hs l (k+1) _ _ _ hl' (ty.lay (mem_ready.1 hr').1 b) hB' (h.2 b hb))
theorem kE(stb:Stable sp){i:Nat}{a:Act}{S:Nat->Option Ix}{K:Act->(Nat->Option Ix)->Prop}{K':Act->World->Prop}{Q':Exit->Act->World->Prop}{w:World}(hC:Has W sp S w)(h: ∀a S w',Has W sp S w'->K a S->K' a w')(hh:fOp P ops W sp i K a S):wpOp P ops Q' i K' a w:=by
 unfold fOp at hh
 unfold wpOp
 cases ho:ops[i]? with
 | none=>simp only[ho]at hh ⊢;exact h _ _ _ hC hh
 | some o=>
  cases hs:sp i with
  | none=>
   simp only[ho,hs]at hh ⊢
   obtain⟨v,hy,hk⟩:=hh
   rcases hy with⟨w1,hv⟩ | ⟨w1,rfl⟩
   ·rw[if_pos w1]
    refine .inl ?_
    unfold Oper.wp
    rw[hv w hC.1]
    exact h _ _ _ hC hk
   ·rw[if_neg (by rw[w1];exact Bool.false_ne_true)]
    exact h _ _ _ hC hk
  | some x=>
   obtain⟨ob,mk⟩:=x
   simp only[ho,hs]at hh ⊢
   obtain⟨⟨w1,hv⟩,hk⟩:=hh
   rw[if_pos w1]
   refine .inl ?_
   unfold Oper.wp
   have q:=hv w hC.1
   generalize(execOp a.eval o).run P w=r at q
   match r,q with
   | .ok (.value u) w2,⟨b,hu,ha,hb,ho2⟩=>
    subst hu
    exact h _ _ _ (hC.lay stb hs ha hb ho2) (hk b (hC.freshb (fun d e=>(hb d e).1)))
   | .ok (.enter f args) w2,⟨e,hc⟩=>
    subst e
    refine Calls.mono hc ?_
    rintro e2 w3 ⟨b,rfl,ha,hb,ho2⟩
    exact h _ _ _ (hC.lay stb hs ha hb ho2) (hk b (hC.freshb (fun d e=>(hb d e).1)))
end
theorem sF{P:Program}{md:Region.Mode}{ops hd:Array Oper}{W:World}{sp:Sp}{n:Nat}(hhd: ∀i,i<n->hd[i]? =ops[i]?)(hb:backB md ops n=true){i:Nat}(hi:i<n){K:Act->(Nat->Option Ix)->Prop}{a:Act}{S:Nat->Option Ix}(h:fOp P hd W sp i K a S):fOp P ops W sp i K a S:=by
 unfold fOp at*
 rw[hhd i hi]at h
 cases ho:ops[i]? with
 | none=>rw[ho]at h;exact h
 | some o=>
  have e:Region.wanted o (yielded hd a.tmps)=Region.wanted o (yielded ops a.tmps):=by
   unfold Region.wanted
   cases hg:o.guard with
   | none=>rfl
   | some jb=>
    obtain⟨j,b⟩:=jb
    have lt:=(iZ hb hi ho).2 j b hg
    show(yielded hd a.tmps j==some b)=(yielded ops a.tmps j==some b)
    unfold yielded
    rw[hhd j lt]
  simp only[ho]at h ⊢
  cases hs:sp i with
  | none=>
   simp only[hs]at h ⊢
   unfold YF at*
   rw[e]at h
   exact h
  | some x=>
   simp only[hs]at h ⊢
   unfold LF at*
   rw[e]at h
   exact h
theorem gW{P:Program}{md:Region.Mode}{ops hd:Array Oper}{W:World}{sp:Sp}(stb:Stable sp){n:Nat}{g:Nat}{Q1:Act->(Nat->Option Ix)->Prop}{Q':Exit->Act->World->Prop}(hhd: ∀i,i<n->hd[i]? =ops[i]?)(hsz:hd.size=n)(hn:n<ops.size)(hb:backB md ops n=true)(hs:Region.sinkB md ops n=true)(hc:Region.chainB md ops n=true)
  (hL: ∀a S w,Has W sp S w->Q1 a S->wpAny P md ops Q' g (finA ops.size n) a w):
  ∀(fuel:Nat) (listed lh:Array Bool) (a:Act) (S:Nat->Option Ix) (w:World),Has W sp S w->HeadInv md ops n listed->lh.size=n->(∀i,i<n->lh.getD i true=listed.getD i true)->
   wpAnyF P md hd W sp Q1 fuel lh a S->wpAny P md ops Q' (fuel+g) listed a w:=by
 intro fuel
 induction fuel with
 | zero=>
  intro listed lh a S w hC inv hl he h
  have hls:n<=listed.size:=by rw[inv.size];omega
  rcases eF (by omega) hb hls with all | ⟨i,hi,hr⟩
  ·rw[Nat.zero_add,nZ hn inv all]
   exact hL a S w hC h.2
  ·have:=(fL hhd hb hl hls he hi).2 hr
   rw[h.1]at this
   cases this
 | succ fuel ih=>
  intro listed lh a S w hC inv hl he h
  have hls:n<=listed.size:=by rw[inv.size];omega
  rcases eF (by omega) hb hls with all | ⟨i0,hi0,hr0⟩
  ·have no:Region.ready md hd lh=[]:=by
    rw[List.eq_nil_iff_forall_not_mem]
    intro i hi
    obtain⟨u,o,ho,_⟩:=mem_ready.1 hi
    have lt:i<n:=by rw[<- hsz];exact(Array.getElem?_eq_some_iff.1 ho).1
    rw[he i lt,all i lt]at u
    cases u
   rw[Nat.add_comm (fuel+1) g,nZ hn inv all]
   exact jH g (fuel+1) _ a w (hL a S w hC (h.1 no))
  ·rw[show fuel+1+g=(fuel+g)+1 by omega]
   refine⟨fun h0=>(by rw[h0]at hr0;cases hr0),fun i hi=> ?_⟩
   have lt:i<n:=by
    by_cases c:i<n
    ·exact c
    ·exact absurd hi (tail_waits hs hc hn inv _ i0 rfl hi0 (mem_ready.1 hr0).1 i (by omega))
   have hq:=sF hhd hb lt (h.2 i ((fL hhd hb hl hls he lt).2 hi))
   refine kE stb hC (fun a' S' w' hC' h'=>ih _ _ a' S' w' hC' (inv.set hi lt) (by simp[hl]) (fun j hj=> ?_) h') hq
   by_cases e:i=j
   ·subst e
    simp[hl,lt,show i<listed.size by omega]
   ·rw[getD_set_ne true e,getD_set_ne true e,he j hj]
theorem kF{P:Program}{id:Nat}{Q:Exit->Act->World->Prop}{a:Act}{w:World}{l:List Oper}(n:Nat)(sp:Sp)(stb:Stable sp)(hm:P.follows .mixedOrders=true)(hB:Region.lexB .any (l.take n).toArray=true)(hT:tailB l.toArray n=true)
  (h:wpFree P (l.take n).toArray w.drew sp (fun a' S=> ∀w',Has w.drew sp S w'->wpList P l.toArray Q (l.drop n) a' w') (l.take n) 0 a (fun _=>none)):(Code.region id l.toArray true).wp P Q a w:=by
 simp only[tailB,Bool.and_eq_true,decide_eq_true_eq]at hT
 obtain⟨⟨⟨⟨hn,hb⟩,hs⟩,hc⟩,hq⟩:=hT
 have hn':n<l.length:=by simpa using hn
 have htl:(l.take n).toArray.size=n:=by simp;omega
 have hdl:(l.drop n).length=l.toArray.size - n:=by simp
 refine wp_region_any hm ?_
 simp only[Region.lexB,Bool.and_eq_true]at hB
 have H:=eG (P:=P) (W:=w.drew) (sp:=sp) (md:=.any) hB.1 (l.take n) 0 (Array.replicate (l.take n).toArray.size false) a (fun _=>none) (by simp) (fun _ _=>rfl) (by simpa using hB.2) h
 have inv0:HeadInv .any l.toArray n (Array.replicate l.toArray.size false):=
  ⟨by simp,fun j oj _ hl=>(by rw[getD_replicate_false]at hl;cases hl),fun t _ ht=>getD_in (by simpa using ht) (getD_replicate_false _ _)⟩
 have:=gW stb (P:=P) (Q':=Q) (g:=l.toArray.size - n) (hd:=(l.take n).toArray) (ops:=l.toArray) (fun i hi=>by simp[hi]) htl hn hb hs hc
  (fun a' S' w' hC' h'=>by
   have:=wpAny_of_seq (P:=P) (md:=.any) (ops:=l.toArray) (Q':=Q) (l.drop n) n (finA l.toArray.size n) a' w' (fun j=>by simp) (by rw[hdl];exact hq) (h' w' hC')
   rwa [hdl]at this)
  (l.take n).length _ _ a (fun _=>none) w.drew ⟨Ab.refl _,fun i b e=>by cases e⟩ inv0 (by simpa using htl) (fun i hi=>by
   rw[getD_in (listed:=Array.replicate l.toArray.size false) (by simp;omega) (getD_replicate_false _ _)]
   exact getD_in (by rw[Array.size_replicate];omega) (getD_replicate_false _ _)) H
 have e:(l.take n).length+(l.toArray.size - n)=l.toArray.size:=by simp;omega
 rw[e]at this
 exact this
section
variable {P:Program} {ops:Array Oper} {W:World} {sp:Sp} {Q:Act->(Nat->Option Ix)->Prop} {o:Oper} {rest:List Oper} {k:Nat} {a:Act} {S:Nat->Option Ix}
theorem dF{U:Type}{F:U->World}(HF:Hid (∀w',Ab W w'-> ∃u,w'=F u))(hs:sp k=none)(hp:plainB o.op=true)(h:wpQuiet P ops (fun w'=> ∃u,w'=F u) (fun a'=>wpFree P ops W sp Q rest (k+1) a' S) [o] a):wpFree P ops W sp Q (o :: rest) k a S:=by
 simp only[wpFree,hs]
 simp only[wpQuiet]at h
 by_cases c:Region.wanted o (yielded ops a.tmps)=true
 ·rw[if_pos c]at h
  obtain⟨v,h1,h2⟩:=h
  refine⟨v,.inl ⟨c,fun w hw=> ?_⟩,h2⟩
  have q:=h1 w (HF.out w hw)
  unfold Oper.quietAt at q
  cases e:(execOp a.eval o).run P w with
  | ok n w'=>
   obtain⟨x,rfl⟩:=pC hp e
   rw[e]at q
   obtain⟨q1,q2⟩:=q
   rw[q1,q2]
  | halt x w'=>rw[e]at q;exact absurd q (by simp[Oper.quietUpon])
 ·rw[if_neg c]at h
  exact⟨undef,.inr ⟨by simpa using c,rfl⟩,h⟩
theorem dP{ob:Ix->World->Prop}{mk:Ix->Value}(hs:sp k=some (ob,mk))(hw:Region.wanted o (yielded ops a.tmps)=true)(hr: ∀w,Ab W w->LayR P w ob mk ((execOp a.eval o).run P w))
  (h: ∀b,Fresh W S b->wpFree P ops W sp Q rest (k+1) (a.put o.dst (mk b)) (putL S k b)):wpFree P ops W sp Q (o :: rest) k a S:=by
 simp only[wpFree,hs]
 exact⟨⟨hw,hr⟩,h⟩
theorem jK{ob:Ix->World->Prop}{mk:Ix->Value}{O:Obj}{c:Nat}(h: ∀w,Ab W w->(execOp a.eval o).run P w=.ok (.value (mk (some w.heap.size,c))) (w.alloc O))(hR: ∀w,Ab W w->ob (some w.heap.size,c) (w.alloc O)): ∀w,Ab W w->LayR P w ob mk ((execOp a.eval o).run P w):=fun w hw=>by
 rw[h w hw]
 refine⟨(some w.heap.size,c),rfl,bl1 _ _,fun b e=> ?_,hR w hw⟩
 injection e with e
 subst e
 refine⟨Nat.le_refl _,?_⟩
 show _<(w.heap.push O).size
 simp
theorem lay_call{ob:Ix->World->Prop}{mk:Ix->Value}{f:FuncId}{args:Array Value}(h1: ∀w,(execOp a.eval o).run P w=.ok (.enter f args) w)(h2: ∀w,Ab W w->Calls P f args w (fun e w2=> ∃x,e=.returned (mk x)/\Ab w w2/\(∀b,x.1=some b->w.heap.size<=b/\b<w2.heap.size)/\ob x w2)): ∀w,Ab W w->LayR P w ob mk ((execOp a.eval o).run P w):=fun w hw=>by
 rw[h1 w]
 exact⟨rfl,h2 w hw⟩
theorem run_val{s:Sem Value}{w w':World}{x:Value}(h:s.run P w=.ok x w'):(do pure (Next.value (<- s)):Sem Next).run P w=.ok (.value x) w':=by
 rw[Sem.run_bind,h]
 rfl
theorem run_alloc{t:TypeId}{u:Value}{w w':World}(ho:o.op=.alloc t)(M:(Instr.alloc t true (.tuple #[])).run P w=.ok u w'):(execOp a.eval o).run P w=.ok (.value u) w':=by
 unfold execOp
 rw[ho]
 exact run_val M
theorem Bk(v:Value)(hs:sp k=none)(hw:Region.wanted o (yielded ops a.tmps)=true)(hr: ∀w,(execOp a.eval o).run P w=.ok (.value v) w)
  (h:wpFree P ops W sp Q rest (k+1) (a.put o.dst v) S):wpFree P ops W sp Q (o :: rest) k a S:=by
 simp only[wpFree,hs]
 exact⟨v,.inl ⟨hw,fun w _=>hr w⟩,h⟩
theorem lS(h:Q a S):wpFree P ops W sp Q [] k a S:=h
end
theorem Has.at{W:World}{sp:Sp}{S:Nat->Option Ix}{w:World}(h:Has W sp S w){i:Nat}{x:Ix}{R:Ix->World->Prop}{mk:Ix->Value}(e:S i=some x)(s:sp i=some (R,mk)):R x w/\ ∀b,x.1=some b->W.heap.size<=b/\b<w.heap.size:=by
 obtain⟨h1,o,m,h2,h3⟩:=h.2 i x e
 rw[s]at h2
 injection h2 with h2
 injection h2 with h2
 subst h2
 exact⟨h3,h1⟩
end Cg
end
section
open Go.RowKit Tf Cu Go.Deep
namespace Ss
theorem src_fl20{w:World}{pb:Option Addr}{L:Nat}{B:Nat->Nat}(h:IsFl w pb L B)(cb:Nat):Src prog 1 38 (.slice pb L cb) L ((List.range L).map fun k=>Value.float .f64 (B k)) w:=by
 have one: ∀u ∈ (List.range L).map (fun k=>Value.float .f64 (B k)),u.oneCell'=true:=fun u hu=>by
  obtain⟨k,_,rfl⟩:=List.mem_map.1 hu
  rfl
 cases pb with
 | none=>
  have:L=0:=by
   rcases Nat.eq_zero_or_pos L with h0 | h0
   ·exact h0
   ·obtain⟨_,b,o,h2,_⟩:=h 0 h0
    cases h2
  subst this
  exact Src.ofNil w underlying38 cb
 | some a=>
  refine Src.ofSlice w underlying38 a L cb _ (by simp) (fun j u hu=> ?_) one
  have hj:j<L:=by
   rcases Nat.lt_or_ge j L with h1 | h1
   ·exact h1
   ·rw[List.getElem?_eq_none (by simpa using h1)]at hu;cases hu
  obtain⟨_,b,o,h2,_,h4⟩:=h j hj
  cases h2
  simp[hj]at hu
  rw[nY,<- hu]
  exact h4
theorem tA{ops:Array Oper}{rest:List Oper}{o:Oper}{a:Act}{w:World}{Q:Exit->Act->World->Prop}(hgd:o.guard=none)(s x:Operand)
  (ho:o.op=.call {callee:=.builtin .append,args:= #[s,x],argTypes:= #[38,38]})
  (B:Nat) (v:Value) (l:List Nat) (hs:a.eval s=v) (hown:OwnG B v l w)
  (ad:Addr) (m c:Nat) (news:List Nat) (hx:a.eval x=.slice (some ad) m c) (hl:news.length=m) (hnews: ∀j u,(news.map (Value.float .f64))[j]? =some u->w.cell? (ad.add j)=some u)
  (hm:0<m) (hlen:l.length+m<=17592186044416) (hB:B<=w.heap.size) (nm:Nat) (hnm:l.length+m=nm)
  (h: ∀g cap w',OwnG B (.slice (some ⟨g,0,none⟩) nm cap) (l++news) w'->w.grownBy w' v.ownBlock->(v.ownBlock=some g\/g=w.heap.size)->B<=g->wpList prog ops Q rest (a.put o.dst (.slice (some ⟨g,0,none⟩) nm cap)) w'):wpList prog ops Q (o :: rest) a w:=by
 subst hnm
 obtain⟨i0,hi,hz0,hz1,hz2⟩:=info_g
 refine wpList_append_lies w hgd s x _ ho B 35 i0 (.float .f64 0) 1 8 underlying38 hi hz0 hz1 hz2 rfl (by decide) v l.length (l.map (Value.float .f64)) hs hown ad m c (news.map (Value.float .f64)) hx (by simpa using hl) hnews (fun u hu=>by
  obtain⟨y,_,rfl⟩:=List.mem_map.1 hu
  rfl) hm (by unfold maxLen;omega) (by omega) hB _ rfl ?_
 intro g cap w' o1 g1 e1 _
 have hb:B<=g:=by
  rcases o1.2 with⟨q,_⟩ | ⟨g2,_,_,q,hb,_⟩
  ·cases q
  ·injection q with q1 q2 q3
   injection q1 with q4
   injection q4 with q5
   omega
 refine h g cap w' ?_ g1 e1 hb
 unfold OwnG
 rw[List.length_append,List.map_append,hl]
 exact o1
theorem Bl(w:World)(a:Option Addr)(n c:Nat):(binOp .eql 38 (.slice a n c) (.slice none 0 0)).run prog w=.ok (.bool a.isNone) w:=Lib.run_eql_slice_nil w _ _ a n c 0 0 underlying38
attribute [local go_sem] Bl
theorem sH{ops:Array Oper}{rest:List Oper}{o:Oper}{a:Act}{w:World}{Q:Exit->Act->World->Prop}(hgd:o.guard=none)(s x:Operand)
  (ho:o.op=.call {callee:=.builtin .append,args:= #[s,x],argTypes:= #[38,38]})
  (g:Nat) (hs:a.eval s=.slice (some ⟨g,0,none⟩) 0 0) (src:Value) (hx:a.eval x=src) (hsrc:Src prog 1 38 src 0 [] w)
  (h:wpList prog ops Q rest (a.put o.dst (.slice (some ⟨g,0,none⟩) 0 0)) w):wpList prog ops Q (o :: rest) a w:=by
 obtain⟨i0,hi,hz0,hz1,hz2⟩:=info_g
 refine wpList_plain hgd fun _ hK=> ?_
 have hr:=run_append_room_src (P:=prog) w 38 38 o.type 35 i0 underlying38 hi g 0 0 0 src 0 [] (by rw[hz1];exact hsrc) (Nat.le_refl _) (fun j hj=>absurd hj (Nat.not_lt_zero j)) (fun j hj=>absurd hj (Nat.not_lt_zero j))
 unfold Oper.wp execOp
 simp only[ho,resolve,invoke,builtin,Sem.run_bind,Sem.run_pure,Result.andThen_ok,List.map_toArray,List.map_cons,List.map_nil,hs,hx,hr]
 exact hK _ _ h
theorem Bm{w:World}{b o N:Nat}{D:Nat->Nat}(h:IsFl w (some ⟨b,o,none⟩) N D): ∀j u,(((List.range N).map D).map (Value.float .f64))[j]? =some u->w.cell? ((⟨b,o,none⟩:Addr).add j)=some u:=fun j u hu=>by
 have hj:j<N:=by
  rcases Nat.lt_or_ge j N with h1 | h1
  ·exact h1
  ·rw[List.getElem?_eq_none (by simpa using h1)]at hu;cases hu
 simp[hj]at hu
 rw[nY,<- hu]
 exact(h.at0 hj).2.2
theorem tB(n c:Nat)(w:World):Calls prog 44 #[.slice none n c] w fun e w'=>e=.returned (.slice none 0 0)/\w'=w:=by
 go_enter func44,ntmps44
 go_wp2
 go_ret
 exact⟨rfl,rfl⟩
theorem tC(p:Addr)(c:Nat)(f:Nat->Nat)(w:World):Calls prog 44 #[.slice (some p) 0 c] w fun e w'=>e=.returned (.slice (some ⟨w.heap.size,0,none⟩) 0 0)/\w'=w.alloc (.cells #[] 35):=by
 have SR:=hid (src_fl20 ((fun k hk=>absurd hk (Nat.not_lt_zero k):IsFl (w.alloc (.cells #[] 35)) (some p) 0 f)) c)
 go_enter func44,ntmps44
 go_wp2_with (first
  | (at_builtin;refine sH rfl (.tmp 5) (.tmp 6) rfl w.heap.size rfl (.slice (some p) 0 c) rfl SR.out ?_))
 go_ret
 exact⟨rfl,rfl⟩
theorem yW(b o n c:Nat)(f:Nat->Nat)(w:World)(h0:0<n)(hn:n<=17592186044416)(hf:IsFl w (some ⟨b,o,none⟩) n f):Calls prog 44 #[.slice (some ⟨b,o,none⟩) n c] w fun e w'=> ∃v,e=.returned v/\Below w.heap.size w w'/\OwnG w.heap.size v ((List.range n).map f) w':=by
 have O2:=hid (OwnG.new w w.heap.size (Nat.le_refl _))
 have N1:=hid (Bm (hf.below (bl1 w (.cells #[] 35))))
 have LS:Hid (w.heap.size<=(w.alloc (.cells #[] 35)).heap.size):=by show _<=_;simp
 have H0:=hid h0
 have HN:=hid hn
 clear hf h0 hn
 go_enter func44,ntmps44
 go_wp2_with (first
  | (at_builtin;refine tA rfl (.tmp 5) (.tmp 6) rfl w.heap.size (.slice (some ⟨w.heap.size,0,none⟩) 0 0) [] rfl O2.out ⟨b,o,none⟩ n c ((List.range n).map f) rfl (by simp) N1.out H0.out (by have:=HN.out;simp;omega) LS.out n (by simp) ?_;intro g1 c1 w1 o1 x1 y1 _;have O1:=hid o1;have X1:=hid x1;clear o1 x1 y1))
 go_ret
 refine⟨_,rfl,Below.grown (bl1 w _:Below _ _ _) X1.out LS.out (fun k hk=>(World.ownsRow.lt O2.out k hk).1),?_⟩
 have h:=O1.out
 rw[List.nil_append]at h
 exact h
theorem yX(p:Option Addr)(n c:Nat)(f:Nat->Nat)(w:World)(hn:n<=17592186044416)(hf:IsFl w p n f):Calls prog 44 #[.slice p n c] w fun e w'=> ∃v,e=.returned v/\Below w.heap.size w w'/\OwnG w.heap.size v ((List.range n).map f) w':=by
 rcases Nat.eq_zero_or_pos n with h0 | h0
 ·subst h0
  cases p with
  | none=>
   refine(tB 0 c w).mono ?_
   rintro e w' ⟨rfl,rfl⟩
   exact⟨_,rfl,Below.refl _ _,(⟨by simp,.inl ⟨rfl,rfl⟩⟩:OwnG _ _ _ _)⟩
  | some a=>
   refine(tC a c f w).mono ?_
   rintro e w' ⟨rfl,rfl⟩
   exact⟨_,rfl,bl1 _ _,OwnG.new w w.heap.size (Nat.le_refl _)⟩
 ·obtain⟨b,o,rfl⟩:=hf.some0 h0
  exact yW b o n c f w h0 hn hf
theorem Bn(w:World)(a:Option Addr)(n c:Nat):(binOp .eql 46 (.slice a n c) (.slice none 0 0)).run prog w=.ok (.bool a.isNone) w:=Lib.run_eql_slice_nil w _ _ a n c 0 0 underlying46
attribute [local go_sem] Bn
def mkS(n:Nat)(x:Cg.Ix):Value:=match x.1 with
 | some b=>.slice (some ⟨b,0,none⟩) n x.2
 | none=>.slice none 0 0
theorem DF(n:Nat)(x:Cg.Ix):(mkS n x).ownBlock=x.1:=by
 obtain⟨x1,x2⟩:=x
 cases x1<;>rfl
theorem row_ix{t:TypeId}{B n:Nat}{v:Value}{l:List Value}{w:World}(h:w.ownsRow B t 1 v n l): ∃x:Cg.Ix,v=mkS n x/\ ∀b,x.1=some b->B<=b/\b<w.heap.size:=by
 rcases h.2 with⟨rfl,h0⟩ | ⟨g,cap,cur,rfl,hb,hg,-⟩
 ·exact⟨(none,0),rfl,fun b e=>by cases e⟩
 ·refine⟨(some g,cap),rfl,fun b e=> ?_⟩
  injection e with e
  subst e
  exact⟨hb,lt_of_block hg⟩
theorem row_less{t:TypeId}{B B' n:Nat}{v:Value}{l:List Value}{w:World}(h:w.ownsRow B t 1 v n l)(hb:B'<=B):w.ownsRow B' t 1 v n l:=by
 refine⟨h.1,?_⟩
 rcases h.2 with h0 | ⟨g,cap,cur,e,h1,rest⟩
 ·exact .inl h0
 ·exact .inr ⟨g,cap,cur,e,by omega,rest⟩
theorem cloneF(p:Option Addr)(n c:Nat)(f:Nat->Nat)(M:Nat)(w:World)(hn:n<=17592186044416)(hf:IsFl w p n f)(hM:M<=w.heap.size):
  Calls prog 44 #[.slice p n c] w fun e w2=> ∃x,e=.returned (mkS n x)/\Ab w w2/\(∀b,x.1=some b->w.heap.size<=b/\b<w2.heap.size)/\OwnG M (mkS n x) ((List.range n).map f) w2:=
 (yX p n c f w hn hf).mono fun e w2 h=>by
  obtain⟨v,rfl,h1,h2⟩:=h
  have h3:=h2
  unfold OwnG at h3
  rw[List.length_map,List.length_range]at h3
  obtain⟨x,rfl,hx⟩:=row_ix h3
  exact⟨x,rfl,h1,hx,row_less h2 hM⟩
end Ss
end
section
open Go.RowKit Tf Cu Go.Deep
attribute [local go_sem] aJ aK aN aO aP aQ aV aD
namespace Ss
theorem mkS_sl(n:Nat)(x:Cg.Ix): ∃p m c,mkS n x=.slice p m c:=by
 obtain⟨x1,x2⟩:=x
 cases x1
 ·exact⟨_,_,_,rfl⟩
 ·exact⟨_,_,_,rfl⟩
theorem bG{t:TypeId}{B n g:Nat}{v:Value}{l:List Value}{w:World}(h:w.ownsRow B t 1 v n l)(hg:v.ownBlock≠some g)(k:Nat)(u:Value):(w.setCell ⟨g,k,none⟩ u).ownsRow B t 1 v n l:=by
 refine⟨h.1,?_⟩
 rcases h.2 with h0 | ⟨b,cap,cur,e,h1,h2,rest⟩
 ·exact .inl h0
 ·refine .inr ⟨b,cap,cur,e,h1,?_,rest⟩
  rw[aE (fun q=>hg (by rw[e];show some b=some g;rw[q]))]
  exact h2
theorem fA{t:TypeId}{B n g:Nat}{v:Value}{l:List Value}{w:World}(h:w.ownsRow B t 1 v n l)(hg:v.ownBlock≠some g)(x0 x1 x2 x3 x4 x5:Value):((((((w.setCell ⟨g,0,none⟩ x0).setCell ⟨g,1,none⟩ x1).setCell ⟨g,2,none⟩ x2).setCell ⟨g,3,none⟩ x3).setCell ⟨g,4,none⟩ x4).setCell ⟨g,5,none⟩ x5).ownsRow B t 1 v n l:=
 bG (bG (bG (bG (bG (bG h hg _ _) hg _ _) hg _ _) hg _ _) hg _ _) hg _ _
end Ss
end
section
open Go.RowKit Tf Cu Go.Deep
attribute [local go_sem] aJ aK aN aO aP aQ aV aD
namespace Ss
theorem sameF_at(a b:Nat)(r:Bool)(w:World)(hr:decide (a=b)=r):
  Calls prog 164 #[.float .f64 a,.float .f64 b] w fun e w'=>e=.returned (.bool r)/\w'=w:=by
 by_cases h:a=b
 ·have d1:((a:Int)==(b:Int))=true:=by simp[h]
  have R:Hid (r=true):=hr.symm.trans (decide_eq_true h)
  clear hr h
  go_enter func164,ntmps164
  go_wp2
  go_ret
  exact⟨by rw[R.out];rfl,rfl⟩
 ·have d1:((a:Int)==(b:Int))=false:=by simp;omega
  have R:Hid (r=false):=hr.symm.trans (decide_eq_false h)
  clear hr h
  go_enter func164,ntmps164
  go_wp2
  go_ret
  exact⟨by rw[R.out];rfl,rfl⟩
theorem uI(x lo hi:Nat)(r:Bool)(w:World)(hr:((fgt x lo||feq x lo)&&(flt x hi||feq x hi))=r):
  Calls prog 163 #[.float .f64 x,.float .f64 lo,.float .f64 hi] w fun e w'=>e=.returned (.bool r)/\w'=w:=by
 cases h1:(fgt x lo||feq x lo)with
 | false=>
  have R:Hid (r=false):=hr.symm.trans (by rw[h1];rfl)
  clear hr
  go_enter func163,ntmps163
  go_wp2
  go_ret
  exact⟨by rw[R.out];rfl,rfl⟩
 | true=>
  cases h2:(flt x hi||feq x hi)with
  | false=>
   have R:Hid (r=false):=hr.symm.trans (by rw[h1,h2];rfl)
   clear hr
   go_enter func163,ntmps163
   go_wp2
   go_ret
   exact⟨by rw[R.out];rfl,rfl⟩
  | true=>
   have R:Hid (r=true):=hr.symm.trans (by rw[h1,h2];rfl)
   clear hr
   go_enter func163,ntmps163
   go_wp2
   go_ret
   exact⟨by rw[R.out];rfl,rfl⟩
theorem canon_in{x lo:Nat}(hx:x<18446744073709551616)(hl:lo<18446744073709551616)(h:(fgt x lo||feq x lo)=true):decide (x=canonB x)=decide (x≠9223372036854775808):=by
 have n:isN x=false:=by
  rw[eT x lo hx hl,gQ x lo hx hl]at h
  cases q:isN x with
  | false=>rfl
  | true=>rw[q]at h;simp at h
 unfold canonB
 rw[if_neg (by rw[n];decide)]
 unfold mg
 by_cases z:x%9223372036854775808=0
 ·rw[if_pos z]
  by_cases e:x=9223372036854775808
  ·rw[decide_eq_false (by omega),decide_eq_false (fun q=>q e)]
  ·rw[decide_eq_true (by omega),decide_eq_true e]
 ·rw[if_neg z,decide_eq_true rfl,decide_eq_true (by omega)]
theorem gM(x lo hi:Nat)(r:Bool)(w:World)(hx:x<18446744073709551616)(hl:lo<18446744073709551616)(hr:btw x lo hi=r):
  Calls prog 142 #[.float .f64 x,.float .f64 lo,.float .f64 hi] w fun e w'=>e=.returned (.bool r)/\w'=w:=by
 unfold btw at hr
 cases h1:((fgt x lo||feq x lo)&&(flt x hi||feq x hi))with
 | false=>
  have R:Hid (r=false):=hr.symm.trans (by rw[h1];rfl)
  have CW:=hid (uI x lo hi false w h1)
  clear hr hx hl h1
  go_enter func142,ntmps142
  go_wp2_with fail
  refine CW.out.mono ?_
  rintro e9 v9 ⟨rfl,hv9⟩
  have hv8:=hv9.symm
  subst hv8
  go_wp2
  go_ret
  exact⟨by rw[R.out];rfl,rfl⟩
 | true=>
  have R:Hid (decide (x≠9223372036854775808)=r):=by
   show _=_
   rw[<- hr,h1]
   rfl
  have CW:=hid (uI x lo hi true w h1)
  have h3:=canon_in hx hl ((Bool.and_eq_true _ _).mp h1).1
  have CC:=hid (xL x _ w hx rfl)
  have CS:=hid (sameF_at x (canonB x) r w (by rw[h3];exact R.out))
  generalize canonB x=y at*
  clear hr hx hl h1 h3 R
  go_enter func142,ntmps142
  go_wp2_with fail
  refine CW.out.mono ?_
  rintro e9 v9 ⟨rfl,hv9⟩
  have hv8:=hv9.symm
  subst hv8
  go_wp2_with fail
  refine CC.out.mono ?_
  rintro e9 v9 ⟨rfl,hv9⟩
  have hv8:=hv9.symm
  subst hv8
  go_wp2_with fail
  refine CS.out.mono ?_
  rintro e9 v9 ⟨rfl,hv9⟩
  have hv8:=hv9.symm
  subst hv8
  go_wp2
  go_ret
  exact⟨rfl,rfl⟩
theorem uJ(p:Option Addr)(N c:Nat)(f:Nat->Nat)(m nm:Nat)(q:Nat->Bool)(w:World)(hm:Op.negFloat .f64 m=nm)(hn:nm<18446744073709551616)(hN:N<=281474976710656)(hf:IsFl w p N f)(hq: ∀i,i<N->q i= !btw (f i) nm m):
  Calls prog 108 #[.slice p N c,.float .f64 m] w fun e w'=>e=.returned (.int .i64 (fp q N))/\w'=w:=by
 have HF:=hid hf
 have HN:=hid hN
 have HQ:=hid hq
 have HNM:=hid hn
 clear hf hN hq hn
 go_enter func108,ntmps108
 go_wp2
 go_loopw [9] (fun iv wr=> ∃k:Nat,k<=N/\iv=.int .i64 (k:Nat)/\(∀i,i<k->q i=false)/\wr=w) (fun iv _=>N - (intOf iv).toNat)
 case atStart=>exact⟨0,by omega,rfl,fun i hi=>absurd hi (Nat.not_lt_zero i),rfl⟩
 case round=>
  obtain⟨k,hk,rfl,g1,hwr⟩:=hrel
  have hwr2:=hwr.symm
  subst hwr2
  have G1:=hid g1
  clear g1
  by_cases hkn:k<N
  ·have HK:=hid hkn
   have kI:(k:Int)<N:=by omega
   have kB:(k:Int)<=281474976710656:=by have:=HN.out;omega
   obtain⟨b0,o0,rfl⟩:=HF.out.some0 (show 0<N by omega)
   obtain⟨x,hx⟩:=aB (f k)
   have xa:=HF.out.at0 hkn
   have xc:=xa.2.2
   have xl:=(HF.out k hkn).1
   rw[hx]at xc xl
   have qk:=HQ.out k hkn
   rw[hx]at qk
   clear hx hkn hk xa
   cases hb:btw x nm m with
   | false=>
    have CB:=hid (gM x nm m false w xl HNM.out hb)
    have QK:Hid (q k=true):=qk.trans (by rw[hb];rfl)
    have E:Hid (fp q N=(k:Nat)):=AO G1.out QK.out HK.out
    clear qk hb xl
    go_wp2_with fail
    refine CB.out.mono ?_
    rintro e9 v9 ⟨rfl,hv9⟩
    have hv8:=hv9.symm
    subst hv8
    go_wp2
    go_ret
    exact⟨by rw[E.out];rfl,by first | trivial | rfl⟩
   | true=>
    have CB:=hid (gM x nm m true w xl HNM.out hb)
    have QK:Hid (q k=false):=qk.trans (by rw[hb];rfl)
    clear qk hb xl
    go_wp2_with fail
    refine CB.out.mono ?_
    rintro e9 v9 ⟨rfl,hv9⟩
    have hv8:=hv9.symm
    subst hv8
    go_wp2
    refine⟨⟨k+1,by have:=HK.out;omega,by simp,fun i hi=> ?_,by first | trivial | rfl⟩,by have:=HK.out;simp[intOf];omega⟩
    by_cases l:i<k
    ·exact G1.out i l
    ·obtain rfl:i=k:=by omega
     exact QK.out
  ·have e6:N=k:=by omega
   subst e6
   have E:Hid (fp q N= -1):=fP G1.out
   go_wp2
   go_ret
   exact⟨by rw[E.out];rfl,by first | trivial | rfl⟩
theorem DH(p:Option Addr)(N c:Nat)(f:Nat->Int)(th rm:Int)(w:World)(hN:N<=281474976710656)(hf:Sh.IsI w p N f)(ht:0<=th/\th<=4503599627370496)(hrm:rm=4503599627370496 - th):
  Calls prog 109 #[.slice p N c,.int .i64 rm] w fun e w'=>e=.returned (.int .i64 (fp (bQ f th) N))/\w'=w:=by
 have HF:=hid hf
 have HN:=hid hN
 have HT:=hid ht
 have HR:=hid hrm
 clear hf hN ht hrm
 go_enter func109,ntmps109
 go_wp2
 go_loopw [1,9] (fun sv iv wr=> ∃k:Nat,k<=N/\iv=.int .i64 (k:Nat)/\sv=.int .i64 (4503599627370496 - (th+Sh.sumN f k))/\(0<=th+Sh.sumN f k/\th+Sh.sumN f k<=4503599627370496)/\(∀i,i<k->bQ f th i=false)/\wr=w) (fun _ iv _=>N - (intOf iv).toNat)
 case atStart=>exact⟨0,by omega,rfl,by show _=Value.int .i64 (4503599627370496 - (th+0));rw[Int.add_zero,HR.out],by show 0<=th+0/\th+0<=_;have:=HT.out;omega,fun i hi=>absurd hi (Nat.not_lt_zero i),rfl⟩
 case round=>
  obtain⟨k,hk,rfl,rfl,hb,g1,hwr⟩:=hrel
  have hwr2:=hwr.symm
  subst hwr2
  have G1:=hid g1
  clear g1
  obtain⟨s,hs⟩:=aB (4503599627370496 - (th+Sh.sumN f k))
  have s1:0<=s:=by omega
  have s2:s<=4503599627370496:=by omega
  rw[hs]
  clear hb
  by_cases hkn:k<N
  ·have HK:=hid hkn
   have kI:(k:Int)<N:=by omega
   have kB:(k:Int)<=281474976710656:=by have:=HN.out;omega
   obtain⟨b0,o0,rfl⟩:=HF.out.some0 (show 0<N by omega)
   obtain⟨x,hx⟩:=aB (f k)
   have xc:=(HF.out.at0 hkn).2.2
   rw[hx]at xc
   have QE:Hid (bQ f th k=(decide (x<0)||decide (s<x))):=by show bQ f th k=_;unfold bQ;rw[hs,hx]
   have M3:Hid (th+Sh.sumN f (k+1)=4503599627370496 - s+x):=by show th+(Sh.sumN f k+f k)=_;rw[hx];omega
   clear hx hs hkn hk
   by_cases q1:x<0
   ·have d1:decide (x<0)=true:=decide_eq_true q1
    have E:Hid (fp (bQ f th) N=(k:Nat)):=AO G1.out (QE.out.trans (by rw[d1];rfl)) HK.out
    go_wp2
    go_ret
    exact⟨by rw[E.out];rfl,by first | trivial | rfl⟩
   ·have d1:decide (x<0)=false:=decide_eq_false q1
    by_cases q2:s<x
    ·have d2:decide (s<x)=true:=decide_eq_true q2
     have E:Hid (fp (bQ f th) N=(k:Nat)):=AO G1.out (QE.out.trans (by rw[d1,d2];rfl)) HK.out
     go_wp2
     go_ret
     exact⟨by rw[E.out];rfl,by first | trivial | rfl⟩
    ·have d2:decide (s<x)=false:=decide_eq_false q2
     have QF:Hid (bQ f th k=false):=QE.out.trans (by rw[d1,d2];rfl)
     have n1:0<=s - x:=by omega
     have n2:s - x<=4503599627370496:=by omega
     have N3:Hid (4503599627370496 - (4503599627370496 - s+x)=s - x):=by show _=_;omega
     have N4:Hid (0<=4503599627370496 - s+x/\4503599627370496 - s+x<=4503599627370496):=by show _/\_;omega
     clear q1 q2
     go_wp2
     refine⟨⟨k+1,by have:=HK.out;omega,by simp,by rw[M3.out,N3.out],by rw[M3.out];exact N4.out,fun i hi=> ?_,by first | trivial | rfl⟩,by have:=HK.out;simp[intOf];omega⟩
     by_cases l:i<k
     ·exact G1.out i l
     ·obtain rfl:i=k:=by omega
      exact QF.out
  ·have e6:N=k:=by omega
   subst e6
   have E:Hid (fp (bQ f th) N= -1):=fP G1.out
   go_wp2
   go_ret
   exact⟨by rw[E.out];rfl,by first | trivial | rfl⟩
end Ss
end
section
open Go.RowKit Go.Deep
namespace Rn
open Sh
theorem qF(n r1 r2 r3 r4:Int)(w:World):
  Calls prog 127 #[.int .i64 n,.agg #[.int .i64 r1,.int .i64 r2,.int .i64 r3,.int .i64 r4]] w fun e w'=>e=.returned (.bool (vB n (r1,r2,r3,r4)))/\Below w.heap.size w w':=by
 obtain⟨A0,R0⟩:=aL w (.cells #[.int .i64 r1,.int .i64 r2,.int .i64 r3,.int .i64 r4] 145)
 have VE:Hid (vB n (r1,r2,r3,r4)=(decide (0<=r1)&&decide (r1<n)&&decide (-4503599627370496<=r2)&&decide (r2<=4503599627370496)&&decide (0<=r3)&&decide (r3<=r4))):=rfl
 cases h0:decide (0<=r1)with
 | false=>
  have KO:Hid (vB n (r1,r2,r3,r4)=false):=VE.out.trans (by rw[h0]<;>rfl)
  clear VE
  go_enter func127,ntmps127
  go_upto_region 1 with fail
  generalize hW:World.alloc w _=W0 at*
  obtain⟨gw,hgw⟩:=aB w.heap.size
  rw[hgw]at R0 ⊢
  clear hgw hW
  have x0:=aA 0 R0.out
  have x1:=aA 1 R0.out
  have x2:=aA 2 R0.out
  have x3:=aA 3 R0.out
  go_wp2
  go_ret
  exact⟨by rw[KO.out];rfl,A0.out⟩
 | true=>
  cases h1:decide (r1<n)with
  | false=>
   have KO:Hid (vB n (r1,r2,r3,r4)=false):=VE.out.trans (by rw[h0,h1]<;>rfl)
   clear VE
   go_enter func127,ntmps127
   go_upto_region 1 with fail
   generalize hW:World.alloc w _=W0 at*
   obtain⟨gw,hgw⟩:=aB w.heap.size
   rw[hgw]at R0 ⊢
   clear hgw hW
   have x0:=aA 0 R0.out
   have x1:=aA 1 R0.out
   have x2:=aA 2 R0.out
   have x3:=aA 3 R0.out
   go_wp2
   go_ret
   exact⟨by rw[KO.out];rfl,A0.out⟩
  | true=>
   cases h2:decide (-4503599627370496<=r2)with
   | false=>
    have KO:Hid (vB n (r1,r2,r3,r4)=false):=VE.out.trans (by rw[h0,h1,h2]<;>rfl)
    clear VE
    go_enter func127,ntmps127
    go_upto_region 1 with fail
    generalize hW:World.alloc w _=W0 at*
    obtain⟨gw,hgw⟩:=aB w.heap.size
    rw[hgw]at R0 ⊢
    clear hgw hW
    have x0:=aA 0 R0.out
    have x1:=aA 1 R0.out
    have x2:=aA 2 R0.out
    have x3:=aA 3 R0.out
    go_wp2
    go_ret
    exact⟨by rw[KO.out];rfl,A0.out⟩
   | true=>
    cases h3:decide (r2<=4503599627370496)with
    | false=>
     have KO:Hid (vB n (r1,r2,r3,r4)=false):=VE.out.trans (by rw[h0,h1,h2,h3]<;>rfl)
     clear VE
     go_enter func127,ntmps127
     go_upto_region 1 with fail
     generalize hW:World.alloc w _=W0 at*
     obtain⟨gw,hgw⟩:=aB w.heap.size
     rw[hgw]at R0 ⊢
     clear hgw hW
     have x0:=aA 0 R0.out
     have x1:=aA 1 R0.out
     have x2:=aA 2 R0.out
     have x3:=aA 3 R0.out
     go_wp2
     go_ret
     exact⟨by rw[KO.out];rfl,A0.out⟩
    | true=>
     cases h4:decide (0<=r3)with
     | false=>
      have KO:Hid (vB n (r1,r2,r3,r4)=false):=VE.out.trans (by rw[h0,h1,h2,h3,h4]<;>rfl)
      clear VE
      go_enter func127,ntmps127
      go_upto_region 1 with fail
      generalize hW:World.alloc w _=W0 at*
      obtain⟨gw,hgw⟩:=aB w.heap.size
      rw[hgw]at R0 ⊢
      clear hgw hW
      have x0:=aA 0 R0.out
      have x1:=aA 1 R0.out
      have x2:=aA 2 R0.out
      have x3:=aA 3 R0.out
      go_wp2
      go_ret
      exact⟨by rw[KO.out];rfl,A0.out⟩
     | true=>
      cases h5:decide (r3<=r4)with
      | false=>
       have KO:Hid (vB n (r1,r2,r3,r4)=false):=VE.out.trans (by rw[h0,h1,h2,h3,h4,h5]<;>rfl)
       clear VE
       go_enter func127,ntmps127
       go_upto_region 1 with fail
       generalize hW:World.alloc w _=W0 at*
       obtain⟨gw,hgw⟩:=aB w.heap.size
       rw[hgw]at R0 ⊢
       clear hgw hW
       have x0:=aA 0 R0.out
       have x1:=aA 1 R0.out
       have x2:=aA 2 R0.out
       have x3:=aA 3 R0.out
       go_wp2
       go_ret
       exact⟨by rw[KO.out];rfl,A0.out⟩
      | true=>
       have KO:Hid (vB n (r1,r2,r3,r4)=true):=VE.out.trans (by rw[h0,h1,h2,h3,h4,h5]<;>rfl)
       clear VE
       go_enter func127,ntmps127
       go_upto_region 1 with fail
       generalize hW:World.alloc w _=W0 at*
       obtain⟨gw,hgw⟩:=aB w.heap.size
       rw[hgw]at R0 ⊢
       clear hgw hW
       have x0:=aA 0 R0.out
       have x1:=aA 1 R0.out
       have x2:=aA 2 R0.out
       have x3:=aA 3 R0.out
       go_wp2
       go_ret
       exact⟨by rw[KO.out];rfl,A0.out⟩
def dC(x:Int):Bool:=decide (x<0)||decide (4503599627370496<x)
theorem lU(x:Int)(w:World):Calls prog 80 #[.int .i64 x] w fun e w'=>e=.returned (.bool (dC x))/\w'=w:=by
 cases h1:decide (x<0)with
 | true=>
  have F:Hid (dC x=true):=by show _=_;unfold dC;rw[h1];rfl
  go_enter func80,ntmps80
  go_wp2
  go_ret
  exact⟨by rw[F.out];rfl,rfl⟩
 | false=>
  cases h2:decide (4503599627370496<x)with
  | true=>
   have F:Hid (dC x=true):=by show _=_;unfold dC;rw[h1,h2];rfl
   go_enter func80,ntmps80
   go_wp2
   go_ret
   exact⟨by rw[F.out];rfl,rfl⟩
  | false=>
   have F:Hid (dC x=false):=by show _=_;unfold dC;rw[h1,h2];rfl
   go_enter func80,ntmps80
   go_wp2
   go_ret
   exact⟨by rw[F.out];rfl,rfl⟩
theorem qG{x:Int}:dC x=false ↔ 0<=x/\x<=4503599627370496:=by
 unfold dC
 rw[Bool.or_eq_false_iff,decide_eq_false_iff_not,decide_eq_false_iff_not]
 omega
theorem Fa(p:Option Addr)(n cp:Nat)(f:Nat->Int)(w:World)(hn:n<=17592186044416)(hf:IsI w p n f)(HA:Hid (∀i,i<n->dC (f i)=false)):
  Calls prog 126 #[.slice p n cp,.func (.func 80) #[] #[]] w fun e w'=>e=.returned (.int .i64 (-1))/\w'=w:=by
 have HF:=hid hf
 have HN:=hid hn
 clear hf hn
 go_enter func126,ntmps126
 go_wp2
 go_loopw [8] (fun iv wr=> ∃c:Nat,c<=n/\iv=.int .i64 (c:Nat)/\wr=w) (fun iv _=>n - (intOf iv).toNat)
 case atStart=>exact⟨0,by omega,rfl,rfl⟩
 case round=>
  obtain⟨c,hc,rfl,hwr⟩:=hrel
  have hwr2:=hwr.symm
  subst hwr2
  by_cases hcn:c<n
  ·have HC:=hid hcn
   have hcI:(c:Int)<n:=by omega
   have hcB:(c:Int)<=17592186044416:=by have:=HN.out;omega
   obtain⟨b0,o0,rfl⟩:=HF.out.some0 (show 0<n by omega)
   obtain⟨x,hx⟩:=aB (f c)
   have at0:=HF.out.at0 hcn
   have hp:=HA.out c hcn
   rw[hx]at at0 hp
   have xc:=at0.2.2
   have CF:=hid (lU x w)
   rw[hp]at CF
   clear at0 hx hcn hc hp
   go_wp2_with fail
   refine CF.out.mono ?_
   rintro e9 v9 ⟨rfl,hv9⟩
   have hv8:=hv9.symm
   subst hv8
   go_wp2
   exact⟨⟨c+1,by have:=HC.out;omega,by simp,by first | trivial | rfl⟩,by have:=HC.out;simp[intOf];omega⟩
  ·have e6:n=c:=by omega
   subst e6
   go_wp2
   go_ret
   exact⟨rfl,by first | trivial | rfl⟩
theorem Bo(p:Option Addr)(n cp:Nat)(f:Nat->Int)(w:World)(hn:n<=17592186044416)(hf:IsI w p n f)(HA:Hid (¬ ∀i,i<n->dC (f i)=false)):
  Calls prog 126 #[.slice p n cp,.func (.func 80) #[] #[]] w fun e w'=>(∃i:Nat,i<=17592186044416/\e=.returned (.int .i64 (i:Nat)))/\w'=w:=by
 have HF:=hid hf
 have HN:=hid hn
 clear hf hn
 go_enter func126,ntmps126
 go_wp2
 go_loopw [8] (fun iv wr=> ∃c:Nat,c<=n/\iv=.int .i64 (c:Nat)/\(∀i,i<c->dC (f i)=false)/\wr=w) (fun iv _=>n - (intOf iv).toNat)
 case atStart=>exact⟨0,by omega,rfl,fun i hi=>absurd hi (Nat.not_lt_zero i),rfl⟩
 case round=>
  obtain⟨c,hc,rfl,g1,hwr⟩:=hrel
  have hwr2:=hwr.symm
  subst hwr2
  have G1:=hid g1
  clear g1
  by_cases hcn:c<n
  ·have HC:=hid hcn
   have hcI:(c:Int)<n:=by omega
   have hcB:(c:Int)<=17592186044416:=by have:=HN.out;omega
   obtain⟨b0,o0,rfl⟩:=HF.out.some0 (show 0<n by omega)
   obtain⟨x,hx⟩:=aB (f c)
   have at0:=HF.out.at0 hcn
   rw[hx]at at0
   have xc:=at0.2.2
   have CF:=hid (lU x w)
   have XE:=hid hx
   clear at0 hx hcn hc
   cases hp:dC x with
   | true=>
    rw[hp]at CF
    have hp2:=hid hp
    clear hp
    go_wp2_with fail
    refine CF.out.mono ?_
    rintro e9 v9 ⟨rfl,hv9⟩
    have hv8:=hv9.symm
    subst hv8
    go_wp2
    go_ret
    exact⟨⟨c,by have:=HC.out;have:=HN.out;omega,rfl⟩,by first | trivial | rfl⟩
   | false=>
    rw[hp]at CF
    have hp2:=hid hp
    clear hp
    go_wp2_with fail
    refine CF.out.mono ?_
    rintro e9 v9 ⟨rfl,hv9⟩
    have hv8:=hv9.symm
    subst hv8
    go_wp2
    refine⟨⟨c+1,by have:=HC.out;omega,by simp,fun i hi=> ?_,by first | trivial | rfl⟩,by have:=HC.out;simp[intOf];omega⟩
    by_cases l:i<c
    ·exact G1.out i l
    ·obtain rfl:i=c:=by omega
     rw[XE.out]
     exact hp2.out
  ·have e6:n=c:=by omega
   subst e6
   exact absurd G1.out HA.out
theorem oJ(p:Option Addr)(n cp:Nat)(f:Nat->Int)(w:World)(hn:n<=17592186044416)(hf:IsI w p n f)(HA: ∀i,i<n->dC (f i)=false):
  Calls prog 81 #[.slice p n cp,.func (.func 80) #[] #[]] w fun e w'=>e=.returned (.bool false)/\w'=w:=by
 have IX:=hid (Fa p n cp f w hn hf HA)
 clear hn hf HA
 go_enter func81,ntmps81
 go_wp2_with fail
 refine IX.out.mono ?_
 rintro e9 v9 ⟨rfl,hv9⟩
 have hv8:=hv9.symm
 subst hv8
 go_wp2
 go_ret
 exact⟨rfl,rfl⟩
theorem Bp(p:Option Addr)(n cp:Nat)(f:Nat->Int)(w:World)(hn:n<=17592186044416)(hf:IsI w p n f)(HA: ¬ ∀i,i<n->dC (f i)=false):
  Calls prog 81 #[.slice p n cp,.func (.func 80) #[] #[]] w fun e w'=>e=.returned (.bool true)/\w'=w:=by
 have IX:=hid (Bo p n cp f w hn hf HA)
 clear hn hf HA
 go_enter func81,ntmps81
 go_wp2_with fail
 refine IX.out.mono ?_
 rintro e9 v9 ⟨⟨i,hi,rfl⟩,hv9⟩
 have hv8:=hv9.symm
 subst hv8
 go_wp2
 go_ret
 exact⟨rfl,rfl⟩
theorem falls_at(r1 r2 r3 r4 st:Int)(w:World):Calls prog 87 #[.agg #[.int .i64 r1,.int .i64 r2,.int .i64 r3,.int .i64 r4],.int .i64 st] w fun e w'=>e=.returned (.bool (fallB st (r1,r2,r3,r4)))/\Below w.heap.size w w':=by
 obtain⟨A0,R0⟩:=aL w (.cells #[.int .i64 r1,.int .i64 r2,.int .i64 r3,.int .i64 r4] 145)
 have VE:Hid (fallB st (r1,r2,r3,r4)=(decide (r3<=st)&&decide (st<r4))):=rfl
 cases h0:decide (r3<=st)with
 | false=>
  have KO:Hid (fallB st (r1,r2,r3,r4)=false):=VE.out.trans (by rw[h0]<;>rfl)
  clear VE
  go_enter func87,ntmps87
  go_upto_region 1 with fail
  generalize hW:World.alloc w _=W0 at*
  obtain⟨gw,hgw⟩:=aB w.heap.size
  rw[hgw]at R0 ⊢
  clear hgw hW
  have x2:=aA 2 R0.out
  have x3:=aA 3 R0.out
  go_wp2
  go_ret
  exact⟨by rw[KO.out];rfl,A0.out⟩
 | true=>
  cases h1:decide (st<r4)with
  | false=>
   have KO:Hid (fallB st (r1,r2,r3,r4)=false):=VE.out.trans (by rw[h0,h1]<;>rfl)
   clear VE
   go_enter func87,ntmps87
   go_upto_region 1 with fail
   generalize hW:World.alloc w _=W0 at*
   obtain⟨gw,hgw⟩:=aB w.heap.size
   rw[hgw]at R0 ⊢
   clear hgw hW
   have x2:=aA 2 R0.out
   have x3:=aA 3 R0.out
   go_wp2
   go_ret
   exact⟨by rw[KO.out];rfl,A0.out⟩
  | true=>
   have KO:Hid (fallB st (r1,r2,r3,r4)=true):=VE.out.trans (by rw[h0,h1]<;>rfl)
   clear VE
   go_enter func87,ntmps87
   go_upto_region 1 with fail
   generalize hW:World.alloc w _=W0 at*
   obtain⟨gw,hgw⟩:=aB w.heap.size
   rw[hgw]at R0 ⊢
   clear hgw hW
   have x2:=aA 2 R0.out
   have x3:=aA 3 R0.out
   go_wp2
   go_ret
   exact⟨by rw[KO.out];rfl,A0.out⟩
theorem yY(lw:Nat)(pr:Option Addr)(lr cr:Nat)(R:Nat->Int × Int × Int × Int)(w:World)(hlr:lr<=1024)(IR:Hid (IsRn w pr lr R))(HV:Hid (∀k,k<lr->vB (lw:Nat) (R k)=true)):
  Calls prog 82 #[.int .i64 (lw:Nat),.slice pr lr cr] w fun e w'=>e=.returned (.bool true)/\Below w.heap.size w w':=by
 have h4:decide ((1024:Int)<(lr:Int))=false:=decide_eq_false (by omega)
 have HLR:=hid hlr
 clear hlr
 go_enter func82,ntmps82
 go_wp2
 go_loopw [12] (fun iv wq=> ∃c:Nat,c<=lr/\iv=.int .i64 (c:Nat)/\Ab w wq) (fun iv _=>lr - (intOf iv).toNat)
 case atStart=>exact⟨0,by omega,rfl,Ab.refl w⟩
 case round=>
  obtain⟨c,hc,rfl,ar⟩:=hrel
  have AQ:=hid ar
  clear ar
  by_cases hcn:c<lr
  ·have HC:=hid hcn
   have hcI:(c:Int)<lr:=by omega
   have hcB:(c:Int)<=1024:=by have:=HLR.out;omega
   obtain⟨rb,ro,rfl⟩:=IR.out.some0 (show 0<lr by omega)
   obtain⟨r1,r2,r3,r4,hr⟩: ∃a b c' d,R c=(a,b,c',d):=⟨_,_,_,_,rfl⟩
   have at0:=((IR.out.below AQ.out).at0 hcn)
   rw[hr]at at0
   have y0:=at0.2.2.1
   have y1:=at0.2.2.2.1
   have y2:=at0.2.2.2.2.1
   have y3:=at0.2.2.2.2.2
   have RE:=hid hr
   clear at0 hr hcn hc
   have A1:=jP (bl1 wr (.cells #[.int .i64 r1,.int .i64 r2,.int .i64 r3,.int .i64 r4] 145))
   have CV:=hid (fun v=>qF (lw:Nat) r1 r2 r3 r4 v)
   rw[<- RE.out,HV.out c HC.out]at CV
   go_wp2_with fail
   refine(CV.out _).mono ?_
   rintro e9 v9 ⟨rfl,b9⟩
   have A9:Hid (Ab w v9):=AQ.out.trans (A1.out.trans b9)
   clear b9
   go_wp2
   exact⟨⟨c+1,by have:=HC.out;omega,by simp,A9.out⟩,by have:=HC.out;simp[intOf];omega⟩
  ·have e6:lr=c:=by omega
   subst e6
   go_wp2
   go_ret
   exact⟨rfl,AQ.out⟩
theorem allv_no(lw:Nat)(pr:Option Addr)(lr cr:Nat)(R:Nat->Int × Int × Int × Int)(w:World)(hlr:lr<=1024)(IR:Hid (IsRn w pr lr R))(HB:Hid (¬ ∀k,k<lr->vB (lw:Nat) (R k)=true)):
  Calls prog 82 #[.int .i64 (lw:Nat),.slice pr lr cr] w fun e w'=>e=.returned (.bool false)/\Below w.heap.size w w':=by
 have h4:decide ((1024:Int)<(lr:Int))=false:=decide_eq_false (by omega)
 have HLR:=hid hlr
 clear hlr
 go_enter func82,ntmps82
 go_wp2
 go_loopw [12] (fun iv wq=> ∃c:Nat,c<=lr/\iv=.int .i64 (c:Nat)/\Ab w wq/\(∀k,k<c->vB (lw:Nat) (R k)=true)) (fun iv _=>lr - (intOf iv).toNat)
 case atStart=>exact⟨0,by omega,rfl,Ab.refl w,fun i hi=>absurd hi (Nat.not_lt_zero i)⟩
 case round=>
  obtain⟨c,hc,rfl,ar,g1⟩:=hrel
  have AQ:=hid ar
  clear ar
  have G1:=hid g1
  clear g1
  by_cases hcn:c<lr
  ·have HC:=hid hcn
   have hcI:(c:Int)<lr:=by omega
   have hcB:(c:Int)<=1024:=by have:=HLR.out;omega
   obtain⟨rb,ro,rfl⟩:=IR.out.some0 (show 0<lr by omega)
   obtain⟨r1,r2,r3,r4,hr⟩: ∃a b c' d,R c=(a,b,c',d):=⟨_,_,_,_,rfl⟩
   have at0:=((IR.out.below AQ.out).at0 hcn)
   rw[hr]at at0
   have y0:=at0.2.2.1
   have y1:=at0.2.2.2.1
   have y2:=at0.2.2.2.2.1
   have y3:=at0.2.2.2.2.2
   have RE:=hid hr
   clear at0 hr hcn hc
   have A1:=jP (bl1 wr (.cells #[.int .i64 r1,.int .i64 r2,.int .i64 r3,.int .i64 r4] 145))
   cases vb:vB (lw:Nat) (R c)with
   | false=>
    have CV:=hid (fun v=>qF (lw:Nat) r1 r2 r3 r4 v)
    rw[<- RE.out,vb]at CV
    go_wp2_with fail
    refine(CV.out _).mono ?_
    rintro e9 v9 ⟨rfl,b9⟩
    have A9:Hid (Ab w v9):=AQ.out.trans (A1.out.trans b9)
    clear b9
    go_wp2
    go_ret
    exact⟨rfl,A9.out⟩
   | true=>
    have VB:=hid vb
    have CV:=hid (fun v=>qF (lw:Nat) r1 r2 r3 r4 v)
    rw[<- RE.out,vb]at CV
    clear vb
    go_wp2_with fail
    refine(CV.out _).mono ?_
    rintro e9 v9 ⟨rfl,b9⟩
    have A9:Hid (Ab w v9):=AQ.out.trans (A1.out.trans b9)
    clear b9
    go_wp2
    refine⟨⟨c+1,by have:=HC.out;omega,by simp,A9.out,fun k hk=> ?_⟩,by have:=HC.out;simp[intOf];omega⟩
    by_cases l:k<c
    ·exact G1.out k l
    ·obtain rfl:k=c:=by omega
     exact VB.out
  ·have e6:lr=c:=by omega
   subst e6
   exact absurd G1.out HB.out
theorem Fb(lw:Nat)(pr:Option Addr)(lr cr:Nat)(w:World)(h4:decide ((1024:Int)<(lr:Int))=true):
  Calls prog 82 #[.int .i64 (lw:Nat),.slice pr lr cr] w fun e w'=>e=.returned (.bool false)/\Below w.heap.size w w':=by
 go_enter func82,ntmps82
 go_wp2
 go_ret
 exact⟨rfl,Below.refl _ _⟩
end Rn
end
end Go.Proofs.YtmhnilnaffjhmaaGreatDoor
