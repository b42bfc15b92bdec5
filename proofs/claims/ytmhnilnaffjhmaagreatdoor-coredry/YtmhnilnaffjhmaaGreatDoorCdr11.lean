/-
  Some of the texts of this proof, one behind the other.
-/
import Derived.Deep.RegionWith
import Derived.Deep.RegionHeld3
import Derived.Laws.CopyOwn
import Derived.Deep.QuietTactic
import Derived.Laws.IdiomCopy
import Derived.Test.YtmhnilnaffjhmaaGreatDoorCdr10
set_option maxRecDepth 100000
set_option maxHeartbeats 400000000
namespace Go.Proofs.YtmhnilnaffjhmaaGreatDoor
open _root_.Go.Proofs.Tryz
section
open Go.RowKit
namespace Cf
def Fresh(W:World)(S:Nat->Option Nat)(b:Nat):Prop:=W.heap.size<=b/\ ∀i c,S i=some c->c≠b
def putL(S:Nat->Option Nat)(i b:Nat):Nat->Option Nat:=fun k=>if k=i then some b else S k
def Has(W:World)(sp:Nat->Option (Obj × (Nat->Value)))(S:Nat->Option Nat)(w:World):Prop:=Ab W w/\ ∀i b,S i=some b->W.heap.size<=b/\ ∃o mk,sp i=some (o,mk)/\w.heap[b]? =some o
theorem pE(S:Nat->Option Nat){i j:Nat}(b c:Nat)(h:i≠j):putL (putL S i b) j c=putL (putL S j c) i b:=by
 funext k
 unfold putL
 by_cases e:k=j
 ·subst e;simp[Ne.symm h]
 ·by_cases e2:k=i
  ·subst e2;simp[e]
  ·simp[e,e2]
theorem Fresh.put{W:World}{S:Nat->Option Nat}{i b c:Nat}(h:Fresh W S c)(n:b≠c):Fresh W (putL S i b) c:=
 ⟨h.1,fun k d e=>by
  unfold putL at e
  by_cases q:k=i
  ·rw[if_pos q]at e;injection e with e;exact fun x=>n (e.trans x)
  ·rw[if_neg q]at e;exact h.2 k d e⟩
theorem Fresh.of_put{W:World}{S:Nat->Option Nat}{i b c:Nat}(h:Fresh W (putL S i b) c)(hi:S i=none):Fresh W S c/\b≠c:=by
 refine⟨⟨h.1,fun k d e=>h.2 k d ?_⟩,h.2 i b (by simp[putL])⟩
 unfold putL
 by_cases q:k=i
 ·subst q;rw[hi]at e;cases e
 ·rw[if_neg q];exact e
theorem Has.lt{W:World}{sp:Nat->Option (Obj × (Nat->Value))}{S:Nat->Option Nat}{w:World}(h:Has W sp S w){i b:Nat}(e:S i=some b):b<w.heap.size:=by
 obtain⟨_,o,mk,_,q⟩:=h.2 i b e
 exact lt_of_block q
theorem Has.lay{W:World}{sp:Nat->Option (Obj × (Nat->Value))}{S:Nat->Option Nat}{w w1:World}(h:Has W sp S w){i b:Nat}{o:Obj}{mk:Nat->Value}(e:sp i=some (o,mk))(a:Ab w w1)(hb:w.heap.size<=b)(ho:w1.heap[b]? =some o):Has W sp (putL S i b) w1:=
 ⟨h.1.trans a,fun k c q=>by
  unfold putL at q
  by_cases z:k=i
  ·subst z
   rw[if_pos rfl]at q
   injection q with q
   subst q
   exact⟨Nat.le_trans h.1.size hb,o,mk,e,ho⟩
  ·rw[if_neg z]at q
   obtain⟨h1,o',mk',h2,h3⟩:=h.2 k c q
   exact⟨h1,o',mk',h2,Ab.heap a h3⟩⟩
theorem Has.freshb{W:World}{sp:Nat->Option (Obj × (Nat->Value))}{S:Nat->Option Nat}{w:World}(h:Has W sp S w){b:Nat}(hb:w.heap.size<=b):Fresh W S b:=
 ⟨Nat.le_trans h.1.size hb,fun i c e=>by have:=h.lt e;omega⟩
section
variable {P:Program} {ops:Array Oper} {md:Region.Mode} {W:World} {sp:Nat->Option (Obj × (Nat->Value))}
def YF(P:Program)(ops:Array Oper)(W:World)(o:Oper)(v:Value)(a:Act):Prop:=
 (Region.wanted o (yielded ops a.tmps)=true/\ ∀w,Ab W w->(execOp a.eval o).run P w=.ok (.value v) w)\/(Region.wanted o (yielded ops a.tmps)=false/\v=undef)
def LayR(P:Program)(w:World)(ob:Obj)(mk:Nat->Value):Result Next->Prop
 | .ok (.value u) w1=> ∃b,u=mk b/\Ab w w1/\w.heap.size<=b/\w1.heap[b]? =some ob
 | .ok (.enter f args) w1=>w1=w/\Calls P f args w (fun e w2=> ∃b,e=.returned (mk b)/\Ab w w2/\w.heap.size<=b/\w2.heap[b]? =some ob)
 | _=>False
def LF(P:Program)(ops:Array Oper)(W:World)(o:Oper)(ob:Obj)(mk:Nat->Value)(a:Act):Prop:=
 Region.wanted o (yielded ops a.tmps)=true/\ ∀w,Ab W w->LayR P w ob mk ((execOp a.eval o).run P w)
theorem YF.same{o:Oper}{v:Value}{a a':Act}(h:YF P ops W o v a)(he:execOp a'.eval o=execOp a.eval o)(hw:Region.wanted o (yielded ops a'.tmps)=Region.wanted o (yielded ops a.tmps)):YF P ops W o v a':=by
 unfold YF at*
 rw[he,hw]
 exact h
theorem LF.same{o:Oper}{ob:Obj}{mk:Nat->Value}{a a':Act}(h:LF P ops W o ob mk a)(he:execOp a'.eval o=execOp a.eval o)(hw:Region.wanted o (yielded ops a'.tmps)=Region.wanted o (yielded ops a.tmps)):LF P ops W o ob mk a':=by
 unfold LF at*
 rw[he,hw]
 exact h
theorem YF.one{o:Oper}{v u:Value}{a:Act}(h:YF P ops W o v a)(k:YF P ops W o u a):v=u:=by
 rcases h with⟨w1,h⟩ | ⟨w1,rfl⟩
 ·rcases k with⟨_,k⟩ | ⟨w2,_⟩
  ·have:=(h W (Ab.refl W)).symm.trans (k W (Ab.refl W))
   injection this with e
   injection e
  ·rw[w1]at w2;cases w2
 ·rcases k with⟨w2,_⟩ | ⟨_,rfl⟩
  ·rw[w1]at w2;cases w2
  ·rfl
def fOp(P:Program)(ops:Array Oper)(W:World)(sp:Nat->Option (Obj × (Nat->Value)))(i:Nat)(K:Act->(Nat->Option Nat)->Prop)(a:Act)(S:Nat->Option Nat):Prop:=
 match ops[i]? with
 | none=>K a S
 | some o=>
  match sp i with
  | none=> ∃v,YF P ops W o v a/\K (a.put o.dst v) S
  | some (ob,mk)=>LF P ops W o ob mk a/\ ∀b,Fresh W S b->K (a.put o.dst (mk b)) (putL S i b)
theorem kR{i:Nat}{K K':Act->(Nat->Option Nat)->Prop}{a:Act}{S:Nat->Option Nat}(h: ∀a S,K a S->K' a S)(hh:fOp P ops W sp i K a S):fOp P ops W sp i K' a S:=by
 unfold fOp at*
 cases ho:ops[i]? with
 | none=>simp only[ho]at hh ⊢;exact h _ _ hh
 | some o=>
  cases hs:sp i with
  | none=>
   simp only[ho,hs]at hh ⊢
   obtain⟨v,h1,h2⟩:=hh
   exact⟨v,h1,h _ _ h2⟩
  | some x=>
   simp only[ho,hs]at hh ⊢
   exact⟨hh.1,fun b hb=>h _ _ (hh.2 b hb)⟩
def wpAnyF(P:Program)(md:Region.Mode)(ops:Array Oper)(W:World)(sp:Nat->Option (Obj × (Nat->Value)))(Q:Act->(Nat->Option Nat)->Prop):Nat->Array Bool->Act->(Nat->Option Nat)->Prop
 | 0,listed,a,S=>Region.ready md ops listed=[]/\Q a S
 | fuel+1,listed,a,S=>
  (Region.ready md ops listed=[]->Q a S)/\
  ∀i ∈ Region.ready md ops listed,fOp P ops W sp i (wpAnyF P md ops W sp Q fuel (listed.setIfInBounds i true)) a S
def Tidy(W:World)(listed:Array Bool)(S:Nat->Option Nat):Prop:=(∀k,listed.getD k true=false->S k=none)/\ ∃n,W.heap.size<=n/\ ∀i c,S i=some c->c<n
theorem Tidy.fresh{listed:Array Bool}{S:Nat->Option Nat}(h:Tidy W listed S): ∃b,Fresh W S b:=by
 obtain⟨_,n,h1,h2⟩:=h
 exact⟨n,h1,fun i c e=>by have:=h2 i c e;omega⟩
theorem Tidy.set{listed:Array Bool}{S:Nat->Option Nat}(h:Tidy W listed S)(j:Nat):Tidy W (listed.setIfInBounds j true) S:=
 ⟨fun k hk=>by
  by_cases e:j=k
  ·subst e
   by_cases l:j<listed.size
   ·simp[l]at hk
   ·exact h.1 j (by rw[Array.setIfInBounds_eq_of_size_le (by omega)]at hk;exact hk)
  ·rw[getD_set_ne true e]at hk;exact h.1 k hk,h.2⟩
theorem Tidy.lay{listed:Array Bool}{S:Nat->Option Nat}(h:Tidy W listed S){j:Nat}(hj:listed.getD j true=false)(b:Nat):Tidy W (listed.setIfInBounds j true) (putL S j b):=by
 obtain⟨h1,n,h2,h3⟩:=h
 refine⟨fun k hk=> ?_,max n (b+1),by omega,fun i c e=> ?_⟩
 ·by_cases e:j=k
  ·subst e
   by_cases l:j<listed.size
   ·simp[l]at hk
   ·simp[l]at hj
  ·rw[getD_set_ne true e]at hk
   unfold putL
   rw[if_neg (Ne.symm e)]
   exact h1 k hk
 ·unfold putL at e
  by_cases q:i=j
  ·rw[if_pos q]at e;injection e with e;omega
  ·rw[if_neg q]at e;have:=h3 i c e;omega
theorem sW{j:Nat}{oi oj:Oper}{v:Value}(hj:ops[j]? =some oj)(hap:oi.apart ops oj=true)(hsi: ∀cs b,oi.op≠ .select cs b)(hsj: ∀cs b,oj.op≠ .select cs b)
  {K:Act->(Nat->Option Nat)->Prop} {a:Act} {S:Nat->Option Nat} (hy:YF P ops W oi v a) (h:fOp P ops W sp j K (a.put oi.dst v) S):
  fOp P ops W sp j (fun a' S'=>YF P ops W oi v a'/\K (a'.put oi.dst v) S') a S:=by
 obtain⟨h1,h2,h3⟩:=Oper.apart_spec hap
 have keep: ∀u,YF P ops W oi v (a.put oj.dst u):=fun u=>hy.same (execOp_put oi hsi a oj.dst u h3) (wanted_put oi a oj.dst u h3)
 unfold fOp at*
 cases hs:sp j with
 | none=>
  simp only[hj,hs]at h ⊢
  obtain⟨u,hu,hk⟩:=h
  exact⟨u,hu.same (execOp_put oj hsj a oi.dst v h1).symm (wanted_put oj a oi.dst v h1).symm,keep u,by rw[<- Act.put_comm a v u h2];exact hk⟩
 | some x=>
  simp only[hj,hs]at h ⊢
  exact⟨h.1.same (execOp_put oj hsj a oi.dst v h1).symm (wanted_put oj a oi.dst v h1).symm,fun b hb=>⟨keep _,by rw[<- Act.put_comm a v _ h2];exact h.2 b hb⟩⟩
theorem sX{i j:Nat}{oi oj:Oper}{ob:Obj}{mk:Nat->Value}(hij:i≠j)(hj:ops[j]? =some oj)(hap:oi.apart ops oj=true)(hsi: ∀cs b,oi.op≠ .select cs b)(hsj: ∀cs b,oj.op≠ .select cs b)
  {K:Act->(Nat->Option Nat)->Prop} {a:Act} {S:Nat->Option Nat} (hf: ∃b,Fresh W S b) (hSj:S j=none) (hy:LF P ops W oi ob mk a) (h: ∀b,Fresh W S b->fOp P ops W sp j K (a.put oi.dst (mk b)) (putL S i b)):
  fOp P ops W sp j (fun a' S'=>LF P ops W oi ob mk a'/\ ∀b,Fresh W S' b->K (a'.put oi.dst (mk b)) (putL S' i b)) a S:=by
 obtain⟨h1,h2,h3⟩:=Oper.apart_spec hap
 have keep: ∀u,LF P ops W oi ob mk (a.put oj.dst u):=fun u=>hy.same (execOp_put oi hsi a oj.dst u h3) (wanted_put oi a oj.dst u h3)
 obtain⟨b0,hb0⟩:=hf
 unfold fOp at*
 cases hs:sp j with
 | none=>
  simp only[hj,hs]at h ⊢
  obtain⟨u,hu,_⟩:=h b0 hb0
  have hu':YF P ops W oj u a:=hu.same (execOp_put oj hsj a oi.dst _ h1).symm (wanted_put oj a oi.dst _ h1).symm
  refine⟨u,hu',keep u,fun b hb=> ?_⟩
  obtain⟨u2,hu2,hk⟩:=h b hb
  have e:u2=u:=YF.one (hu2.same (execOp_put oj hsj a oi.dst _ h1).symm (wanted_put oj a oi.dst _ h1).symm) hu'
  subst e
  rw[<- Act.put_comm a (mk b) u2 h2]
  exact hk
 | some x=>
  simp only[hj,hs]at h ⊢
  refine⟨(h b0 hb0).1.same (execOp_put oj hsj a oi.dst _ h1).symm (wanted_put oj a oi.dst _ h1).symm,fun c hc=>⟨keep _,fun b hb=> ?_⟩⟩
  obtain⟨q1,q2⟩:=hb.of_put hSj
  have:=(h b q1).2 c (hc.put (Ne.symm q2))
  rw[pE S b c hij,Act.put_comm a (mk b) _ h2]at this
  exact this
theorem firstY{Q:Act->(Nat->Option Nat)->Prop}{i:Nat}{oi:Oper}{v:Value}(hi:ops[i]? =some oi)(hsp:sp i=none)(hsel: ∀(j:Nat) (o:Oper) cs b,ops[j]? =some o->o.op≠ .select cs b):
  ∀(fuel:Nat) (listed:Array Bool) (a:Act) (S:Nat->Option Nat),
   (∀j oj,ops[j]? =some oj->j≠i->listed.getD j true=false->(∀e ∈ oj.after,Region.binds md e=true->e.on≠i)->oi.apart ops oj=true)->
   i ∈ Region.ready md ops listed->YF P ops W oi v a->
   wpAnyF P md ops W sp Q fuel (listed.setIfInBounds i true) (a.put oi.dst v) S->wpAnyF P md ops W sp Q (fuel+1) listed a S:=by
 have go: ∀(K:Act->(Nat->Option Nat)->Prop) (a:Act) (S:Nat->Option Nat),YF P ops W oi v a->K (a.put oi.dst v) S->fOp P ops W sp i K a S:=fun K a S hy h=>by
  unfold fOp;simp only[hi,hsp];exact⟨v,hy,h⟩
 intro fuel
 induction fuel with
 | zero=>
  intro listed a S _ hr hy H
  refine⟨fun h=>(by rw[h]at hr;cases hr),fun j hj=> ?_⟩
  by_cases hji:j=i
  ·subst hji;exact go _ _ _ hy H
  ·have:=ready_mono hj hji
   rw[H.1]at this
   cases this
 | succ fuel ih=>
  intro listed a S hfree hr hy H
  refine⟨fun h=>(by rw[h]at hr;cases hr),fun j hj=> ?_⟩
  by_cases hji:j=i
  ·subst hji;exact go _ _ _ hy H
  ·have h1:=H.2 j (ready_mono hj hji)
   obtain⟨hjun,oj,hoj,hall⟩:=mem_ready.1 hj
   have hnot: ∀e ∈ oj.after,Region.binds md e=true->e.on≠i:=fun e he hb heq=>by
    have h1:=hall e he hb
    have h0:=(mem_ready.1 hr).1
    rw[heq]at h1
    rcases Nat.lt_or_ge i listed.size with h' | h'
    ·simp[h']at h0 h1;rw[h0]at h1;cases h1
    ·simp[Array.getElem?_eq_none h']at h1
   have h2:=sW hoj (hfree j oj hoj hji hjun hnot) (fun cs b=>hsel i oi cs b hi) (fun cs b=>hsel j oj cs b hoj) hy h1
   have hfree': ∀k ok,ops[k]? =some ok->k≠i->(listed.setIfInBounds j true).getD k true=false->
     (∀e ∈ ok.after,Region.binds md e=true->e.on≠i)->oi.apart ops ok=true:=fun k ok hk hki hun hno=>by
    refine hfree k ok hk hki ?_ hno
    by_cases hjk:j=k
    ·subst hjk;exact hjun
    ·rw[getD_set_ne true hjk]at hun;exact hun
   refine kR (fun a' S' h3=>ih (listed.setIfInBounds j true) a' S' hfree' (ready_mono hr (Ne.symm hji)) h3.1 ?_) h2
   rw[Array.setIfInBounds_comm _ _ hji]
   exact h3.2
theorem firstL{Q:Act->(Nat->Option Nat)->Prop}{i:Nat}{oi:Oper}{ob:Obj}{mk:Nat->Value}(hi:ops[i]? =some oi)(hsp:sp i=some (ob,mk))(hsel: ∀(j:Nat) (o:Oper) cs b,ops[j]? =some o->o.op≠ .select cs b):
  ∀(fuel:Nat) (listed:Array Bool) (a:Act) (S:Nat->Option Nat),Tidy W listed S->
   (∀j oj,ops[j]? =some oj->j≠i->listed.getD j true=false->(∀e ∈ oj.after,Region.binds md e=true->e.on≠i)->oi.apart ops oj=true)->
   i ∈ Region.ready md ops listed->LF P ops W oi ob mk a->
   (∀b,Fresh W S b->wpAnyF P md ops W sp Q fuel (listed.setIfInBounds i true) (a.put oi.dst (mk b)) (putL S i b))->wpAnyF P md ops W sp Q (fuel+1) listed a S:=by
 have go: ∀(K:Act->(Nat->Option Nat)->Prop) (a:Act) (S:Nat->Option Nat),LF P ops W oi ob mk a->(∀b,Fresh W S b->K (a.put oi.dst (mk b)) (putL S i b))->fOp P ops W sp i K a S:=fun K a S hy h=>by
  unfold fOp;simp only[hi,hsp];exact⟨hy,h⟩
 intro fuel
 induction fuel with
 | zero=>
  intro listed a S ty _ hr hy H
  refine⟨fun h=>(by rw[h]at hr;cases hr),fun j hj=> ?_⟩
  by_cases hji:j=i
  ·subst hji;exact go _ _ _ hy H
  ·obtain⟨b,hb⟩:=ty.fresh
   have:=ready_mono hj hji
   rw[(H b hb).1]at this
   cases this
 | succ fuel ih=>
  intro listed a S ty hfree hr hy H
  refine⟨fun h=>(by rw[h]at hr;cases hr),fun j hj=> ?_⟩
  by_cases hji:j=i
  ·subst hji;exact go _ _ _ hy H
  ·have h1:=fun b hb=>(H b hb).2 j (ready_mono hj hji)
   obtain⟨hjun,oj,hoj,hall⟩:=mem_ready.1 hj
   have hnot: ∀e ∈ oj.after,Region.binds md e=true->e.on≠i:=fun e he hb heq=>by
    have h1:=hall e he hb
    have h0:=(mem_ready.1 hr).1
    rw[heq]at h1
    rcases Nat.lt_or_ge i listed.size with h' | h'
    ·simp[h']at h0 h1;rw[h0]at h1;cases h1
    ·simp[Array.getElem?_eq_none h']at h1
   have hap:=hfree j oj hoj hji hjun hnot
   have hfree': ∀k ok,ops[k]? =some ok->k≠i->(listed.setIfInBounds j true).getD k true=false->
     (∀e ∈ ok.after,Region.binds md e=true->e.on≠i)->oi.apart ops ok=true:=fun k ok hk hki hun hno=>by
    refine hfree k ok hk hki ?_ hno
    by_cases hjk:j=k
    ·subst hjk;exact hjun
    ·rw[getD_set_ne true hjk]at hun;exact hun
   have h2:=sX (Ne.symm hji) hoj hap (fun cs b=>hsel i oi cs b hi) (fun cs b=>hsel j oj cs b hoj) ty.fresh (ty.1 j hjun) hy h1
   -- what j leaves is tidy
   have h4:fOp P ops W sp j (fun a' S'=>Tidy W (listed.setIfInBounds j true) S'/\LF P ops W oi ob mk a'/\ ∀b,Fresh W S' b->wpAnyF P md ops W sp Q fuel ((listed.setIfInBounds i true).setIfInBounds j true) (a'.put oi.dst (mk b)) (putL S' i b)) a S:=by
    unfold fOp at h2 ⊢
    cases hs:sp j with
    | none=>
     simp only[hoj,hs]at h2 ⊢
     obtain⟨u,hu,hk⟩:=h2
     exact⟨u,hu,ty.set j,hk⟩
    | some x=>
     simp only[hoj,hs]at h2 ⊢
     exact⟨h2.1,fun b hb=>⟨ty.lay hjun b,h2.2 b hb⟩⟩
   refine kR (fun a' S' h3=>ih (listed.setIfInBounds j true) a' S' h3.1 hfree' (ready_mono hr (Ne.symm hji)) h3.2.1 (fun b hb=> ?_)) h4
   rw[Array.setIfInBounds_comm _ _ hji]
   exact h3.2.2 b hb
def wpFree(P:Program)(ops:Array Oper)(W:World)(sp:Nat->Option (Obj × (Nat->Value)))(Q:Act->(Nat->Option Nat)->Prop):List Oper->Nat->Act->(Nat->Option Nat)->Prop
 | [],_,a,S=>Q a S
 | o :: rest,k,a,S=>
  match sp k with
  | none=> ∃v,YF P ops W o v a/\wpFree P ops W sp Q rest (k+1) (a.put o.dst v) S
  | some (ob,mk)=>LF P ops W o ob mk a/\ ∀b,Fresh W S b->wpFree P ops W sp Q rest (k+1) (a.put o.dst (mk b)) (putL S k b)
theorem eO{Q:Act->(Nat->Option Nat)->Prop}(hs:Region.noSelect ops=true): ∀(l:List Oper) (k:Nat) (listed:Array Bool) (a:Act) (S:Nat->Option Nat),(∀j,l[j]? =ops[k+j]?)->Tidy W listed S->
  Region.lexFrom md ops l.length k listed=true->wpFree P ops W sp Q l k a S->wpAnyF P md ops W sp Q l.length listed a S
 | [],_,_,_,_,_,_,hB,h=>⟨by simpa [Region.lexFrom]using hB,h⟩
 | o :: l,k,listed,a,S,hl,ty,hB,h=>by
  have h0:ops[k]? =some o:=by simpa using(hl 0).symm
  simp only[List.length_cons,Region.lexFrom,Bool.and_eq_true]at hB
  obtain⟨⟨hr,hf⟩,hB'⟩:=hB
  have hr':k ∈ Region.ready md ops listed:=by simpa using hr
  have hl': ∀j,l[j]? =ops[k+1+j]? :=fun j=>by have:=hl (j+1);simpa [Nat.add_assoc,Nat.add_comm 1 j]using this
  cases hsp:sp k with
  | none=>
   simp only[wpFree,hsp]at h
   obtain⟨v,hy,hK⟩:=h
   exact firstY h0 hsp (Region.noSelect_spec hs) l.length listed a S (Region.free_spec h0 hf) hr' hy
    (eO hs l (k+1) _ _ _ hl' (ty.set k) hB' hK)
  | some x=>
   obtain⟨ob,mk⟩:=x
   simp only[wpFree,hsp]at h
   exact firstL h0 hsp (Region.noSelect_spec hs) l.length listed a S ty (Region.free_spec h0 hf) hr' h.1
    (fun b hb=>eO hs l (k+1) _ _ _ hl' (ty.lay (mem_ready.1 hr').1 b) hB' (h.2 b hb))
theorem kS{i:Nat}{a:Act}{S:Nat->Option Nat}{K:Act->(Nat->Option Nat)->Prop}{K':Act->World->Prop}{Q':Exit->Act->World->Prop}{w:World}(hC:Has W sp S w)(h: ∀a S w',Has W sp S w'->K a S->K' a w')(hh:fOp P ops W sp i K a S):wpOp P ops Q' i K' a w:=by
 unfold fOp at hh
 unfold wpOp
 cases ho:ops[i]? with
 | none=>simp only[ho]at hh ⊢;exact h _ _ _ hC hh
 | some o=>
  cases hs:sp i with
  | none=>
   simp only[ho,hs]at hh ⊢
   obtain⟨v,hy,hk⟩:=hh
   rcases hy with⟨w1,hv⟩ | ⟨w1,rfl⟩
   ·rw[if_pos w1]
    refine .inl ?_
    unfold Oper.wp
    rw[hv w hC.1]
    exact h _ _ _ hC hk
   ·rw[if_neg (by rw[w1];exact Bool.false_ne_true)]
    exact h _ _ _ hC hk
  | some x=>
   obtain⟨ob,mk⟩:=x
   simp only[ho,hs]at hh ⊢
   obtain⟨⟨w1,hv⟩,hk⟩:=hh
   rw[if_pos w1]
   refine .inl ?_
   unfold Oper.wp
   have q:=hv w hC.1
   generalize(execOp a.eval o).run P w=r at q
   match r,q with
   | .ok (.value u) w2,⟨b,hu,ha,hb,ho2⟩=>
    subst hu
    exact h _ _ _ (hC.lay hs ha hb ho2) (hk b (hC.freshb hb))
   | .ok (.enter f args) w2,⟨e,hc⟩=>
    subst e
    refine Calls.mono hc ?_
    rintro e2 w3 ⟨b,rfl,ha,hb,ho2⟩
    exact h _ _ _ (hC.lay hs ha hb ho2) (hk b (hC.freshb hb))
end
theorem sY{P:Program}{md:Region.Mode}{ops hd:Array Oper}{W:World}{sp:Nat->Option (Obj × (Nat->Value))}{n:Nat}(hhd: ∀i,i<n->hd[i]? =ops[i]?)(hb:backB md ops n=true){i:Nat}(hi:i<n){K:Act->(Nat->Option Nat)->Prop}{a:Act}{S:Nat->Option Nat}(h:fOp P hd W sp i K a S):fOp P ops W sp i K a S:=by
 unfold fOp at*
 rw[hhd i hi]at h
 cases ho:ops[i]? with
 | none=>rw[ho]at h;exact h
 | some o=>
  have e:Region.wanted o (yielded hd a.tmps)=Region.wanted o (yielded ops a.tmps):=by
   unfold Region.wanted
   cases hg:o.guard with
   | none=>rfl
   | some jb=>
    obtain⟨j,b⟩:=jb
    have lt:=(jK hb hi ho).2 j b hg
    show(yielded hd a.tmps j==some b)=(yielded ops a.tmps j==some b)
    unfold yielded
    rw[hhd j lt]
  simp only[ho]at h ⊢
  cases hs:sp i with
  | none=>
   simp only[hs]at h ⊢
   unfold YF at*
   rw[e]at h
   exact h
  | some x=>
   simp only[hs]at h ⊢
   unfold LF at*
   rw[e]at h
   exact h
theorem hZ{P:Program}{md:Region.Mode}{ops hd:Array Oper}{W:World}{sp:Nat->Option (Obj × (Nat->Value))}{n:Nat}{g:Nat}{Q1:Act->(Nat->Option Nat)->Prop}{Q':Exit->Act->World->Prop}(hhd: ∀i,i<n->hd[i]? =ops[i]?)(hsz:hd.size=n)(hn:n<ops.size)(hb:backB md ops n=true)(hs:Region.sinkB md ops n=true)(hc:Region.chainB md ops n=true)
  (hL: ∀a S w,Has W sp S w->Q1 a S->wpAny P md ops Q' g (finA ops.size n) a w):
  ∀(fuel:Nat) (listed lh:Array Bool) (a:Act) (S:Nat->Option Nat) (w:World),Has W sp S w->HeadInv md ops n listed->lh.size=n->(∀i,i<n->lh.getD i true=listed.getD i true)->
   wpAnyF P md hd W sp Q1 fuel lh a S->wpAny P md ops Q' (fuel+g) listed a w:=by
 intro fuel
 induction fuel with
 | zero=>
  intro listed lh a S w hC inv hl he h
  have hls:n<=listed.size:=by rw[inv.size];omega
  rcases eM (by omega) hb hls with all | ⟨i,hi,hr⟩
  ·rw[Nat.zero_add,oW hn inv all]
   exact hL a S w hC h.2
  ·have:=(fO hhd hb hl hls he hi).2 hr
   rw[h.1]at this
   cases this
 | succ fuel ih=>
  intro listed lh a S w hC inv hl he h
  have hls:n<=listed.size:=by rw[inv.size];omega
  rcases eM (by omega) hb hls with all | ⟨i0,hi0,hr0⟩
  ·have no:Region.ready md hd lh=[]:=by
    rw[List.eq_nil_iff_forall_not_mem]
    intro i hi
    obtain⟨u,o,ho,_⟩:=mem_ready.1 hi
    have lt:i<n:=by rw[<- hsz];exact(Array.getElem?_eq_some_iff.1 ho).1
    rw[he i lt,all i lt]at u
    cases u
   rw[Nat.add_comm (fuel+1) g,oW hn inv all]
   exact jR g (fuel+1) _ a w (hL a S w hC (h.1 no))
  ·rw[show fuel+1+g=(fuel+g)+1 by omega]
   refine⟨fun h0=>(by rw[h0]at hr0;cases hr0),fun i hi=> ?_⟩
   have lt:i<n:=by
    by_cases c:i<n
    ·exact c
    ·exact absurd hi (tail_waits hs hc hn inv _ i0 rfl hi0 (mem_ready.1 hr0).1 i (by omega))
   have hq:=sY hhd hb lt (h.2 i ((fO hhd hb hl hls he lt).2 hi))
   refine kS hC (fun a' S' w' hC' h'=>ih _ _ a' S' w' hC' (inv.set hi lt) (by simp[hl]) (fun j hj=> ?_) h') hq
   by_cases e:i=j
   ·subst e
    simp[hl,lt,show i<listed.size by omega]
   ·rw[getD_set_ne true e,getD_set_ne true e,he j hj]
theorem kT{P:Program}{id:Nat}{Q:Exit->Act->World->Prop}{a:Act}{w:World}{l:List Oper}(n:Nat)(sp:Nat->Option (Obj × (Nat->Value)))(hm:P.follows .mixedOrders=true)(hB:Region.lexB .any (l.take n).toArray=true)(hT:tailB l.toArray n=true)
  (h:wpFree P (l.take n).toArray w.drew sp (fun a' S=> ∀w',Has w.drew sp S w'->wpList P l.toArray Q (l.drop n) a' w') (l.take n) 0 a (fun _=>none)):(Code.region id l.toArray true).wp P Q a w:=by
 simp only[tailB,Bool.and_eq_true,decide_eq_true_eq]at hT
 obtain⟨⟨⟨⟨hn,hb⟩,hs⟩,hc⟩,hq⟩:=hT
 have hn':n<l.length:=by simpa using hn
 have htl:(l.take n).toArray.size=n:=by simp;omega
 have hdl:(l.drop n).length=l.toArray.size - n:=by simp
 refine wp_region_any hm ?_
 simp only[Region.lexB,Bool.and_eq_true]at hB
 have H:=eO (P:=P) (W:=w.drew) (sp:=sp) (md:=.any) hB.1 (l.take n) 0 (Array.replicate (l.take n).toArray.size false) a (fun _=>none) (by simp) ⟨fun _ _=>rfl,w.drew.heap.size,Nat.le_refl _,fun i c e=>by cases e⟩ (by simpa using hB.2) h
 have inv0:HeadInv .any l.toArray n (Array.replicate l.toArray.size false):=
  ⟨by simp,fun j oj _ hl=>(by rw[getD_replicate_false]at hl;cases hl),fun t _ ht=>getD_in (by simpa using ht) (getD_replicate_false _ _)⟩
 have:=hZ (P:=P) (Q':=Q) (g:=l.toArray.size - n) (hd:=(l.take n).toArray) (ops:=l.toArray) (fun i hi=>by simp[hi]) htl hn hb hs hc
  (fun a' S' w' hC' h'=>by
   have:=wpAny_of_seq (P:=P) (md:=.any) (ops:=l.toArray) (Q':=Q) (l.drop n) n (finA l.toArray.size n) a' w' (fun j=>by simp) (by rw[hdl];exact hq) (h' w' hC')
   rwa [hdl]at this)
  (l.take n).length _ _ a (fun _=>none) w.drew ⟨Ab.refl _,fun i b e=>by cases e⟩ inv0 (by simpa using htl) (fun i hi=>by
   rw[getD_in (listed:=Array.replicate l.toArray.size false) (by simp;omega) (getD_replicate_false _ _)]
   exact getD_in (by rw[Array.size_replicate];omega) (getD_replicate_false _ _)) H
 have e:(l.take n).length+(l.toArray.size - n)=l.toArray.size:=by simp;omega
 rw[e]at this
 exact this
section
variable {P:Program} {ops:Array Oper} {W:World} {sp:Nat->Option (Obj × (Nat->Value))} {Q:Act->(Nat->Option Nat)->Prop} {o:Oper} {rest:List Oper} {k:Nat} {a:Act} {S:Nat->Option Nat}
theorem dP{U:Type}{F:U->World}(HF:Hid (∀w',Ab W w'-> ∃u,w'=F u))(hs:sp k=none)(hp:plainB o.op=true)(h:wpQuiet P ops (fun w'=> ∃u,w'=F u) (fun a'=>wpFree P ops W sp Q rest (k+1) a' S) [o] a):wpFree P ops W sp Q (o :: rest) k a S:=by
 simp only[wpFree,hs]
 simp only[wpQuiet]at h
 by_cases c:Region.wanted o (yielded ops a.tmps)=true
 ·rw[if_pos c]at h
  obtain⟨v,h1,h2⟩:=h
  refine⟨v,.inl ⟨c,fun w hw=> ?_⟩,h2⟩
  have q:=h1 w (HF.out w hw)
  unfold Oper.quietAt at q
  cases e:(execOp a.eval o).run P w with
  | ok n w'=>
   obtain⟨x,rfl⟩:=pU hp e
   rw[e]at q
   obtain⟨q1,q2⟩:=q
   rw[q1,q2]
  | halt x w'=>rw[e]at q;exact absurd q (by simp[Oper.quietUpon])
 ·rw[if_neg c]at h
  exact⟨undef,.inr ⟨by simpa using c,rfl⟩,h⟩
theorem dW{ob:Obj}{mk:Nat->Value}(hs:sp k=some (ob,mk))(hw:Region.wanted o (yielded ops a.tmps)=true)(hr: ∀w,Ab W w->LayR P w ob mk ((execOp a.eval o).run P w))
  (h: ∀b,Fresh W S b->wpFree P ops W sp Q rest (k+1) (a.put o.dst (mk b)) (putL S k b)):wpFree P ops W sp Q (o :: rest) k a S:=by
 simp only[wpFree,hs]
 exact⟨⟨hw,hr⟩,h⟩
theorem jT{ob:Obj}{mk:Nat->Value}(h: ∀w,Ab W w->(execOp a.eval o).run P w=.ok (.value (mk w.heap.size)) (w.alloc ob)): ∀w,Ab W w->LayR P w ob mk ((execOp a.eval o).run P w):=fun w hw=>by
 rw[h w hw]
 exact⟨w.heap.size,rfl,bl1 _ _,Nat.le_refl _,heap_alloc_new _ _⟩
theorem mR(h:Q a S):wpFree P ops W sp Q [] k a S:=h
end
theorem Has.at{W:World}{sp:Nat->Option (Obj × (Nat->Value))}{S:Nat->Option Nat}{w:World}(h:Has W sp S w){i b:Nat}{ob:Obj}{mk:Nat->Value}(e:S i=some b)(s:sp i=some (ob,mk)):w.heap[b]? =some ob/\W.heap.size<=b:=by
 obtain⟨h1,o,m,h2,h3⟩:=h.2 i b e
 rw[s]at h2
 injection h2 with h2
 injection h2 with h2
 subst h2
 exact⟨h3,h1⟩
end Cf
end
section
open Go.RowKit Tf Cu Go.Deep
attribute [local go_sem] aJ aK aP aQ aR aV aX aD
namespace Ss
theorem F8{P:Program}{a:Act}{o:Oper}{x:Operand}{f:FuncId}{fn:Func}{ats:Array TypeId}{v:Value}(ho:o.op=.call {callee:=.value (.func f),args:= #[x],argTypes:=ats})(hx:a.eval x=v)(hf:P.funcs[f]? =some fn)(hn:(fn.name== "runtime.NumGoroutine")=false)(hb:fn.body.isNone=false)(w:World):(execOp a.eval o).run P w=.ok (.enter f #[v]) w:=by
 have h1:fn.name≠ "runtime.NumGoroutine" :=by simpa using hn
 have ef:a.eval (.func f)=.func (.func f) #[] #[]:=rfl
 have e:execOp a.eval o=callFunc f #[v]:=by
  unfold execOp
  simp[ho,resolve,Deferred.ofValue,invoke,ef,hx]
 obtain⟨c,hc⟩: ∃c,fn.body=some c:=by
  cases h:fn.body with
  | none=>simp[h]at hb
  | some c=>exact⟨c,rfl⟩
 rw[e]
 simp[callFunc,hf,h1,hc]
end Ss
end
section
open Go.RowKit Tf Cu Go.Deep
attribute [local go_sem] aJ aK aP aQ aR aV aX aD
namespace Ss
def SeaIn(M g:Nat)(p1:Option Addr)(c1:Nat)(p2:Option Addr)(c2:Nat)(p3:Option Addr)(c3:Nat)(p4:Option Addr)(c4:Nat)(n1 n2 n3 n4:Nat)(A:Nat->Nat)(B C:Nat->Int)(D:Nat->Nat)(sk st:Int)(v:World):Prop:=
 v.heap[g]? =some (.cells #[.slice p1 n1 c1,.slice p2 n2 c2,.slice p3 n3 c3,.slice p4 n4 c4,.int .i64 sk,.int .i64 st] 48)/\(IsFl v p1 n1 A/\Sh.IsI v p2 n2 B/\Sh.IsI v p3 n3 C/\IsFl v p4 n4 D)/\(OV 35 M (.slice p1 n1 c1) (((List.range n1).map A).map (Value.float .f64)) v/\OV 2 M (.slice p2 n2 c2) (((List.range n2).map B).map (Value.int .i64)) v/\OV 2 M (.slice p3 n3 c3) (((List.range n3).map C).map (Value.int .i64)) v/\OV 35 M (.slice p4 n4 c4) (((List.range n4).map D).map (Value.float .f64)) v)/\(∀k,((Value.slice p1 n1 c1).ownBlock=some k\/(Value.slice p2 n2 c2).ownBlock=some k\/(Value.slice p3 n3 c3).ownBlock=some k\/(Value.slice p4 n4 c4).ownBlock=some k)->k<g)/\(Dj (.slice p1 n1 c1) (.slice p2 n2 c2)/\Dj (.slice p1 n1 c1) (.slice p3 n3 c3)/\Dj (.slice p1 n1 c1) (.slice p4 n4 c4)/\Dj (.slice p2 n2 c2) (.slice p3 n3 c3)/\Dj (.slice p2 n2 c2) (.slice p4 n4 c4)/\Dj (.slice p3 n3 c3) (.slice p4 n4 c4))
def Bnd(n1 n2 n3 n4:Nat)(A:Nat->Nat)(B C:Nat->Int)(D:Nat->Nat):Prop:=(∀i,i<n1->A i<18446744073709551616)/\(∀i,i<n2->Sh.W64 (B i))/\(∀i,i<n3->Sh.W64 (C i))/\(∀i,i<n4->D i<18446744073709551616)
theorem Eo{M:Nat}{vv:Value}{n1 n2 n3 n4:Nat}{A:Nat->Nat}{B C:Nat->Int}{D:Nat->Nat}{sk st:Int}{u:World}(h:OwnS M vv n1 n2 n3 n4 A B C D sk st u)(hb:Bnd n1 n2 n3 n4 A B C D):
  ∃p1 c1 p2 c2 p3 c3 p4 c4,vv=.agg #[.slice p1 n1 c1,.slice p2 n2 c2,.slice p3 n3 c3,.slice p4 n4 c4,.int .i64 sk,.int .i64 st]/\SeaIn M u.heap.size p1 c1 p2 c2 p3 c3 p4 c4 n1 n2 n3 n4 A B C D sk st (u.alloc (.cells #[.slice p1 n1 c1,.slice p2 n2 c2,.slice p3 n3 c3,.slice p4 n4 c4,.int .i64 sk,.int .i64 st] 48)):=by
 obtain⟨p1,c1,p2,c2,p3,c3,p4,c4,e,⟨i1,i2,i3,i4⟩,⟨o1,o2,o3,o4⟩,dj⟩:=own_k20 h hb.1 hb.2.1 hb.2.2.1 hb.2.2.2
 have a: ∀o,Ab u (u.alloc o):=fun o=>bl1 _ _
 exact⟨p1,c1,p2,c2,p3,c3,p4,c4,e,heap_alloc_new _ _,⟨i1.below (a _),i2.below (a _),i3.below (a _),i4.below (a _)⟩,⟨o1.to (a _),o2.to (a _),o3.to (a _),o4.to (a _)⟩,fun k q=>by
  rcases q with q | q | q | q
  ·exact(o1.blk q).2
  ·exact(o2.blk q).2
  ·exact(o3.blk q).2
  ·exact(o4.blk q).2,dj⟩
theorem chk_zero{side:Int}{lb lw lt ls:Nat}{B:Nat->Nat}{W T:Nat->Int}{S:Nat->Nat}{sky st:Int}(h1:1<=side/\side<=32)(hl:lb=6*side.toNat*side.toNat/\lw=6*side.toNat*side.toNat/\lt=6*side.toNat*side.toNat/\ls=2*(6*side.toNat*side.toNat))(h:okN (6*side.toNat*side.toNat) B W T S sky st):chk side lb lw lt ls B W T S sky st=(0,0):=by
 unfold chk
 rw[if_pos h1]
 exact chN_zero ⟨hl,h⟩
end Ss
end
section
open Go.RowKit Tf Cu Go.Deep
namespace St
open Ss Fc
def erS(n:Nat)(sd:Int)(dt gr dr:Nat)(lim:Int)(lr:Nat)(R:Nat->Int × Int × Int × Int)(lb lw lt ls:Nat)(B:Nat->Nat)(W T:Nat->Int)(S:Nat->Nat)(sky st:Int):Int:=
 if sd≠(n:Int)then 1 else if plE sd dt gr dr lim lr R≠0 then plE sd dt gr dr lim lr R else(chk sd lb lw lt ls B W T S sky st).2
def OneB(rv:Bool):Prop:= ∀(n gb:Nat) (sd:Int) (dt gr dr:Nat) (lim:Int) (pr:Option Addr) (lr cr:Nat) (R:Nat->Int × Int × Int × Int) (pb:Option Addr) (lb cb:Nat) (B:Nat->Nat) (pw:Option Addr) (lw cw:Nat) (W:Nat->Int) (pt:Option Addr) (lt ct:Nat) (T:Nat->Int) (ps:Option Addr) (ls cs:Nat) (S:Nat->Nat) (sky st:Int) (w:World),(1<=n/\n<=32)->GridOf n gb w->Fr w->(Sh.W64 sd/\Sh.W64 lim/\Sh.W64 sky/\Sh.W64 st)->(dt<18446744073709551616/\gr<18446744073709551616/\dr<18446744073709551616)->lr<=281474976710656->(lb<=281474976710656/\lw<=281474976710656/\lt<=281474976710656/\ls<=281474976710656)->Rn.IsRn w pr lr R->IsFl w pb lb B->Sh.IsI w pw lw W->Sh.IsI w pt lt T->IsFl w ps ls S->
 ((erS n sd dt gr dr lim lr R lb lw lt ls B W T S sky st)=0->Calls prog 21 #[.pointer (some ⟨gb,0,none⟩),.agg #[.int .i64 sd,.float .f64 dt,.float .f64 gr,.float .f64 dr,.int .i64 lim,.bool rv,.slice pr lr cr],.agg #[.slice pb lb cb,.slice pw lw cw,.slice pt lt ct,.slice ps ls cs,.int .i64 sky,.int .i64 st]] w fun e w'=> ∃v,e=.returned (.tuple #[v,.int .i64 0])/\Below w.heap.size w w'/\OwnS w.heap.size v lb lw lt ls B (riX n lim gr dt dr rv lr R B W T S sky st).1 (riX n lim gr dt dr rv lr R B W T S sky st).2 (spE n gr dt dr B W S) (raX n lim gr dt dr lr R B W S sky st).2 (stN st) w')/\
 ((erS n sd dt gr dr lim lr R lb lw lt ls B W T S sky st)≠0->Calls prog 21 #[.pointer (some ⟨gb,0,none⟩),.agg #[.int .i64 sd,.float .f64 dt,.float .f64 gr,.float .f64 dr,.int .i64 lim,.bool rv,.slice pr lr cr],.agg #[.slice pb lb cb,.slice pw lw cw,.slice pt lt ct,.slice ps ls cs,.int .i64 sky,.int .i64 st]] w fun e w'=>e=.returned (.tuple #[.agg #[.slice none 0 0,.slice none 0 0,.slice none 0 0,.slice none 0 0,.int .i64 0,.int .i64 0],.int .i64 (erS n sd dt gr dr lim lr R lb lw lt ls B W T S sky st)])/\Below w.heap.size w w')
def OneF:Prop:=OneB false
def FlowC:Prop:= ∀(n gb:Nat) (sd:Int) (dt gr dr:Nat) (lim:Int) (rv:Bool) (pr:Option Addr) (lr cr:Nat) (R:Nat->Int × Int × Int × Int) (pb:Option Addr) (lb cb:Nat) (B:Nat->Nat) (pw:Option Addr) (lw cw:Nat) (W:Nat->Int) (pt:Option Addr) (lt ct:Nat) (T:Nat->Int) (ps:Option Addr) (ls cs:Nat) (S:Nat->Nat) (sky st:Int) (w:World),(1<=n/\n<=32)->GridOf n gb w->Fr w->(Sh.W64 sd/\Sh.W64 lim/\Sh.W64 sky/\Sh.W64 st)->(dt<18446744073709551616/\gr<18446744073709551616/\dr<18446744073709551616)->lr<=281474976710656->(lb<=281474976710656/\lw<=281474976710656/\lt<=281474976710656/\ls<=281474976710656)->Rn.IsRn w pr lr R->IsFl w pb lb B->Sh.IsI w pw lw W->Sh.IsI w pt lt T->IsFl w ps ls S->
 ((erS n sd dt gr dr lim lr R lb lw lt ls B W T S sky st)=0->Calls prog 19 #[.pointer (some ⟨gb,0,none⟩),.agg #[.int .i64 sd,.float .f64 dt,.float .f64 gr,.float .f64 dr,.int .i64 lim,.bool rv,.slice pr lr cr],.agg #[.slice pb lb cb,.slice pw lw cw,.slice pt lt ct,.slice ps ls cs,.int .i64 sky,.int .i64 st]] w fun e w'=> ∃v1 v2,e=.returned (.tuple #[.agg #[v1,v2],.int .i64 0])/\Below w.heap.size w w'/\Sh.Own w.heap.size v1 ((List.range (12*n*n)).map (waF n lim gr dt dr B W S)) w'/\Sh.Own w.heap.size v2 ((List.range (12*n*n)).map (trF n lim gr dt dr B W T S)) w'/\Dj v1 v2)/\
 ((erS n sd dt gr dr lim lr R lb lw lt ls B W T S sky st)≠0->Calls prog 19 #[.pointer (some ⟨gb,0,none⟩),.agg #[.int .i64 sd,.float .f64 dt,.float .f64 gr,.float .f64 dr,.int .i64 lim,.bool rv,.slice pr lr cr],.agg #[.slice pb lb cb,.slice pw lw cw,.slice pt lt ct,.slice ps ls cs,.int .i64 sky,.int .i64 st]] w fun e w'=>e=.returned (.tuple #[.agg #[.slice none 0 0,.slice none 0 0],.int .i64 (erS n sd dt gr dr lim lr R lb lw lt ls B W T S sky st)])/\Below w.heap.size w w')
theorem rB_ok{m:Nat}{r:Int × Int × Int × Int}(h:rB (m:Int) r=true):Rn.okR m r:=by
 unfold rB at h
 simp only[Bool.and_eq_true,decide_eq_true_eq]at h
 unfold Rn.okR
 omega
theorem plE_ok{sd:Int}{dt gr dr:Nat}{lim:Int}{lr:Nat}{R:Nat->Int × Int × Int × Int}(h:plE sd dt gr dr lim lr R=0):(1<=sd/\sd<=32)/\lr<=1024/\ ∀k,k<lr->Rn.okR (6*sd.toNat*sd.toNat) (R k):=by
 unfold plE at h
 by_cases a:1<=sd/\sd<=32
 ·rw[if_neg (fun q=>q a)]at h
  split at h
  ·exact absurd h (by decide)
  ·by_cases c:lr<=1024/\ ∀k,k<lr->rB ((6*sd.toNat*sd.toNat:Nat):Int) (R k)=true
   ·exact⟨a,c.1,fun k hk=>rB_ok (c.2 k hk)⟩
   ·rw[if_pos c]at h
    exact absurd h (by decide)
 ·rw[if_pos a]at h
  exact absurd h (by decide)
theorem chk_ok{side:Int}{lb lw lt ls:Nat}{B:Nat->Nat}{W T:Nat->Int}{S:Nat->Nat}{sky st:Int}(c:(chk side lb lw lt ls B W T S sky st).2=0):(1<=side/\side<=32)/\(lb=6*side.toNat*side.toNat/\lw=6*side.toNat*side.toNat/\lt=6*side.toNat*side.toNat/\ls=2*(6*side.toNat*side.toNat))/\okN (6*side.toNat*side.toNat) B W T S sky st:=by
 unfold chk at c
 by_cases q:1<=side/\side<=32
 ·rw[if_pos q]at c
  obtain⟨a,b⟩:=chN_ok.1 c
  exact⟨q,a,b⟩
 ·rw[if_neg q]at c
  exact absurd c (by decide)
theorem er_ok{n:Nat}{sd:Int}{dt gr dr:Nat}{lim:Int}{lr:Nat}{R:Nat->Int × Int × Int × Int}{lb lw lt ls:Nat}{B:Nat->Nat}{W T:Nat->Int}{S:Nat->Nat}{sky st:Int}(h:(erS n sd dt gr dr lim lr R lb lw lt ls B W T S sky st)=0)(hf:dt<18446744073709551616/\gr<18446744073709551616/\dr<18446744073709551616)(hB: ∀i,i<lb->B i<18446744073709551616)(hS: ∀i,i<ls->S i<18446744073709551616):
  sd=(n:Int)/\plE sd dt gr dr lim lr R=0/\(chk sd lb lw lt ls B W T S sky st).2=0/\(lb=6*n*n/\lw=6*n*n/\lt=6*n*n/\ls=12*n*n)/\okP n gr dt dr lr R/\okS n B W T S sky st:=by
 unfold erS at h
 by_cases a:sd=(n:Int)
 ·rw[if_neg (fun q=>q a)]at h
  by_cases b:plE sd dt gr dr lim lr R=0
  ·rw[if_neg (fun q=>q b)]at h
   obtain⟨p1,p2,p3⟩:=plE_ok b
   obtain⟨-,s2,s3⟩:=chk_ok h
   have e2:2*(6*n*n)=12*n*n:=by rw[Nat.mul_assoc,Nat.mul_assoc];omega
   rw[a,Int.toNat_natCast]at p3 s2 s3
   rw[e2]at s2
   refine⟨a,b,h,s2,⟨by omega,⟨hf.2.1,hf.1,hf.2.2⟩,p2,p3⟩,s3,fun c hc=>hB c (by omega),fun e he=>hS e (by omega)⟩
  ·rw[if_pos b]at h
   exact absurd h b
 ·rw[if_pos a]at h
  exact absurd h (by decide)
theorem er_zero{n:Nat}{sd:Int}{dt gr dr:Nat}{lim:Int}{lr:Nat}{R:Nat->Int × Int × Int × Int}{lb lw lt ls:Nat}{B:Nat->Nat}{W T:Nat->Int}{S:Nat->Nat}{sky st:Int}(a:sd=(n:Int))(b:plE sd dt gr dr lim lr R=0)(c:(chk sd lb lw lt ls B W T S sky st).2=0):(erS n sd dt gr dr lim lr R lb lw lt ls B W T S sky st)=0:=by
 unfold erS
 rw[if_neg (fun q=>q a),if_neg (fun q=>q b),c]
end St
end
section
open Go.RowKit Tf Cu Go.Deep
attribute [local go_sem] aJ aK aP aQ aR aV aX aD
namespace St
open Ss Fc
theorem zW:(Tryz.prog.info? 35).map (fun i=>(i.zero,i.size,i.bytes))=some (some (.float .f64 0),1,8):=by kernel_rfl
end St
end
section
open Go.RowKit Tf Cu Go.Deep
namespace St
open Ss Fc
theorem aw_pl(R:Nat->Int × Int × Int × Int):plE 1 4602678819172646912 4607182418800017408 0 0 0 R=0:=by
 unfold plE
 rw[if_neg (by omega),if_neg (fun q=>q ⟨by decide+kernel,by decide+kernel,by decide+kernel,by decide+kernel,by omega,by omega⟩),if_neg (fun q=>q ⟨by omega,fun k hk=>absurd hk (Nat.not_lt_zero k)⟩)]
theorem aw_okP(R:Nat->Int × Int × Int × Int):okP 1 4607182418800017408 4602678819172646912 0 0 R:=⟨by omega,⟨by omega,by omega,by omega⟩,by omega,fun k hk=>absurd hk (Nat.not_lt_zero k)⟩
theorem aw_okN{W:Nat->Int}(h0: ∀i,i<6->0<=W i)(h1:Sh.sumN W 6<=4503599627370496):okN 6 (fun _=>0) W (fun _=>0) (fun _=>0) 0 0:=
 ⟨fun _ _=>by show(!btw 0 13920626448202203136 4697254411347427328)=false;decide+kernel,by omega,⟨h0,by omega⟩,⟨fun _ _=>Int.le_refl 0,by decide⟩,fun _ _=>by show(!btw 0 13875590451928498176 4652218415073722368)=false;decide+kernel,by omega,by omega⟩
theorem aw_s{W:Nat->Int}(h:okN 6 (fun _=>0) W (fun _=>0) (fun _=>0) 0 0):okS 1 (fun _=>0) W (fun _=>0) (fun _=>0) 0 0:=⟨h,fun _ _=>(by show 0<_;omega),fun _ _=>(by show 0<_;omega)⟩
theorem aw_er{W:Nat->Int}(h:okN 6 (fun _=>0) W (fun _=>0) (fun _=>0) 0 0)(R:Nat->Int × Int × Int × Int):erS 1 1 4602678819172646912 4607182418800017408 0 0 0 R 6 6 6 12 (fun _=>0) W (fun _=>0) (fun _=>0) 0 0=0:=
 er_zero (by rfl) (aw_pl R) (congrArg Prod.snd (chk_zero (side:=1) (lb:=6) (lw:=6) (lt:=6) (ls:=12) (by omega) ⟨rfl,rfl,rfl,rfl⟩ h))
theorem ri_0{n:Nat}{lim:Int}{G dt D:Nat}{R:Nat->Int × Int × Int × Int}{B:Nat->Nat}{W T:Nat->Int}{S:Nat->Nat}{sky st:Int}:riX n lim G dt D false 0 R B W T S sky st=(mvW n lim G dt D B W S,mvT n lim G dt D B W T S):=by
 unfold riX raX
 rw[if_neg (by decide)]
 rfl
end St
end
section
open Go.RowKit Tf Cu Go.Deep
attribute [local go_sem] aJ aK aP aQ aR aV aX aD
namespace Ss
def SeaP(g:Nat)(p1:Option Addr)(c1:Nat)(p2:Option Addr)(c2:Nat)(p3:Option Addr)(c3:Nat)(p4:Option Addr)(c4:Nat)(n1 n2 n3 n4:Nat)(A:Nat->Nat)(B C:Nat->Int)(D:Nat->Nat)(sk st:Int)(v:World):Prop:=v.heap[g]? =some (.cells #[.slice p1 n1 c1,.slice p2 n2 c2,.slice p3 n3 c3,.slice p4 n4 c4,.int .i64 sk,.int .i64 st] 48)/\IsFl v p1 n1 A/\Sh.IsI v p2 n2 B/\Sh.IsI v p3 n3 C/\IsFl v p4 n4 D
end Ss
end
section
open Go.RowKit Tf Cu Go.Deep
attribute [local go_sem] aJ aK aP aQ aR aV aX aD
namespace St
open Ss Fc
def LkR(W:Nat->Int)(b1 b2 b3 b4:Nat)(v:World):Prop:=v.rowIs b1 35 6 (fun _=>.float .f64 0)/\v.rowIs b2 2 6 (fun i=>.int .i64 (W i))/\v.rowIs b3 2 6 (fun _=>.int .i64 0)/\v.rowIs b4 35 12 (fun _=>.float .f64 0)
theorem LkR.to{W:Nat->Int}{b1 b2 b3 b4:Nat}{v v':World}(h:LkR W b1 b2 b3 b4 v)(a:Ab v v'):LkR W b1 b2 b3 b4 v':=⟨rowIs.ab h.1 a,rowIs.ab h.2.1 a,rowIs.ab h.2.2.1 a,rowIs.ab h.2.2.2 a⟩
theorem BZ{n:Nat}{B:Nat->Nat}{W T:Nat->Int}{S:Nat->Nat}{sky st:Int}(h:okS n B W T S sky st):Bnd (6*n*n) (6*n*n) (6*n*n) (12*n*n) B W T S:=by
 obtain⟨⟨-,⟨k1,k2⟩,⟨w1,w2⟩,⟨t1,t2⟩,-⟩,hb,hs⟩:=h
 refine⟨hb,fun i hi=> ?_,fun i hi=> ?_,hs⟩
 ·have h1:=w1 i hi
  have h2:=kQ w1 hi
  unfold Sh.W64
  omega
 ·have h1:=t1 i hi
  have h2:=kQ t1 hi
  unfold Sh.W64
  omega
theorem xM{M n:Nat}{v:Value}{f:Nat->Int}{w:World}(h:Sh.Own M v ((List.range n).map f) w)(hf: ∀i,i<n->Sh.W64 (f i)): ∃p c,v=.slice p n c/\Sh.IsI w p n f/\ ∀b o,p=some ⟨b,o,none⟩->M<=b:=by
 obtain⟨p,c,rfl,hi⟩:=h.in (fun x hx=>by
  obtain⟨i,hi,rfl⟩:=List.mem_map.1 hx
  exact hf i (List.mem_range.1 hi))
 rw[List.length_map,List.length_range]at hi
 refine⟨p,c,by rw[List.length_map,List.length_range],hi.congr (fun k hk=>by simp[List.getD,hk]),fun b o e=> ?_⟩
 subst e
 exact(World.ownsRow.lt h b rfl).1
end St
end
end Go.Proofs.YtmhnilnaffjhmaaGreatDoor
