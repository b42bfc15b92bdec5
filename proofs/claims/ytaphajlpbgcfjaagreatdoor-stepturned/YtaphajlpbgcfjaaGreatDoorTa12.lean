/-
  Some of the texts of this proof, one behind the other.
-/
import Derived.Laws.CopyOwn
import Derived.Laws.IdiomCopy
import Derived.Deep.RegionHeld3
import Derived.Deep.QuietTactic
import Derived.Test.YtaphajlpbgcfjaaGreatDoorTa11
set_option maxRecDepth 100000
set_option maxHeartbeats 400000000
namespace Go.Proofs.YtaphajlpbgcfjaaGreatDoor
open _root_.Go.Proofs.Tryz
section
open Go.RowKit
namespace Cf
def Fresh(W:World)(S:Nat->Option Nat)(b:Nat):Prop:=W.heap.size<=b/\ ∀i c,S i=some c->c≠b
def putL(S:Nat->Option Nat)(i b:Nat):Nat->Option Nat:=fun k=>if k=i then some b else S k
def Has(W:World)(sp:Nat->Option (Obj × (Nat->Value)))(S:Nat->Option Nat)(w:World):Prop:=Ab W w/\ ∀i b,S i=some b->W.heap.size<=b/\ ∃o mk,sp i=some (o,mk)/\w.heap[b]? =some o
theorem qO(S:Nat->Option Nat){i j:Nat}(b c:Nat)(h:i≠j):putL (putL S i b) j c=putL (putL S j c) i b:=by
 funext k
 unfold putL
 by_cases e:k=j
 ·subst e;simp[Ne.symm h]
 ·by_cases e2:k=i
  ·subst e2;simp[e]
  ·simp[e,e2]
theorem Fresh.put{W:World}{S:Nat->Option Nat}{i b c:Nat}(h:Fresh W S c)(n:b≠c):Fresh W (putL S i b) c:=
 ⟨h.1,fun k d e=>by
  unfold putL at e
  by_cases q:k=i
  ·rw[if_pos q]at e;injection e with e;exact fun x=>n (e.trans x)
  ·rw[if_neg q]at e;exact h.2 k d e⟩
theorem Fresh.of_put{W:World}{S:Nat->Option Nat}{i b c:Nat}(h:Fresh W (putL S i b) c)(hi:S i=none):Fresh W S c/\b≠c:=by
 refine⟨⟨h.1,fun k d e=>h.2 k d ?_⟩,h.2 i b (by simp[putL])⟩
 unfold putL
 by_cases q:k=i
 ·subst q;rw[hi]at e;cases e
 ·rw[if_neg q];exact e
theorem Has.lt{W:World}{sp:Nat->Option (Obj × (Nat->Value))}{S:Nat->Option Nat}{w:World}(h:Has W sp S w){i b:Nat}(e:S i=some b):b<w.heap.size:=by
 obtain⟨_,o,mk,_,q⟩:=h.2 i b e
 exact lt_of_block q
theorem Has.lay{W:World}{sp:Nat->Option (Obj × (Nat->Value))}{S:Nat->Option Nat}{w w1:World}(h:Has W sp S w){i b:Nat}{o:Obj}{mk:Nat->Value}(e:sp i=some (o,mk))(a:Ab w w1)(hb:w.heap.size<=b)(ho:w1.heap[b]? =some o):Has W sp (putL S i b) w1:=
 ⟨h.1.trans a,fun k c q=>by
  unfold putL at q
  by_cases z:k=i
  ·subst z
   rw[if_pos rfl]at q
   injection q with q
   subst q
   exact⟨Nat.le_trans h.1.size hb,o,mk,e,ho⟩
  ·rw[if_neg z]at q
   obtain⟨h1,o',mk',h2,h3⟩:=h.2 k c q
   exact⟨h1,o',mk',h2,Ab.heap a h3⟩⟩
theorem Has.freshb{W:World}{sp:Nat->Option (Obj × (Nat->Value))}{S:Nat->Option Nat}{w:World}(h:Has W sp S w){b:Nat}(hb:w.heap.size<=b):Fresh W S b:=
 ⟨Nat.le_trans h.1.size hb,fun i c e=>by have:=h.lt e;omega⟩
section
variable {P:Program} {ops:Array Oper} {md:Region.Mode} {W:World} {sp:Nat->Option (Obj × (Nat->Value))}
def YF(P:Program)(ops:Array Oper)(W:World)(o:Oper)(v:Value)(a:Act):Prop:=
 (Region.wanted o (yielded ops a.tmps)=true/\ ∀w,Ab W w->(execOp a.eval o).run P w=.ok (.value v) w)\/(Region.wanted o (yielded ops a.tmps)=false/\v=undef)
def LayR(P:Program)(w:World)(ob:Obj)(mk:Nat->Value):Result Next->Prop
 | .ok (.value u) w1=> ∃b,u=mk b/\Ab w w1/\w.heap.size<=b/\w1.heap[b]? =some ob
 | .ok (.enter f args) w1=>w1=w/\Calls P f args w (fun e w2=> ∃b,e=.returned (mk b)/\Ab w w2/\w.heap.size<=b/\w2.heap[b]? =some ob)
 | _=>False
def LF(P:Program)(ops:Array Oper)(W:World)(o:Oper)(ob:Obj)(mk:Nat->Value)(a:Act):Prop:=
 Region.wanted o (yielded ops a.tmps)=true/\ ∀w,Ab W w->LayR P w ob mk ((execOp a.eval o).run P w)
theorem YF.same{o:Oper}{v:Value}{a a':Act}(h:YF P ops W o v a)(he:execOp a'.eval o=execOp a.eval o)(hw:Region.wanted o (yielded ops a'.tmps)=Region.wanted o (yielded ops a.tmps)):YF P ops W o v a':=by
 unfold YF at*
 rw[he,hw]
 exact h
theorem LF.same{o:Oper}{ob:Obj}{mk:Nat->Value}{a a':Act}(h:LF P ops W o ob mk a)(he:execOp a'.eval o=execOp a.eval o)(hw:Region.wanted o (yielded ops a'.tmps)=Region.wanted o (yielded ops a.tmps)):LF P ops W o ob mk a':=by
 unfold LF at*
 rw[he,hw]
 exact h
theorem YF.one{o:Oper}{v u:Value}{a:Act}(h:YF P ops W o v a)(k:YF P ops W o u a):v=u:=by
 rcases h with⟨w1,h⟩ | ⟨w1,rfl⟩
 ·rcases k with⟨_,k⟩ | ⟨w2,_⟩
  ·have:=(h W (Ab.refl W)).symm.trans (k W (Ab.refl W))
   injection this with e
   injection e
  ·rw[w1]at w2;cases w2
 ·rcases k with⟨w2,_⟩ | ⟨_,rfl⟩
  ·rw[w1]at w2;cases w2
  ·rfl
def fOp(P:Program)(ops:Array Oper)(W:World)(sp:Nat->Option (Obj × (Nat->Value)))(i:Nat)(K:Act->(Nat->Option Nat)->Prop)(a:Act)(S:Nat->Option Nat):Prop:=
 match ops[i]? with
 | none=>K a S
 | some o=>
  match sp i with
  | none=> ∃v,YF P ops W o v a/\K (a.put o.dst v) S
  | some (ob,mk)=>LF P ops W o ob mk a/\ ∀b,Fresh W S b->K (a.put o.dst (mk b)) (putL S i b)
theorem lS{i:Nat}{K K':Act->(Nat->Option Nat)->Prop}{a:Act}{S:Nat->Option Nat}(h: ∀a S,K a S->K' a S)(hh:fOp P ops W sp i K a S):fOp P ops W sp i K' a S:=by
 unfold fOp at*
 cases ho:ops[i]? with
 | none=>simp only[ho]at hh ⊢;exact h _ _ hh
 | some o=>
  cases hs:sp i with
  | none=>
   simp only[ho,hs]at hh ⊢
   obtain⟨v,h1,h2⟩:=hh
   exact⟨v,h1,h _ _ h2⟩
  | some x=>
   simp only[ho,hs]at hh ⊢
   exact⟨hh.1,fun b hb=>h _ _ (hh.2 b hb)⟩
def wpAnyF(P:Program)(md:Region.Mode)(ops:Array Oper)(W:World)(sp:Nat->Option (Obj × (Nat->Value)))(Q:Act->(Nat->Option Nat)->Prop):Nat->Array Bool->Act->(Nat->Option Nat)->Prop
 | 0,listed,a,S=>Region.ready md ops listed=[]/\Q a S
 | fuel+1,listed,a,S=>
  (Region.ready md ops listed=[]->Q a S)/\
  ∀i ∈ Region.ready md ops listed,fOp P ops W sp i (wpAnyF P md ops W sp Q fuel (listed.setIfInBounds i true)) a S
def Tidy(W:World)(listed:Array Bool)(S:Nat->Option Nat):Prop:=(∀k,listed.getD k true=false->S k=none)/\ ∃n,W.heap.size<=n/\ ∀i c,S i=some c->c<n
theorem Tidy.fresh{listed:Array Bool}{S:Nat->Option Nat}(h:Tidy W listed S): ∃b,Fresh W S b:=by
 obtain⟨_,n,h1,h2⟩:=h
 exact⟨n,h1,fun i c e=>by have:=h2 i c e;omega⟩
theorem Tidy.set{listed:Array Bool}{S:Nat->Option Nat}(h:Tidy W listed S)(j:Nat):Tidy W (listed.setIfInBounds j true) S:=
 ⟨fun k hk=>by
  by_cases e:j=k
  ·subst e
   by_cases l:j<listed.size
   ·simp[l]at hk
   ·exact h.1 j (by rw[Array.setIfInBounds_eq_of_size_le (by omega)]at hk;exact hk)
  ·rw[getD_set_ne true e]at hk;exact h.1 k hk,h.2⟩
theorem Tidy.lay{listed:Array Bool}{S:Nat->Option Nat}(h:Tidy W listed S){j:Nat}(hj:listed.getD j true=false)(b:Nat):Tidy W (listed.setIfInBounds j true) (putL S j b):=by
 obtain⟨h1,n,h2,h3⟩:=h
 refine⟨fun k hk=> ?_,max n (b+1),by omega,fun i c e=> ?_⟩
 ·by_cases e:j=k
  ·subst e
   by_cases l:j<listed.size
   ·simp[l]at hk
   ·simp[l]at hj
  ·rw[getD_set_ne true e]at hk
   unfold putL
   rw[if_neg (Ne.symm e)]
   exact h1 k hk
 ·unfold putL at e
  by_cases q:i=j
  ·rw[if_pos q]at e;injection e with e;omega
  ·rw[if_neg q]at e;have:=h3 i c e;omega
theorem uD{j:Nat}{oi oj:Oper}{v:Value}(hj:ops[j]? =some oj)(hap:oi.apart ops oj=true)(hsi: ∀cs b,oi.op≠ .select cs b)(hsj: ∀cs b,oj.op≠ .select cs b)
  {K:Act->(Nat->Option Nat)->Prop} {a:Act} {S:Nat->Option Nat} (hy:YF P ops W oi v a) (h:fOp P ops W sp j K (a.put oi.dst v) S):
  fOp P ops W sp j (fun a' S'=>YF P ops W oi v a'/\K (a'.put oi.dst v) S') a S:=by
 obtain⟨h1,h2,h3⟩:=Oper.apart_spec hap
 have keep: ∀u,YF P ops W oi v (a.put oj.dst u):=fun u=>hy.same (execOp_put oi hsi a oj.dst u h3) (wanted_put oi a oj.dst u h3)
 unfold fOp at*
 cases hs:sp j with
 | none=>
  simp only[hj,hs]at h ⊢
  obtain⟨u,hu,hk⟩:=h
  exact⟨u,hu.same (execOp_put oj hsj a oi.dst v h1).symm (wanted_put oj a oi.dst v h1).symm,keep u,by rw[<- Act.put_comm a v u h2];exact hk⟩
 | some x=>
  simp only[hj,hs]at h ⊢
  exact⟨h.1.same (execOp_put oj hsj a oi.dst v h1).symm (wanted_put oj a oi.dst v h1).symm,fun b hb=>⟨keep _,by rw[<- Act.put_comm a v _ h2];exact h.2 b hb⟩⟩
theorem uE{i j:Nat}{oi oj:Oper}{ob:Obj}{mk:Nat->Value}(hij:i≠j)(hj:ops[j]? =some oj)(hap:oi.apart ops oj=true)(hsi: ∀cs b,oi.op≠ .select cs b)(hsj: ∀cs b,oj.op≠ .select cs b)
  {K:Act->(Nat->Option Nat)->Prop} {a:Act} {S:Nat->Option Nat} (hf: ∃b,Fresh W S b) (hSj:S j=none) (hy:LF P ops W oi ob mk a) (h: ∀b,Fresh W S b->fOp P ops W sp j K (a.put oi.dst (mk b)) (putL S i b)):
  fOp P ops W sp j (fun a' S'=>LF P ops W oi ob mk a'/\ ∀b,Fresh W S' b->K (a'.put oi.dst (mk b)) (putL S' i b)) a S:=by
 obtain⟨h1,h2,h3⟩:=Oper.apart_spec hap
 have keep: ∀u,LF P ops W oi ob mk (a.put oj.dst u):=fun u=>hy.same (execOp_put oi hsi a oj.dst u h3) (wanted_put oi a oj.dst u h3)
 obtain⟨b0,hb0⟩:=hf
 unfold fOp at*
 cases hs:sp j with
 | none=>
  simp only[hj,hs]at h ⊢
  obtain⟨u,hu,_⟩:=h b0 hb0
  have hu':YF P ops W oj u a:=hu.same (execOp_put oj hsj a oi.dst _ h1).symm (wanted_put oj a oi.dst _ h1).symm
  refine⟨u,hu',keep u,fun b hb=> ?_⟩
  obtain⟨u2,hu2,hk⟩:=h b hb
  have e:u2=u:=YF.one (hu2.same (execOp_put oj hsj a oi.dst _ h1).symm (wanted_put oj a oi.dst _ h1).symm) hu'
  subst e
  rw[<- Act.put_comm a (mk b) u2 h2]
  exact hk
 | some x=>
  simp only[hj,hs]at h ⊢
  refine⟨(h b0 hb0).1.same (execOp_put oj hsj a oi.dst _ h1).symm (wanted_put oj a oi.dst _ h1).symm,fun c hc=>⟨keep _,fun b hb=> ?_⟩⟩
  obtain⟨q1,q2⟩:=hb.of_put hSj
  have:=(h b q1).2 c (hc.put (Ne.symm q2))
  rw[qO S b c hij,Act.put_comm a (mk b) _ h2]at this
  exact this
theorem firstY{Q:Act->(Nat->Option Nat)->Prop}{i:Nat}{oi:Oper}{v:Value}(hi:ops[i]? =some oi)(hsp:sp i=none)(hsel: ∀(j:Nat) (o:Oper) cs b,ops[j]? =some o->o.op≠ .select cs b):
  ∀(fuel:Nat) (listed:Array Bool) (a:Act) (S:Nat->Option Nat),
   (∀j oj,ops[j]? =some oj->j≠i->listed.getD j true=false->(∀e ∈ oj.after,Region.binds md e=true->e.on≠i)->oi.apart ops oj=true)->
   i ∈ Region.ready md ops listed->YF P ops W oi v a->
   wpAnyF P md ops W sp Q fuel (listed.setIfInBounds i true) (a.put oi.dst v) S->wpAnyF P md ops W sp Q (fuel+1) listed a S:=by
 have go: ∀(K:Act->(Nat->Option Nat)->Prop) (a:Act) (S:Nat->Option Nat),YF P ops W oi v a->K (a.put oi.dst v) S->fOp P ops W sp i K a S:=fun K a S hy h=>by
  unfold fOp;simp only[hi,hsp];exact⟨v,hy,h⟩
 intro fuel
 induction fuel with
 | zero=>
  intro listed a S _ hr hy H
  refine⟨fun h=>(by rw[h]at hr;cases hr),fun j hj=> ?_⟩
  by_cases hji:j=i
  ·subst hji;exact go _ _ _ hy H
  ·have:=ready_mono hj hji
   rw[H.1]at this
   cases this
 | succ fuel ih=>
  intro listed a S hfree hr hy H
  refine⟨fun h=>(by rw[h]at hr;cases hr),fun j hj=> ?_⟩
  by_cases hji:j=i
  ·subst hji;exact go _ _ _ hy H
  ·have h1:=H.2 j (ready_mono hj hji)
   obtain⟨hjun,oj,hoj,hall⟩:=mem_ready.1 hj
   have hnot: ∀e ∈ oj.after,Region.binds md e=true->e.on≠i:=fun e he hb heq=>by
    have h1:=hall e he hb
    have h0:=(mem_ready.1 hr).1
    rw[heq]at h1
    rcases Nat.lt_or_ge i listed.size with h' | h'
    ·simp[h']at h0 h1;rw[h0]at h1;cases h1
    ·simp[Array.getElem?_eq_none h']at h1
   have h2:=uD hoj (hfree j oj hoj hji hjun hnot) (fun cs b=>hsel i oi cs b hi) (fun cs b=>hsel j oj cs b hoj) hy h1
   have hfree': ∀k ok,ops[k]? =some ok->k≠i->(listed.setIfInBounds j true).getD k true=false->
     (∀e ∈ ok.after,Region.binds md e=true->e.on≠i)->oi.apart ops ok=true:=fun k ok hk hki hun hno=>by
    refine hfree k ok hk hki ?_ hno
    by_cases hjk:j=k
    ·subst hjk;exact hjun
    ·rw[getD_set_ne true hjk]at hun;exact hun
   refine lS (fun a' S' h3=>ih (listed.setIfInBounds j true) a' S' hfree' (ready_mono hr (Ne.symm hji)) h3.1 ?_) h2
   rw[Array.setIfInBounds_comm _ _ hji]
   exact h3.2
theorem firstL{Q:Act->(Nat->Option Nat)->Prop}{i:Nat}{oi:Oper}{ob:Obj}{mk:Nat->Value}(hi:ops[i]? =some oi)(hsp:sp i=some (ob,mk))(hsel: ∀(j:Nat) (o:Oper) cs b,ops[j]? =some o->o.op≠ .select cs b):
  ∀(fuel:Nat) (listed:Array Bool) (a:Act) (S:Nat->Option Nat),Tidy W listed S->
   (∀j oj,ops[j]? =some oj->j≠i->listed.getD j true=false->(∀e ∈ oj.after,Region.binds md e=true->e.on≠i)->oi.apart ops oj=true)->
   i ∈ Region.ready md ops listed->LF P ops W oi ob mk a->
   (∀b,Fresh W S b->wpAnyF P md ops W sp Q fuel (listed.setIfInBounds i true) (a.put oi.dst (mk b)) (putL S i b))->wpAnyF P md ops W sp Q (fuel+1) listed a S:=by
 have go: ∀(K:Act->(Nat->Option Nat)->Prop) (a:Act) (S:Nat->Option Nat),LF P ops W oi ob mk a->(∀b,Fresh W S b->K (a.put oi.dst (mk b)) (putL S i b))->fOp P ops W sp i K a S:=fun K a S hy h=>by
  unfold fOp;simp only[hi,hsp];exact⟨hy,h⟩
 intro fuel
 induction fuel with
 | zero=>
  intro listed a S ty _ hr hy H
  refine⟨fun h=>(by rw[h]at hr;cases hr),fun j hj=> ?_⟩
  by_cases hji:j=i
  ·subst hji;exact go _ _ _ hy H
  ·obtain⟨b,hb⟩:=ty.fresh
   have:=ready_mono hj hji
   rw[(H b hb).1]at this
   cases this
 | succ fuel ih=>
  intro listed a S ty hfree hr hy H
  refine⟨fun h=>(by rw[h]at hr;cases hr),fun j hj=> ?_⟩
  by_cases hji:j=i
  ·subst hji;exact go _ _ _ hy H
  ·have h1:=fun b hb=>(H b hb).2 j (ready_mono hj hji)
   obtain⟨hjun,oj,hoj,hall⟩:=mem_ready.1 hj
   have hnot: ∀e ∈ oj.after,Region.binds md e=true->e.on≠i:=fun e he hb heq=>by
    have h1:=hall e he hb
    have h0:=(mem_ready.1 hr).1
    rw[heq]at h1
    rcases Nat.lt_or_ge i listed.size with h' | h'
    ·simp[h']at h0 h1;rw[h0]at h1;cases h1
    ·simp[Array.getElem?_eq_none h']at h1
   have hap:=hfree j oj hoj hji hjun hnot
   have hfree': ∀k ok,ops[k]? =some ok->k≠i->(listed.setIfInBounds j true).getD k true=false->
     (∀e ∈ ok.after,Region.binds md e=true->e.on≠i)->oi.apart ops ok=true:=fun k ok hk hki hun hno=>by
    refine hfree k ok hk hki ?_ hno
    by_cases hjk:j=k
    ·subst hjk;exact hjun
    ·rw[getD_set_ne true hjk]at hun;exact hun
   have h2:=uE (Ne.symm hji) hoj hap (fun cs b=>hsel i oi cs b hi) (fun cs b=>hsel j oj cs b hoj) ty.fresh (ty.1 j hjun) hy h1
   -- what j leaves is tidy
   have h4:fOp P ops W sp j (fun a' S'=>Tidy W (listed.setIfInBounds j true) S'/\LF P ops W oi ob mk a'/\ ∀b,Fresh W S' b->wpAnyF P md ops W sp Q fuel ((listed.setIfInBounds i true).setIfInBounds j true) (a'.put oi.dst (mk b)) (putL S' i b)) a S:=by
    unfold fOp at h2 ⊢
    cases hs:sp j with
    | none=>
     simp only[hoj,hs]at h2 ⊢
     obtain⟨u,hu,hk⟩:=h2
     exact⟨u,hu,ty.set j,hk⟩
    | some x=>
     simp only[hoj,hs]at h2 ⊢
     exact⟨h2.1,fun b hb=>⟨ty.lay hjun b,h2.2 b hb⟩⟩
   refine lS (fun a' S' h3=>ih (listed.setIfInBounds j true) a' S' h3.1 hfree' (ready_mono hr (Ne.symm hji)) h3.2.1 (fun b hb=> ?_)) h4
   rw[Array.setIfInBounds_comm _ _ hji]
   exact h3.2.2 b hb
def wpFree(P:Program)(ops:Array Oper)(W:World)(sp:Nat->Option (Obj × (Nat->Value)))(Q:Act->(Nat->Option Nat)->Prop):List Oper->Nat->Act->(Nat->Option Nat)->Prop
 | [],_,a,S=>Q a S
 | o :: rest,k,a,S=>
  match sp k with
  | none=> ∃v,YF P ops W o v a/\wpFree P ops W sp Q rest (k+1) (a.put o.dst v) S
  | some (ob,mk)=>LF P ops W o ob mk a/\ ∀b,Fresh W S b->wpFree P ops W sp Q rest (k+1) (a.put o.dst (mk b)) (putL S k b)
theorem fG{Q:Act->(Nat->Option Nat)->Prop}(hs:Region.noSelect ops=true): ∀(l:List Oper) (k:Nat) (listed:Array Bool) (a:Act) (S:Nat->Option Nat),(∀j,l[j]? =ops[k+j]?)->Tidy W listed S->
  Region.lexFrom md ops l.length k listed=true->wpFree P ops W sp Q l k a S->wpAnyF P md ops W sp Q l.length listed a S
 | [],_,_,_,_,_,_,hB,h=>⟨by simpa [Region.lexFrom]using hB,h⟩
 | o :: l,k,listed,a,S,hl,ty,hB,h=>by
  have h0:ops[k]? =some o:=by simpa using(hl 0).symm
  simp only[List.length_cons,Region.lexFrom,Bool.and_eq_true]at hB
  obtain⟨⟨hr,hf⟩,hB'⟩:=hB
  have hr':k ∈ Region.ready md ops listed:=by simpa using hr
  have hl': ∀j,l[j]? =ops[k+1+j]? :=fun j=>by have:=hl (j+1);simpa [Nat.add_assoc,Nat.add_comm 1 j]using this
  cases hsp:sp k with
  | none=>
   simp only[wpFree,hsp]at h
   obtain⟨v,hy,hK⟩:=h
   exact firstY h0 hsp (Region.noSelect_spec hs) l.length listed a S (Region.free_spec h0 hf) hr' hy
    (fG hs l (k+1) _ _ _ hl' (ty.set k) hB' hK)
  | some x=>
   obtain⟨ob,mk⟩:=x
   simp only[wpFree,hsp]at h
   exact firstL h0 hsp (Region.noSelect_spec hs) l.length listed a S ty (Region.free_spec h0 hf) hr' h.1
    (fun b hb=>fG hs l (k+1) _ _ _ hl' (ty.lay (mem_ready.1 hr').1 b) hB' (h.2 b hb))
theorem lU{i:Nat}{a:Act}{S:Nat->Option Nat}{K:Act->(Nat->Option Nat)->Prop}{K':Act->World->Prop}{Q':Exit->Act->World->Prop}{w:World}(hC:Has W sp S w)(h: ∀a S w',Has W sp S w'->K a S->K' a w')(hh:fOp P ops W sp i K a S):wpOp P ops Q' i K' a w:=by
 unfold fOp at hh
 unfold wpOp
 cases ho:ops[i]? with
 | none=>simp only[ho]at hh ⊢;exact h _ _ _ hC hh
 | some o=>
  cases hs:sp i with
  | none=>
   simp only[ho,hs]at hh ⊢
   obtain⟨v,hy,hk⟩:=hh
   rcases hy with⟨w1,hv⟩ | ⟨w1,rfl⟩
   ·rw[if_pos w1]
    refine .inl ?_
    unfold Oper.wp
    rw[hv w hC.1]
    exact h _ _ _ hC hk
   ·rw[if_neg (by rw[w1];exact Bool.false_ne_true)]
    exact h _ _ _ hC hk
  | some x=>
   obtain⟨ob,mk⟩:=x
   simp only[ho,hs]at hh ⊢
   obtain⟨⟨w1,hv⟩,hk⟩:=hh
   rw[if_pos w1]
   refine .inl ?_
   unfold Oper.wp
   have q:=hv w hC.1
   generalize(execOp a.eval o).run P w=r at q
   match r,q with
   | .ok (.value u) w2,⟨b,hu,ha,hb,ho2⟩=>
    subst hu
    exact h _ _ _ (hC.lay hs ha hb ho2) (hk b (hC.freshb hb))
   | .ok (.enter f args) w2,⟨e,hc⟩=>
    subst e
    refine Calls.mono hc ?_
    rintro e2 w3 ⟨b,rfl,ha,hb,ho2⟩
    exact h _ _ _ (hC.lay hs ha hb ho2) (hk b (hC.freshb hb))
end
theorem uF{P:Program}{md:Region.Mode}{ops hd:Array Oper}{W:World}{sp:Nat->Option (Obj × (Nat->Value))}{n:Nat}(hhd: ∀i,i<n->hd[i]? =ops[i]?)(hb:backB md ops n=true){i:Nat}(hi:i<n){K:Act->(Nat->Option Nat)->Prop}{a:Act}{S:Nat->Option Nat}(h:fOp P hd W sp i K a S):fOp P ops W sp i K a S:=by
 unfold fOp at*
 rw[hhd i hi]at h
 cases ho:ops[i]? with
 | none=>rw[ho]at h;exact h
 | some o=>
  have e:Region.wanted o (yielded hd a.tmps)=Region.wanted o (yielded ops a.tmps):=by
   unfold Region.wanted
   cases hg:o.guard with
   | none=>rfl
   | some jb=>
    obtain⟨j,b⟩:=jb
    have lt:=(jT hb hi ho).2 j b hg
    show(yielded hd a.tmps j==some b)=(yielded ops a.tmps j==some b)
    unfold yielded
    rw[hhd j lt]
  simp only[ho]at h ⊢
  cases hs:sp i with
  | none=>
   simp only[hs]at h ⊢
   unfold YF at*
   rw[e]at h
   exact h
  | some x=>
   simp only[hs]at h ⊢
   unfold LF at*
   rw[e]at h
   exact h
theorem iM{P:Program}{md:Region.Mode}{ops hd:Array Oper}{W:World}{sp:Nat->Option (Obj × (Nat->Value))}{n:Nat}{g:Nat}{Q1:Act->(Nat->Option Nat)->Prop}{Q':Exit->Act->World->Prop}(hhd: ∀i,i<n->hd[i]? =ops[i]?)(hsz:hd.size=n)(hn:n<ops.size)(hb:backB md ops n=true)(hs:Region.sinkB md ops n=true)(hc:Region.chainB md ops n=true)
  (hL: ∀a S w,Has W sp S w->Q1 a S->wpAny P md ops Q' g (finA ops.size n) a w):
  ∀(fuel:Nat) (listed lh:Array Bool) (a:Act) (S:Nat->Option Nat) (w:World),Has W sp S w->HeadInv md ops n listed->lh.size=n->(∀i,i<n->lh.getD i true=listed.getD i true)->
   wpAnyF P md hd W sp Q1 fuel lh a S->wpAny P md ops Q' (fuel+g) listed a w:=by
 intro fuel
 induction fuel with
 | zero=>
  intro listed lh a S w hC inv hl he h
  have hls:n<=listed.size:=by rw[inv.size];omega
  rcases fE (by omega) hb hls with all | ⟨i,hi,hr⟩
  ·rw[Nat.zero_add,qE hn inv all]
   exact hL a S w hC h.2
  ·have:=(gA hhd hb hl hls he hi).2 hr
   rw[h.1]at this
   cases this
 | succ fuel ih=>
  intro listed lh a S w hC inv hl he h
  have hls:n<=listed.size:=by rw[inv.size];omega
  rcases fE (by omega) hb hls with all | ⟨i0,hi0,hr0⟩
  ·have no:Region.ready md hd lh=[]:=by
    rw[List.eq_nil_iff_forall_not_mem]
    intro i hi
    obtain⟨u,o,ho,_⟩:=mem_ready.1 hi
    have lt:i<n:=by rw[<- hsz];exact(Array.getElem?_eq_some_iff.1 ho).1
    rw[he i lt,all i lt]at u
    cases u
   rw[Nat.add_comm (fuel+1) g,qE hn inv all]
   exact kG g (fuel+1) _ a w (hL a S w hC (h.1 no))
  ·rw[show fuel+1+g=(fuel+g)+1 by omega]
   refine⟨fun h0=>(by rw[h0]at hr0;cases hr0),fun i hi=> ?_⟩
   have lt:i<n:=by
    by_cases c:i<n
    ·exact c
    ·exact absurd hi (tail_waits hs hc hn inv _ i0 rfl hi0 (mem_ready.1 hr0).1 i (by omega))
   have hq:=uF hhd hb lt (h.2 i ((gA hhd hb hl hls he lt).2 hi))
   refine lU hC (fun a' S' w' hC' h'=>ih _ _ a' S' w' hC' (inv.set hi lt) (by simp[hl]) (fun j hj=> ?_) h') hq
   by_cases e:i=j
   ·subst e
    simp[hl,lt,show i<listed.size by omega]
   ·rw[getD_set_ne true e,getD_set_ne true e,he j hj]
theorem iV{P:Program}{id:Nat}{Q:Exit->Act->World->Prop}{a:Act}{w:World}{l:List Oper}(n:Nat)(sp:Nat->Option (Obj × (Nat->Value)))(hm:P.follows .mixedOrders=true)(hB:Region.lexB .any (l.take n).toArray=true)(hT:tailB l.toArray n=true)
  (h:wpFree P (l.take n).toArray w.drew sp (fun a' S=> ∀w',Has w.drew sp S w'->wpList P l.toArray Q (l.drop n) a' w') (l.take n) 0 a (fun _=>none)):(Code.region id l.toArray true).wp P Q a w:=by
 simp only[tailB,Bool.and_eq_true,decide_eq_true_eq]at hT
 obtain⟨⟨⟨⟨hn,hb⟩,hs⟩,hc⟩,hq⟩:=hT
 have hn':n<l.length:=by simpa using hn
 have htl:(l.take n).toArray.size=n:=by simp;omega
 have hdl:(l.drop n).length=l.toArray.size - n:=by simp
 refine wp_region_any hm ?_
 simp only[Region.lexB,Bool.and_eq_true]at hB
 have H:=fG (P:=P) (W:=w.drew) (sp:=sp) (md:=.any) hB.1 (l.take n) 0 (Array.replicate (l.take n).toArray.size false) a (fun _=>none) (by simp) ⟨fun _ _=>rfl,w.drew.heap.size,Nat.le_refl _,fun i c e=>by cases e⟩ (by simpa using hB.2) h
 have inv0:HeadInv .any l.toArray n (Array.replicate l.toArray.size false):=
  ⟨by simp,fun j oj _ hl=>(by rw[getD_replicate_false]at hl;cases hl),fun t _ ht=>getD_in (by simpa using ht) (getD_replicate_false _ _)⟩
 have:=iM (P:=P) (Q':=Q) (g:=l.toArray.size - n) (hd:=(l.take n).toArray) (ops:=l.toArray) (fun i hi=>by simp[hi]) htl hn hb hs hc
  (fun a' S' w' hC' h'=>by
   have:=wpAny_of_seq (P:=P) (md:=.any) (ops:=l.toArray) (Q':=Q) (l.drop n) n (finA l.toArray.size n) a' w' (fun j=>by simp) (by rw[hdl];exact hq) (h' w' hC')
   rwa [hdl]at this)
  (l.take n).length _ _ a (fun _=>none) w.drew ⟨Ab.refl _,fun i b e=>by cases e⟩ inv0 (by simpa using htl) (fun i hi=>by
   rw[getD_in (listed:=Array.replicate l.toArray.size false) (by simp;omega) (getD_replicate_false _ _)]
   exact getD_in (by rw[Array.size_replicate];omega) (getD_replicate_false _ _)) H
 have e:(l.take n).length+(l.toArray.size - n)=l.toArray.size:=by simp;omega
 rw[e]at this
 exact this
section
variable {P:Program} {ops:Array Oper} {W:World} {sp:Nat->Option (Obj × (Nat->Value))} {Q:Act->(Nat->Option Nat)->Prop} {o:Oper} {rest:List Oper} {k:Nat} {a:Act} {S:Nat->Option Nat}
theorem bK{U:Type}{F:U->World}(HF:Hid (∀w',Ab W w'-> ∃u,w'=F u))(hs:sp k=none)(hp:plainB o.op=true)(h:wpQuiet P ops (fun w'=> ∃u,w'=F u) (fun a'=>wpFree P ops W sp Q rest (k+1) a' S) [o] a):wpFree P ops W sp Q (o :: rest) k a S:=by
 simp only[wpFree,hs]
 simp only[wpQuiet]at h
 by_cases c:Region.wanted o (yielded ops a.tmps)=true
 ·rw[if_pos c]at h
  obtain⟨v,h1,h2⟩:=h
  refine⟨v,.inl ⟨c,fun w hw=> ?_⟩,h2⟩
  have q:=h1 w (HF.out w hw)
  unfold Oper.quietAt at q
  cases e:(execOp a.eval o).run P w with
  | ok n w'=>
   obtain⟨x,rfl⟩:=rC hp e
   rw[e]at q
   obtain⟨q1,q2⟩:=q
   rw[q1,q2]
  | halt x w'=>rw[e]at q;exact absurd q (by simp[Oper.quietUpon])
 ·rw[if_neg c]at h
  exact⟨undef,.inr ⟨by simpa using c,rfl⟩,h⟩
theorem cX{ob:Obj}{mk:Nat->Value}(hs:sp k=some (ob,mk))(hw:Region.wanted o (yielded ops a.tmps)=true)(hr: ∀w,Ab W w->LayR P w ob mk ((execOp a.eval o).run P w))
  (h: ∀b,Fresh W S b->wpFree P ops W sp Q rest (k+1) (a.put o.dst (mk b)) (putL S k b)):wpFree P ops W sp Q (o :: rest) k a S:=by
 simp only[wpFree,hs]
 exact⟨⟨hw,hr⟩,h⟩
theorem kP{ob:Obj}{mk:Nat->Value}(h: ∀w,Ab W w->(execOp a.eval o).run P w=.ok (.value (mk w.heap.size)) (w.alloc ob)): ∀w,Ab W w->LayR P w ob mk ((execOp a.eval o).run P w):=fun w hw=>by
 rw[h w hw]
 exact⟨w.heap.size,rfl,bl1 _ _,Nat.le_refl _,heap_alloc_new _ _⟩
theorem kQ(h:Q a S):wpFree P ops W sp Q [] k a S:=h
end
theorem Has.at{W:World}{sp:Nat->Option (Obj × (Nat->Value))}{S:Nat->Option Nat}{w:World}(h:Has W sp S w){i b:Nat}{ob:Obj}{mk:Nat->Value}(e:S i=some b)(s:sp i=some (ob,mk)):w.heap[b]? =some ob/\W.heap.size<=b:=by
 obtain⟨h1,o,m,h2,h3⟩:=h.2 i b e
 rw[s]at h2
 injection h2 with h2
 injection h2 with h2
 subst h2
 exact⟨h3,h1⟩
end Cf
end
section
open Go.RowKit Go.Deep
namespace Rn
open Sh
def f4(r:Int × Int × Int × Int)(j:Nat):Int:=if j=0 then r.1 else if j=1 then r.2.1 else if j=2 then r.2.2.1 else r.2.2.2
end Rn
end
section
open Go.RowKit Tf Cu Go.Deep
attribute [local go_sem] aL aM aV aW aX aY aZ aG
namespace Ss
theorem jU{P:Program}{a:Act}{o:Oper}{x:Operand}{f:FuncId}{fn:Func}{ats:Array TypeId}{v:Value}(ho:o.op=.call {callee:=.value (.func f),args:= #[x],argTypes:=ats})(hx:a.eval x=v)(hf:P.funcs[f]? =some fn)(hn:(fn.name== "runtime.NumGoroutine")=false)(hb:fn.body.isNone=false)(w:World):(execOp a.eval o).run P w=.ok (.enter f #[v]) w:=by
 have h1:fn.name≠ "runtime.NumGoroutine" :=by simpa using hn
 have ef:a.eval (.func f)=.func (.func f) #[] #[]:=rfl
 have e:execOp a.eval o=callFunc f #[v]:=by
  unfold execOp
  simp[ho,resolve,Deferred.ofValue,invoke,ef,hx]
 obtain⟨c,hc⟩: ∃c,fn.body=some c:=by
  cases h:fn.body with
  | none=>simp[h]at hb
  | some c=>exact⟨c,rfl⟩
 rw[e]
 simp[callFunc,hf,h1,hc]
end Ss
end
section
open Go.RowKit Tf Cu Go.Deep
attribute [local go_sem] aL aM aV aW aX aY aZ aG
namespace Ss
def SeaIn(M g:Nat)(p1:Option Addr)(c1:Nat)(p2:Option Addr)(c2:Nat)(p3:Option Addr)(c3:Nat)(p4:Option Addr)(c4:Nat)(n1 n2 n3 n4:Nat)(A:Nat->Nat)(B C:Nat->Int)(D:Nat->Nat)(sk st:Int)(v:World):Prop:=
 v.heap[g]? =some (.cells #[.slice p1 n1 c1,.slice p2 n2 c2,.slice p3 n3 c3,.slice p4 n4 c4,.int .i64 sk,.int .i64 st] 29)/\(IsFl v p1 n1 A/\Sh.IsI v p2 n2 B/\Sh.IsI v p3 n3 C/\IsFl v p4 n4 D)/\(OV 22 M (.slice p1 n1 c1) (((List.range n1).map A).map (Value.float .f64)) v/\OV 2 M (.slice p2 n2 c2) (((List.range n2).map B).map (Value.int .i64)) v/\OV 2 M (.slice p3 n3 c3) (((List.range n3).map C).map (Value.int .i64)) v/\OV 22 M (.slice p4 n4 c4) (((List.range n4).map D).map (Value.float .f64)) v)/\(∀k,((Value.slice p1 n1 c1).ownBlock=some k\/(Value.slice p2 n2 c2).ownBlock=some k\/(Value.slice p3 n3 c3).ownBlock=some k\/(Value.slice p4 n4 c4).ownBlock=some k)->k<g)/\(Dj (.slice p1 n1 c1) (.slice p2 n2 c2)/\Dj (.slice p1 n1 c1) (.slice p3 n3 c3)/\Dj (.slice p1 n1 c1) (.slice p4 n4 c4)/\Dj (.slice p2 n2 c2) (.slice p3 n3 c3)/\Dj (.slice p2 n2 c2) (.slice p4 n4 c4)/\Dj (.slice p3 n3 c3) (.slice p4 n4 c4))
def Bnd(n1 n2 n3 n4:Nat)(A:Nat->Nat)(B C:Nat->Int)(D:Nat->Nat):Prop:=(∀i,i<n1->A i<18446744073709551616)/\(∀i,i<n2->Sh.W64 (B i))/\(∀i,i<n3->Sh.W64 (C i))/\(∀i,i<n4->D i<18446744073709551616)
theorem pA{M:Nat}{vv:Value}{n1 n2 n3 n4:Nat}{A:Nat->Nat}{B C:Nat->Int}{D:Nat->Nat}{sk st:Int}{u:World}(h:OwnS M vv n1 n2 n3 n4 A B C D sk st u)(hb:Bnd n1 n2 n3 n4 A B C D):
  ∃p1 c1 p2 c2 p3 c3 p4 c4,vv=.agg #[.slice p1 n1 c1,.slice p2 n2 c2,.slice p3 n3 c3,.slice p4 n4 c4,.int .i64 sk,.int .i64 st]/\SeaIn M u.heap.size p1 c1 p2 c2 p3 c3 p4 c4 n1 n2 n3 n4 A B C D sk st (u.alloc (.cells #[.slice p1 n1 c1,.slice p2 n2 c2,.slice p3 n3 c3,.slice p4 n4 c4,.int .i64 sk,.int .i64 st] 29)):=by
 obtain⟨p1,c1,p2,c2,p3,c3,p4,c4,e,⟨i1,i2,i3,i4⟩,⟨o1,o2,o3,o4⟩,dj⟩:=zO h hb.1 hb.2.1 hb.2.2.1 hb.2.2.2
 have a: ∀o,Ab u (u.alloc o):=fun o=>bl1 _ _
 exact⟨p1,c1,p2,c2,p3,c3,p4,c4,e,heap_alloc_new _ _,⟨i1.below (a _),i2.below (a _),i3.below (a _),i4.below (a _)⟩,⟨o1.to (a _),o2.to (a _),o3.to (a _),o4.to (a _)⟩,fun k q=>by
  rcases q with q | q | q | q
  ·exact(o1.blk q).2
  ·exact(o2.blk q).2
  ·exact(o3.blk q).2
  ·exact(o4.blk q).2,dj⟩
theorem tuE_ok{side:Int}{lb lw lt ls:Nat}{B:Nat->Nat}{W T:Nat->Int}{S:Nat->Nat}{sky st turn:Int}(h:tuE side lb lw lt ls B W T S sky st turn=0):(1<=side/\side<=32)/\(lb=6*side.toNat*side.toNat/\lw=6*side.toNat*side.toNat/\lt=6*side.toNat*side.toNat/\ls=2*(6*side.toNat*side.toNat))/\okN (6*side.toNat*side.toNat) B W T S sky st:=by
 have c:(chk side lb lw lt ls B W T S sky st).2=0:=by
  unfold tuE at h
  by_cases q:(chk side lb lw lt ls B W T S sky st).2=0
  ·exact q
  ·rw[if_pos q]at h
   exact absurd h q
 unfold chk at c
 by_cases q:1<=side/\side<=32
 ·rw[if_pos q]at c
  obtain⟨a,b⟩:=chN_ok.1 c
  exact⟨q,a,b⟩
 ·rw[if_neg q]at c
  exact absurd c (by decide)
theorem uG{side:Int}{lb lw lt ls:Nat}{B:Nat->Nat}{W T:Nat->Int}{S:Nat->Nat}{sky st:Int}(h1:1<=side/\side<=32)(hl:lb=6*side.toNat*side.toNat/\lw=6*side.toNat*side.toNat/\lt=6*side.toNat*side.toNat/\ls=2*(6*side.toNat*side.toNat))(h:okN (6*side.toNat*side.toNat) B W T S sky st):chk side lb lw lt ls B W T S sky st=(0,0):=by
 unfold chk
 rw[if_pos h1]
 exact chN_zero ⟨hl,h⟩
theorem BJ{side:Int}{lb lw lt ls:Nat}{B:Nat->Nat}{W T:Nat->Int}{S:Nat->Nat}{sky st:Int}{t:Nat}(ht:t<24)(h:(chk side lb lw lt ls B W T S sky st).2=0):tuE side lb lw lt ls B W T S sky st (t:Nat)=0:=by
 unfold tuE
 rw[if_neg (by omega),if_pos (by omega)]
end Ss
end
section
open Go.RowKit Tf Cu Go.Deep
namespace St
open Ss Fc
def erS(n:Nat)(sd:Int)(dt gr dr:Nat)(lim:Int)(lr:Nat)(R:Nat->Int × Int × Int × Int)(lb lw lt ls:Nat)(B:Nat->Nat)(W T:Nat->Int)(S:Nat->Nat)(sky st:Int):Int:=
 if sd≠(n:Int)then 1 else if plE sd dt gr dr lim lr R≠0 then plE sd dt gr dr lim lr R else(chk sd lb lw lt ls B W T S sky st).2
def OneB(rv:Bool):Prop:= ∀(n gb:Nat) (sd:Int) (dt gr dr:Nat) (lim:Int) (pr:Option Addr) (lr cr:Nat) (R:Nat->Int × Int × Int × Int) (pb:Option Addr) (lb cb:Nat) (B:Nat->Nat) (pw:Option Addr) (lw cw:Nat) (W:Nat->Int) (pt:Option Addr) (lt ct:Nat) (T:Nat->Int) (ps:Option Addr) (ls cs:Nat) (S:Nat->Nat) (sky st:Int) (w:World),(1<=n/\n<=32)->GridOf n gb w->Fr w->(Sh.W64 sd/\Sh.W64 lim/\Sh.W64 sky/\Sh.W64 st)->(dt<18446744073709551616/\gr<18446744073709551616/\dr<18446744073709551616)->lr<=281474976710656->(lb<=281474976710656/\lw<=281474976710656/\lt<=281474976710656/\ls<=281474976710656)->Rn.IsRn w pr lr R->IsFl w pb lb B->Sh.IsI w pw lw W->Sh.IsI w pt lt T->IsFl w ps ls S->
 ((erS n sd dt gr dr lim lr R lb lw lt ls B W T S sky st)=0->Calls prog 14 #[.pointer (some ⟨gb,0,none⟩),.agg #[.int .i64 sd,.float .f64 dt,.float .f64 gr,.float .f64 dr,.int .i64 lim,.bool rv,.slice pr lr cr],.agg #[.slice pb lb cb,.slice pw lw cw,.slice pt lt ct,.slice ps ls cs,.int .i64 sky,.int .i64 st]] w fun e w'=> ∃v,e=.returned (.tuple #[v,.int .i64 0])/\Below w.heap.size w w'/\OwnS w.heap.size v lb lw lt ls B (riX n lim gr dt dr rv lr R B W T S sky st).1 (riX n lim gr dt dr rv lr R B W T S sky st).2 (spE n gr dt dr B W S) (raX n lim gr dt dr lr R B W S sky st).2 (stN st) w')/\
 ((erS n sd dt gr dr lim lr R lb lw lt ls B W T S sky st)≠0->Calls prog 14 #[.pointer (some ⟨gb,0,none⟩),.agg #[.int .i64 sd,.float .f64 dt,.float .f64 gr,.float .f64 dr,.int .i64 lim,.bool rv,.slice pr lr cr],.agg #[.slice pb lb cb,.slice pw lw cw,.slice pt lt ct,.slice ps ls cs,.int .i64 sky,.int .i64 st]] w fun e w'=>e=.returned (.tuple #[.agg #[.slice none 0 0,.slice none 0 0,.slice none 0 0,.slice none 0 0,.int .i64 0,.int .i64 0],.int .i64 (erS n sd dt gr dr lim lr R lb lw lt ls B W T S sky st)])/\Below w.heap.size w w')
def OneF:Prop:=OneB false
def FlowC:Prop:= ∀(n gb:Nat) (sd:Int) (dt gr dr:Nat) (lim:Int) (rv:Bool) (pr:Option Addr) (lr cr:Nat) (R:Nat->Int × Int × Int × Int) (pb:Option Addr) (lb cb:Nat) (B:Nat->Nat) (pw:Option Addr) (lw cw:Nat) (W:Nat->Int) (pt:Option Addr) (lt ct:Nat) (T:Nat->Int) (ps:Option Addr) (ls cs:Nat) (S:Nat->Nat) (sky st:Int) (w:World),(1<=n/\n<=32)->GridOf n gb w->Fr w->(Sh.W64 sd/\Sh.W64 lim/\Sh.W64 sky/\Sh.W64 st)->(dt<18446744073709551616/\gr<18446744073709551616/\dr<18446744073709551616)->lr<=281474976710656->(lb<=281474976710656/\lw<=281474976710656/\lt<=281474976710656/\ls<=281474976710656)->Rn.IsRn w pr lr R->IsFl w pb lb B->Sh.IsI w pw lw W->Sh.IsI w pt lt T->IsFl w ps ls S->
 ((erS n sd dt gr dr lim lr R lb lw lt ls B W T S sky st)=0->Calls prog 17 #[.pointer (some ⟨gb,0,none⟩),.agg #[.int .i64 sd,.float .f64 dt,.float .f64 gr,.float .f64 dr,.int .i64 lim,.bool rv,.slice pr lr cr],.agg #[.slice pb lb cb,.slice pw lw cw,.slice pt lt ct,.slice ps ls cs,.int .i64 sky,.int .i64 st]] w fun e w'=> ∃v1 v2,e=.returned (.tuple #[.agg #[v1,v2],.int .i64 0])/\Below w.heap.size w w'/\Sh.Own w.heap.size v1 ((List.range (12*n*n)).map (waF n lim gr dt dr B W S)) w'/\Sh.Own w.heap.size v2 ((List.range (12*n*n)).map (trF n lim gr dt dr B W T S)) w'/\Dj v1 v2)/\
 ((erS n sd dt gr dr lim lr R lb lw lt ls B W T S sky st)≠0->Calls prog 17 #[.pointer (some ⟨gb,0,none⟩),.agg #[.int .i64 sd,.float .f64 dt,.float .f64 gr,.float .f64 dr,.int .i64 lim,.bool rv,.slice pr lr cr],.agg #[.slice pb lb cb,.slice pw lw cw,.slice pt lt ct,.slice ps ls cs,.int .i64 sky,.int .i64 st]] w fun e w'=>e=.returned (.tuple #[.agg #[.slice none 0 0,.slice none 0 0],.int .i64 (erS n sd dt gr dr lim lr R lb lw lt ls B W T S sky st)])/\Below w.heap.size w w')
def PlanB:Prop:= ∀(sd:Int) (dt gr dr:Nat) (lim:Int) (rv:Bool) (pr:Option Addr) (lr cr:Nat) (R:Nat->Int × Int × Int × Int) (w:World),Sh.W64 sd->Sh.W64 lim->(dt<18446744073709551616/\gr<18446744073709551616/\dr<18446744073709551616)->lr<=281474976710656->Rn.IsRn w pr lr R->
 Calls prog 11 #[.agg #[.int .i64 sd,.float .f64 dt,.float .f64 gr,.float .f64 dr,.int .i64 lim,.bool rv,.slice pr lr cr]] w fun e w'=>e=.returned (.int .i64 (plE sd dt gr dr lim lr R))/\Below w.heap.size w w'
def CheckB:Prop:= ∀(side:Int) (pb:Option Addr) (lb cb:Nat) (B:Nat->Nat) (pw:Option Addr) (lw cw:Nat) (W:Nat->Int) (pt:Option Addr) (lt ct:Nat) (T:Nat->Int) (ps:Option Addr) (ls cs:Nat) (S:Nat->Nat) (sky st:Int) (w:World),Sh.W64 side->Sh.W64 sky->Sh.W64 st->(lb<=281474976710656/\lw<=281474976710656/\lt<=281474976710656/\ls<=281474976710656)->IsFl w pb lb B->Sh.IsI w pw lw W->Sh.IsI w pt lt T->IsFl w ps ls S->
 Calls prog 12 #[.int .i64 side,.agg #[.slice pb lb cb,.slice pw lw cw,.slice pt lt ct,.slice ps ls cs,.int .i64 sky,.int .i64 st]] w fun e w'=>e=.returned (.tuple #[.int .i64 (chk side lb lw lt ls B W T S sky st).1,.int .i64 (chk side lb lw lt ls B W T S sky st).2])/\Below w.heap.size w w'
theorem rB_ok{m:Nat}{r:Int × Int × Int × Int}(h:rB (m:Int) r=true):Rn.okR m r:=by
 unfold rB at h
 simp only[Bool.and_eq_true,decide_eq_true_eq]at h
 unfold Rn.okR
 omega
theorem zP{sd:Int}{dt gr dr:Nat}{lim:Int}{lr:Nat}{R:Nat->Int × Int × Int × Int}(h:plE sd dt gr dr lim lr R=0):(1<=sd/\sd<=32)/\lr<=1024/\ ∀k,k<lr->Rn.okR (6*sd.toNat*sd.toNat) (R k):=by
 unfold plE at h
 by_cases a:1<=sd/\sd<=32
 ·rw[if_neg (fun q=>q a)]at h
  split at h
  ·exact absurd h (by decide)
  ·by_cases c:lr<=1024/\ ∀k,k<lr->rB ((6*sd.toNat*sd.toNat:Nat):Int) (R k)=true
   ·exact⟨a,c.1,fun k hk=>rB_ok (c.2 k hk)⟩
   ·rw[if_pos c]at h
    exact absurd h (by decide)
 ·rw[if_pos a]at h
  exact absurd h (by decide)
theorem chk_ok{side:Int}{lb lw lt ls:Nat}{B:Nat->Nat}{W T:Nat->Int}{S:Nat->Nat}{sky st:Int}(c:(chk side lb lw lt ls B W T S sky st).2=0):(1<=side/\side<=32)/\(lb=6*side.toNat*side.toNat/\lw=6*side.toNat*side.toNat/\lt=6*side.toNat*side.toNat/\ls=2*(6*side.toNat*side.toNat))/\okN (6*side.toNat*side.toNat) B W T S sky st:=by
 unfold chk at c
 by_cases q:1<=side/\side<=32
 ·rw[if_pos q]at c
  obtain⟨a,b⟩:=chN_ok.1 c
  exact⟨q,a,b⟩
 ·rw[if_neg q]at c
  exact absurd c (by decide)
theorem er_ok{n:Nat}{sd:Int}{dt gr dr:Nat}{lim:Int}{lr:Nat}{R:Nat->Int × Int × Int × Int}{lb lw lt ls:Nat}{B:Nat->Nat}{W T:Nat->Int}{S:Nat->Nat}{sky st:Int}(h:(erS n sd dt gr dr lim lr R lb lw lt ls B W T S sky st)=0)(hf:dt<18446744073709551616/\gr<18446744073709551616/\dr<18446744073709551616)(hB: ∀i,i<lb->B i<18446744073709551616)(hS: ∀i,i<ls->S i<18446744073709551616):
  sd=(n:Int)/\plE sd dt gr dr lim lr R=0/\(chk sd lb lw lt ls B W T S sky st).2=0/\(lb=6*n*n/\lw=6*n*n/\lt=6*n*n/\ls=12*n*n)/\okP n gr dt dr lr R/\okS n B W T S sky st:=by
 unfold erS at h
 by_cases a:sd=(n:Int)
 ·rw[if_neg (fun q=>q a)]at h
  by_cases b:plE sd dt gr dr lim lr R=0
  ·rw[if_neg (fun q=>q b)]at h
   obtain⟨p1,p2,p3⟩:=zP b
   obtain⟨-,s2,s3⟩:=chk_ok h
   have e2:2*(6*n*n)=12*n*n:=by rw[Nat.mul_assoc,Nat.mul_assoc];omega
   rw[a,Int.toNat_natCast]at p3 s2 s3
   rw[e2]at s2
   refine⟨a,b,h,s2,⟨by omega,⟨hf.2.1,hf.1,hf.2.2⟩,p2,p3⟩,s3,fun c hc=>hB c (by omega),fun e he=>hS e (by omega)⟩
  ·rw[if_pos b]at h
   exact absurd h b
 ·rw[if_pos a]at h
  exact absurd h (by decide)
theorem zQ{n:Nat}{sd:Int}{dt gr dr:Nat}{lim:Int}{lr:Nat}{R:Nat->Int × Int × Int × Int}{lb lw lt ls:Nat}{B:Nat->Nat}{W T:Nat->Int}{S:Nat->Nat}{sky st:Int}(a:sd=(n:Int))(b:plE sd dt gr dr lim lr R=0)(c:(chk sd lb lw lt ls B W T S sky st).2=0):(erS n sd dt gr dr lim lr R lb lw lt ls B W T S sky st)=0:=by
 unfold erS
 rw[if_neg (fun q=>q a),if_neg (fun q=>q b),c]
end St
end
section
open Go.RowKit Tf Cu Go.Deep
attribute [local go_sem] aL aM aV aW aX aY aZ aG
namespace St
open Ss Fc
theorem wh21(pa pb:Option Addr)(n ca m cb:Nat)(xs ys:Nat->Int)(w:World)(hn:n<=131072)(hm:m<=131072)(hA:Sh.IsI w pa n xs)(hB:Sh.IsI w pb m ys):
  Calls prog 22 #[.slice pa n ca,.slice pb m cb] w fun e w'=>e=.returned (.bool (eqL n m xs ys))/\Below w.heap.size w w':=by
 have HA:=hid hA
 have HB:=hid hB
 have HL:=hid (And.intro hn hm)
 clear hA hB hn hm
 by_cases hnm:n=m
 ·subst hnm
  have e1:((n:Int) != (n:Int))=false:=by simp
  go_enter func22,ntmps22
  go_wp2
  go_loopw [5] (fun iv wr=> ∃k:Nat,k<=n/\iv=.int .i64 (k:Nat)/\Ab w wr/\ ∀i,i<k->xs i=ys i) (fun iv _=>n - (intOf iv).toNat)
  case atStart=>exact⟨0,by omega,rfl,Ab.refl w,fun i hi=>absurd hi (Nat.not_lt_zero i)⟩
  case round=>
   obtain⟨k,hk,rfl,ar,g1⟩:=hrel
   have AR:=hid ar
   have G1:=hid g1
   clear ar g1
   by_cases hkn:k<n
   ·have HK:=hid hkn
    have kI:(k:Int)<n:=by omega
    have kB:(k:Int)<=131072:=by have:=HL.out;omega
    obtain⟨x,hx⟩:=aD (xs k)
    obtain⟨y,hy⟩:=aD (ys k)
    obtain⟨b1,o1,rfl⟩:=HA.out.some0 (show 0<n by omega)
    obtain⟨b2,o2,rfl⟩:=HB.out.some0 (show 0<n by omega)
    have X1:Hid (∀v,Ab wr v->v.cell? ⟨b1,o1+k,none⟩=some (.int .i64 x)):=fun v a=>by rw[<- hx];exact((HA.out.below (AR.out.trans a)).at0 hkn).2.2
    have X2:Hid (∀v,Ab wr v->v.cell? ⟨b2,o2+k,none⟩=some (.int .i64 y)):=fun v a=>by rw[<- hy];exact((HB.out.below (AR.out.trans a)).at0 hkn).2.2
    clear hkn hk
    by_cases q:x=y
    ·have d1:(x != y)=false:=by simp[q]
     have XE:Hid (xs k=ys k):=by show _=_;rw[hx,hy,q]
     clear hx hy q
     go_upto_region 6 with fail
     obtain⟨UU,E,hF1,hF2⟩:=cls wr
     have HU:=hid hF2
     have HU1:=hid hF1
     have y1: ∀u,(E u).cell? ⟨b1,o1+k,none⟩=some (.int .i64 x):=fun u=>X1.out _ (hF1 u)
     have y2: ∀u,(E u).cell? ⟨b2,o2+k,none⟩=some (.int .i64 y):=fun u=>X2.out _ (hF1 u)
     have DD0:=HU.out _ (Ab.refl wr).drew
     clear hF1 hF2
     refine aP E (by kernel_rfl) (by kernel_rfl) DD0 ?_
     repeat(go_big_quiet_step (with_reducible rfl))
     refine wpQuiet_nil ?_
     intro z hwz
     obtain⟨u0,hu⟩:=hwz
     have A2:Hid (Ab wr z):=by rw[hu];exact HU1.out u0
     clear hu u0
     clear HU HU1 DD0 y1 y2
     clear E UU
     go_wp2
     refine⟨⟨k+1,by have:=HK.out;omega,by simp,AR.out.trans A2.out,fun i hi=> ?_⟩,by have:=HK.out;simp[intOf];omega⟩
     by_cases l:i<k
     ·exact G1.out i l
     ·obtain rfl:i=k:=by omega
      exact XE.out
    ·have d1:(x != y)=true:=by simp[q]
     have NE:Hid (eqL n n xs ys=false):=eqL_no HK.out (by rw[hx,hy];exact q)
     clear hx hy q
     go_upto_region 6 with fail
     obtain⟨UU,E,hF1,hF2⟩:=cls wr
     have HU:=hid hF2
     have HU1:=hid hF1
     have y1: ∀u,(E u).cell? ⟨b1,o1+k,none⟩=some (.int .i64 x):=fun u=>X1.out _ (hF1 u)
     have y2: ∀u,(E u).cell? ⟨b2,o2+k,none⟩=some (.int .i64 y):=fun u=>X2.out _ (hF1 u)
     have DD0:=HU.out _ (Ab.refl wr).drew
     clear hF1 hF2
     refine aP E (by kernel_rfl) (by kernel_rfl) DD0 ?_
     repeat(go_big_quiet_step (with_reducible rfl))
     refine wpQuiet_nil ?_
     intro z hwz
     obtain⟨u0,hu⟩:=hwz
     have A2:Hid (Ab wr z):=by rw[hu];exact HU1.out u0
     clear hu u0
     clear HU HU1 DD0 y1 y2
     clear E UU
     go_wp2
     go_ret
     exact⟨by rw[NE.out];rfl,AR.out.trans A2.out⟩
   ·have e6:n=k:=by omega
    subst e6
    have E:Hid (eqL n n xs ys=true):=fR G1.out
    go_wp2
    go_ret
    exact⟨by rw[E.out];rfl,AR.out⟩
 ·have e1:((n:Int) != (m:Int))=true:=by simp;omega
  have E:Hid (eqL n m xs ys=false):=Gx hnm
  clear hnm
  go_enter func22,ntmps22
  go_wp2
  go_ret
  exact⟨by rw[E.out];rfl,Below.refl _ _⟩
theorem sam21_6(pb:Option Addr)(lb cb:Nat)(B:Nat->Nat)(pw:Option Addr)(lw cw:Nat)(W:Nat->Int)(pt:Option Addr)(lt ct:Nat)(T:Nat->Int)(ps:Option Addr)(ls cs:Nat)(S:Nat->Nat)(sky st:Int)(pb':Option Addr)(lb' cb':Nat)(B':Nat->Nat)(pw':Option Addr)(lw' cw':Nat)(W':Nat->Int)(pt':Option Addr)(lt' ct':Nat)(T':Nat->Int)(ps':Option Addr)(ls' cs':Nat)(S':Nat->Nat)(sky' st':Int)(w:World)(HL:Hid ((lb<=131072/\lw<=131072/\lt<=131072/\ls<=131072)/\(lb'<=131072/\lw'<=131072/\lt'<=131072/\ls'<=131072)))(I1:Hid (IsFl w pb lb B))(I2:Hid (Sh.IsI w pw lw W))(I3:Hid (Sh.IsI w pt lt T))(I4:Hid (IsFl w ps ls S))(J1:Hid (IsFl w pb' lb' B'))(J2:Hid (Sh.IsI w pw' lw' W'))(J3:Hid (Sh.IsI w pt' lt' T'))(J4:Hid (IsFl w ps' ls' S'))(h0:eqL lb lb' B B'=true)(h1:eqL lw lw' W W'=true)(h2:eqL lt lt' T T'=true)(h3:eqL ls ls' S S'=true)(h4:(sky==sky')=true)(h5:(st==st')=true):
  Calls prog 31 #[.agg #[.slice pb lb cb,.slice pw lw cw,.slice pt lt ct,.slice ps ls cs,.int .i64 sky,.int .i64 st],.agg #[.slice pb' lb' cb',.slice pw' lw' cw',.slice pt' lt' ct',.slice ps' ls' cs',.int .i64 sky',.int .i64 st']] w fun e w'=>e=.returned (.bool true)/\Below w.heap.size w w':=by
 have H0:=hid h0
 have H1:=hid h1
 have H2:=hid h2
 have H3:=hid h3
 clear h0 h1 h2 h3
 obtain⟨A0,R0,Q0⟩:=bT w (.cells #[.slice pb lb cb,.slice pw lw cw,.slice pt lt ct,.slice ps ls cs,.int .i64 sky,.int .i64 st] 29) (.cells #[.slice pb' lb' cb',.slice pw' lw' cw',.slice pt' lt' ct',.slice ps' ls' cs',.int .i64 sky',.int .i64 st'] 29)
 go_enter func31,ntmps31
 go_upto_region 1 with fail
 generalize hW:World.alloc (World.alloc w _) _=v0 at*
 obtain⟨ga,hga⟩:=aD w.heap.size
 obtain⟨gq,hgq⟩:=aD (w.heap.size+1)
 rw[hgq]at Q0 ⊢
 rw[hga]at R0 ⊢
 clear hga hgq hW
 have x0:=aF R0.out
 have y0:=aF Q0.out
 have CC:=hid (rall20 pb pb' lb cb lb' cb' B B' v0 HL.out.1.1 HL.out.2.1 (I1.out.below A0.out) (J1.out.below A0.out))
 rw[H0.out]at CC
 go_wp2_with fail
 refine CC.out.mono ?_
 rintro e9 v1 ⟨rfl,k9⟩
 have B1:Hid (Ab v0 v1):=k9
 have A1:Hid (Ab w v1):=A0.out.trans B1.out
 clear k9 CC x0 y0
 have x0:=aF (B1.out.heap R0.out)
 have y0:=aF (B1.out.heap Q0.out)
 have CC:=hid (wh21 pw pw' lw cw lw' cw' W W' v1 HL.out.1.2.1 HL.out.2.2.1 (I2.out.below A1.out) (J2.out.below A1.out))
 rw[H1.out]at CC
 go_wp2_with fail
 refine CC.out.mono ?_
 rintro e9 v2 ⟨rfl,k9⟩
 have B2:Hid (Ab v0 v2):=B1.out.call k9
 have A2:Hid (Ab w v2):=A0.out.trans B2.out
 clear k9 CC x0 y0
 have x0:=aF (B2.out.heap R0.out)
 have y0:=aF (B2.out.heap Q0.out)
 have CC:=hid (wh21 pt pt' lt ct lt' ct' T T' v2 HL.out.1.2.2.1 HL.out.2.2.2.1 (I3.out.below A2.out) (J3.out.below A2.out))
 rw[H2.out]at CC
 go_wp2_with fail
 refine CC.out.mono ?_
 rintro e9 v3 ⟨rfl,k9⟩
 have B3:Hid (Ab v0 v3):=B2.out.call k9
 have A3:Hid (Ab w v3):=A0.out.trans B3.out
 clear k9 CC x0 y0
 have x0:=aF (B3.out.heap R0.out)
 have y0:=aF (B3.out.heap Q0.out)
 have CC:=hid (rall20 ps ps' ls cs ls' cs' S S' v3 HL.out.1.2.2.2 HL.out.2.2.2.2 (I4.out.below A3.out) (J4.out.below A3.out))
 rw[H3.out]at CC
 go_wp2_with fail
 refine CC.out.mono ?_
 rintro e9 v4 ⟨rfl,k9⟩
 have B4:Hid (Ab v0 v4):=B3.out.call k9
 have A4:Hid (Ab w v4):=A0.out.trans B4.out
 clear k9 CC x0 y0
 have x0:=aF (B4.out.heap R0.out)
 have y0:=aF (B4.out.heap Q0.out)
 go_wp2
 go_ret
 exact⟨rfl,A4.out⟩
theorem BK(pb:Option Addr)(lb cb:Nat)(B:Nat->Nat)(pw:Option Addr)(lw cw:Nat)(W:Nat->Int)(pt:Option Addr)(lt ct:Nat)(T:Nat->Int)(ps:Option Addr)(ls cs:Nat)(S:Nat->Nat)(sky st:Int)(pb':Option Addr)(lb' cb':Nat)(B':Nat->Nat)(pw':Option Addr)(lw' cw':Nat)(W':Nat->Int)(pt':Option Addr)(lt' ct':Nat)(T':Nat->Int)(ps':Option Addr)(ls' cs':Nat)(S':Nat->Nat)(sky' st':Int)(w:World)(hl:(lb<=131072/\lw<=131072/\lt<=131072/\ls<=131072))(hl':(lb'<=131072/\lw'<=131072/\lt'<=131072/\ls'<=131072))(i1:IsFl w pb lb B)(i2:Sh.IsI w pw lw W)(i3:Sh.IsI w pt lt T)(i4:IsFl w ps ls S)(j1:IsFl w pb' lb' B')(j2:Sh.IsI w pw' lw' W')(j3:Sh.IsI w pt' lt' T')(j4:IsFl w ps' ls' S')(he:eqS lb lw lt ls B W T S sky st lb' lw' lt' ls' B' W' T' S' sky' st'=true):
  Calls prog 31 #[.agg #[.slice pb lb cb,.slice pw lw cw,.slice pt lt ct,.slice ps ls cs,.int .i64 sky,.int .i64 st],.agg #[.slice pb' lb' cb',.slice pw' lw' cw',.slice pt' lt' ct',.slice ps' ls' cs',.int .i64 sky',.int .i64 st']] w fun e w'=>e=.returned (.bool (eqS lb lw lt ls B W T S sky st lb' lw' lt' ls' B' W' T' S' sky' st'))/\Below w.heap.size w w':=by
 rw[he]
 unfold eqS at he
 simp only[Bool.and_eq_true,decide_eq_true_eq]at he
 obtain⟨⟨⟨⟨⟨h0,h1⟩,h2⟩,h3⟩,h4⟩,h5⟩:=he
 exact sam21_6 pb lb cb B pw lw cw W pt lt ct T ps ls cs S sky st pb' lb' cb' B' pw' lw' cw' W' pt' lt' ct' T' ps' ls' cs' S' sky' st' w ⟨hl,hl'⟩ i1 i2 i3 i4 j1 j2 j3 j4 h0 h1 h2 h3 (by simp[h4]) (by simp[h5])
end St
end
section
open Tf Ieee
theorem mv_w20:mv 4697254411347427328=1048576*one:=by
 have h:=dT 20 4697254411347427328 (by decide)
 have e:(2:Nat) ^ 20=1048576:=by decide
 rw[e]at h;exact h
theorem mv_w53:mv 4845873199050653696=9007199254740992*one:=by
 have h:=dT 53 4845873199050653696 (by decide)
 have e:(2:Nat) ^ 53=9007199254740992:=by decide
 rw[e]at h;exact h
theorem sv_20{b:Nat}(h1:rk b<=4697254411347427328)(h2: -4697254411347427328<=rk b): -(1048576*(one:Int))<=sv b/\sv b<=1048576*(one:Int):=by
 have a:=(wW b 4697254411347427328).2 (by rw[show rk 4697254411347427328=4697254411347427328 by decide];exact h1)
 have c:=(wW 13920626448202203136 b).2 (by rw[show rk 13920626448202203136= -4697254411347427328 by decide];exact h2)
 have e1:sv 4697254411347427328=(mv 4697254411347427328:Nat):=wX (by decide)
 have e2:sv 13920626448202203136= -((mv 4697254411347427328:Nat):Int):=by
  unfold sv
  rw[show ng 13920626448202203136=true by decide,show mg 13920626448202203136=4697254411347427328 by decide];rfl
 rw[e1,mv_w20]at a
 rw[e2,mv_w20]at c
 rw[Int.natCast_mul]at a c
 exact⟨c,a⟩
theorem rn_le{z:Bool}{v:Int}{r:Nat}(h:v.natAbs<=mv r)(hr:r<9218868437227405312):mg (rn z v)<=r/\mg (rn z v)<9218868437227405312/\sv (rn z v)=rd v:=by
 have a:rung 52 0 v.natAbs<=r:=rung_le2 (d:=0) (by rw[Nat.pow_zero,Nat.mul_one];exact h)
 have b:mg (rn z v)<=r:=by rw[Ap];omega
 exact⟨b,by omega,rn_fin' z v (by omega)⟩
end
section
open Tf Cu
namespace St
open Ss Fc
theorem dp_52{w a:Int}(w2:w<=4503599627370496)(a2:a<=9223372036854775807):dpB w a<=4841369599423283200:=by
 by_cases h:w<1\/a<1
 ·rw[mM h];omega
 ·have e:dpB 4503599627370496 1=4841369599423283200:=by decide+kernel
  have m:=dp_mono (w:=w) (w':=4503599627370496) (a:=a) w2 (by omega) a2
  have n:=dp_anti (w:=4503599627370496) (a:=1) (a':=a) (by omega) (by omega) (by omega) a2
  omega
theorem Dt{b:Nat}{w a:Int}(hb:b<18446744073709551616)(h1:rk b<=4697254411347427328)(h2: -4697254411347427328<=rk b)(w2:w<=4503599627370496)(a2:a<=9223372036854775807):mg (lvl b w a)<9218868437227405312:=by
 have d:=dp_52 w2 a2
 have s1:=sv_20 h1 h2
 have mb:mg b<9218868437227405312:=by
  unfold rk at h1 h2
  cases q:ng b with
  | true=>rw[q,if_pos rfl]at h2;omega
  | false=>rw[q,if_neg (by decide)]at h1;omega
 have md:mg (dpB w a)=dpB w a:=bO (by omega)
 have s2:sv (dpB w a)=(mv (dpB w a):Nat):=wX (by omega)
 have s3:mv (dpB w a)<=9007199254740992*one - 1048576*one:=by
  have k:mv (dpB w a)<=mv 4841369599423283200:=oD.2 d
  have e:mv 4841369599423283200=4503599627370496*one:=by
   have h:=dT 52 4841369599423283200 (by decide)
   have e:(2:Nat) ^ 52=4503599627370496:=by decide
   rw[e]at h;exact h
  rw[e]at k
  generalize one=o at*
  omega
 unfold lvl
 rw[eD b _ hb (by omega) mb (by omega)]
 refine(rn_le (r:=4845873199050653696) ?_ (by omega)).2.1
 rw[mv_w53,s2]
 generalize one=o at*
 generalize mv (dpB w a)=m at*
 generalize sv b=v at*
 omega
section
variable {n G dt D lr:Nat} {lim:Int} {R:Nat->Int × Int × Int × Int} {B:Nat->Nat} {W T:Nat->Int} {S:Nat->Nat} {sky st:Int}
def rest(n:Nat)(B:Nat->Nat)(W:Nat->Int)(S:Nat->Nat):Prop:= ∀e,e<12*n*n->S e=0/\(opE n B W e=true->lvC n B W (eL n e)=lvC n B W (eR n e))
theorem lvC_fin(h:okS n B W T S sky st){c:Nat}(hc:c<6*n*n):mg (lvC n B W c)<9218868437227405312:=by
 have q:=(bB_iff (h.2.1 c hc)).1 (h.1.1 c hc)
 have w1:=nK h.1.2.2.1.1 hc
 have w2:=h.1.2.2.1.2
 have w3:=h.1.2.1.1
 exact Dt (h.2.1 c hc) q.2.1.2 q.2.1.1 (by omega) (dA n c).2
theorem Gy(hp:okP n G dt D lr R)(h:okS n B W T S sky st)(r:rest n B W S){e:Nat}(he:e<12*n*n):spE n G dt D B W S e=0:=by
 obtain⟨t1,t2,t3⟩:=bH hp.1.1 he
 have c1:eL n e<6*n*n:=aN t1
 obtain⟨z,l⟩:=r e he
 unfold spE
 split
 ·rename_i o
  rw[<- l o,z]
  exact spB_rest G dt D _ _ _ hp.2.1.1 hp.2.1.2.1 (D4 _ _ _) (by decide) (by decide) (lv_lt (n:=n) ((Bw h).1 _ c1)) (lvC_fin h c1)
 ·rfl
theorem rest_wt(hp:okP n G dt D lr R)(h:okS n B W T S sky st)(r:rest n B W S){e:Nat}(he:e<12*n*n):wtF n lim G dt D B W S e=0:=by
 have k:=Bw h
 unfold wtF flB
 rw[Gy hp h r he]
 exact qn_z1 (u:=0) (by decide) (kH hp.1.1 (fun i hi=>(k.1 i hi).1) (fun i hi=>(k.1 i hi).2) _ _).1 (tV _ _) hp.2.1.2.1 (by decide)
theorem og_0{F:Nat->Int}(hn:1<=n)(z: ∀e,e<12*n*n->F e=0){t:Nat}(ht:t<24*n*n):Sh.og n F t=0:=by
 unfold Sh.og
 rw[z _ (fN hn ht),Int.zero_mul]
 rfl
theorem rV(hp:okP n G dt D lr R)(h:okS n B W T S sky st)(r:rest n B W S){e:Nat}(he:e<12*n*n):waF n lim G dt D B W S e=0:=by
 obtain⟨t1,t2,t3⟩:=bH hp.1.1 he
 have m1:=bZ hp.1.1 t1
 have z: ∀e,e<12*n*n->wtF n lim G dt D B W S e=0:=fun e he=>rest_wt hp h r he
 unfold waF Sh.allF
 rw[Sh.kJ (h.1.2.2.1.1 _ (aN t1)) (og_0 hp.1.1 z t1),Sh.kJ (h.1.2.2.1.1 _ (aN m1)) (og_0 hp.1.1 z m1)]
 rfl
theorem Gz(hp:okP n G dt D lr R)(h:okS n B W T S sky st)(r:rest n B W S){e:Nat}(he:e<12*n*n):trF n lim G dt D B W T S e=0:=by
 obtain⟨t1,t2,t3⟩:=bH hp.1.1 he
 have m1:=bZ hp.1.1 t1
 have z: ∀e,e<12*n*n->waF n lim G dt D B W S e=0:=fun e he=>rV hp h r he
 unfold trF Tr.flF
 rw[Tr.iL (og_0 hp.1.1 z t1),Tr.iL (og_0 hp.1.1 z m1)]
 rfl
theorem mv_0{V F:Nat->Int}(hn:1<=n)(z: ∀e,e<12*n*n->F e=0){c:Nat}(hc:c<6*n*n):Ms.mv n V F c=V c:=by
 have k: ∀s,s<4->Ms.tk n F (4*c+s)=0:=fun s hs=>by
  unfold Ms.tk
  rw[z _ (fN hn (fT hc hs)),Int.mul_zero]
 unfold Ms.mv
 show V c - (0+Ms.tk n F (4*c+0)+Ms.tk n F (4*c+1)+Ms.tk n F (4*c+2)+Ms.tk n F (4*c+3))=_
 rw[k 0 (by omega),k 1 (by omega),k 2 (by omega),k 3 (by omega)]
 omega
theorem GF(hp:okP n G dt D lr R)(h:okS n B W T S sky st)(r:rest n B W S){c:Nat}(hc:c<6*n*n):mvW n lim G dt D B W S c=W c/\mvT n lim G dt D B W T S c=T c:=
 ⟨mv_0 hp.1.1 (fun _ he=>rV hp h r he) hc,mv_0 hp.1.1 (fun _ he=>Gz hp h r he) hc⟩
end
end St
end
section
open Tf Cu
namespace St
open Ss Fc
def w1(_:Nat):Int:=1431655765
def w2(i:Nat):Int:=if i=0 then 2863311530 else 1431655765
def sp2(e:Nat):Nat:=if e<4 then 4600040671590431692 else 0
def fl2(e:Nat):Int:=if e<4 then 438353264 else 0
theorem aw_sp: ∀e,e<12->spE 1 4607182418800017408 4602678819172646912 0 (fun _=>0) w2 (fun _=>0) e=sp2 e:=by decide+kernel
theorem aw_q: ∀e,e<12->qnB (sp2 e) (rdAll 1 0 6 6 (fun _=>0) w2 (e:Nat) (sp2 e)) (lnE 1 e) 4602678819172646912=fl2 e:=by decide+kernel
theorem aw_wt{e:Nat}(he:e<12):wtF 1 0 4607182418800017408 4602678819172646912 0 (fun _=>0) w2 (fun _=>0) e=fl2 e:=by
 unfold wtF flB
 rw[aw_sp e he]
 exact aw_q e he
theorem og_c{n:Nat}{F H:Nat->Int}(hn:1<=n)(z: ∀e,e<12*n*n->F e=H e){t:Nat}(ht:t<24*n*n):Sh.og n F t=Sh.og n H t:=by
 unfold Sh.og
 rw[z _ (fN hn ht)]
theorem all_c{n:Nat}{V F H:Nat->Int}(hn:1<=n)(z: ∀e,e<12*n*n->F e=H e){e:Nat}(he:e<12*n*n):Sh.allF n V F e=Sh.allF n V H e:=by
 obtain⟨t1,t2,t3⟩:=bH hn he
 have m1:=bZ hn t1
 have ct: ∀t,t<24*n*n->Sh.ct n V F t=Sh.ct n V H t:=fun t ht=>by
  unfold Sh.ct Sh.oS
  rw[og_c hn z ht]
  congr 1
  exact Sh.cP (fun s hs=>og_c hn z (fT (aN ht) hs))
 unfold Sh.allF
 rw[ct _ t1,ct _ m1]
theorem aw_mv:(∀c,c<6->Ms.mv 1 w2 (Sh.allF 1 w2 fl2) c=if c=0 then 1109898474 else if c=2 then 1431655765 else 1870009029):=by decide+kernel
theorem Ed{c:Nat}(hc:c<6):mvW 1 0 4607182418800017408 4602678819172646912 0 (fun _=>0) w2 (fun _=>0) c=if c=0 then 1109898474 else if c=2 then 1431655765 else 1870009029:=by
 rw[<- aw_mv c hc]
 exact Ms.oZ (n:=1) (by decide) hc rfl (fun i hi=>all_c (n:=1) (by decide) (fun e he=>aw_wt he) hi)
theorem aw_fgt:fgt 4600040671590431692 0=true:=by decide
theorem aw_ar: ∀c,c<6->arC 1 c=1431655765:=by decide+kernel
end St
end
end Go.Proofs.YtaphajlpbgcfjaaGreatDoor
