/-
  Some of the texts of this proof, one behind the other.
-/
import Derived.BigQuiet
import Derived.Deep.QuietTactic
import Derived.Deep.AppendLies
import Derived.OwnWalk
import Derived.Test.YtlmfpikhlcnjjaaGreatDoorRows
import Derived.Deep.OwnRows
import Derived.Deep.Cut
import Derived.Deep.CutRange
import Derived.Deep.AppendSrc
import Derived.Test.YtlmfpikhlcnjjaaGreatDoorSk05
set_option maxRecDepth 100000
set_option maxHeartbeats 400000000
namespace Go.Proofs.YtlmfpikhlcnjjaaGreatDoor
open _root_.Go.Proofs.Tryz
section
open Go.RowKit
def Fresh(W:World)(S:Nat->Option Nat)(b:Nat):Prop:=W.heap.size<=b/\ ∀i c,S i=some c->c≠b
def putL(S:Nat->Option Nat)(i b:Nat):Nat->Option Nat:=fun k=>if k=i then some b else S k
def Has(W:World)(sp:Nat->Option (Obj × (Nat->Value)))(S:Nat->Option Nat)(w:World):Prop:=Ab W w/\ ∀i b,S i=some b->W.heap.size<=b/\ ∃o mk,sp i=some (o,mk)/\w.heap[b]? =some o
theorem tF(S:Nat->Option Nat){i j:Nat}(b c:Nat)(h:i≠j):putL (putL S i b) j c=putL (putL S j c) i b:=by
 funext k
 unfold putL
 by_cases e:k=j
 ·subst e;simp[Ne.symm h]
 ·by_cases e2:k=i
  ·subst e2;simp[e]
  ·simp[e,e2]
theorem Fresh.put{W:World}{S:Nat->Option Nat}{i b c:Nat}(h:Fresh W S c)(n:b≠c):Fresh W (putL S i b) c:=
 ⟨h.1,fun k d e=>by
  unfold putL at e
  by_cases q:k=i
  ·rw[if_pos q]at e;injection e with e;exact fun x=>n (e.trans x)
  ·rw[if_neg q]at e;exact h.2 k d e⟩
theorem Fresh.of_put{W:World}{S:Nat->Option Nat}{i b c:Nat}(h:Fresh W (putL S i b) c)(hi:S i=none):Fresh W S c/\b≠c:=by
 refine⟨⟨h.1,fun k d e=>h.2 k d ?_⟩,h.2 i b (by simp[putL])⟩
 unfold putL
 by_cases q:k=i
 ·subst q;rw[hi]at e;cases e
 ·rw[if_neg q];exact e
theorem Has.lt{W:World}{sp:Nat->Option (Obj × (Nat->Value))}{S:Nat->Option Nat}{w:World}(h:Has W sp S w){i b:Nat}(e:S i=some b):b<w.heap.size:=by
 obtain⟨_,o,mk,_,q⟩:=h.2 i b e
 exact lt_of_block q
theorem Has.fresh{W:World}{sp:Nat->Option (Obj × (Nat->Value))}{S:Nat->Option Nat}{w:World}(h:Has W sp S w):Fresh W S w.heap.size:=
 ⟨h.1.size,fun i c e=>by have:=h.lt e;omega⟩
theorem Has.lay{W:World}{sp:Nat->Option (Obj × (Nat->Value))}{S:Nat->Option Nat}{w:World}(h:Has W sp S w){i:Nat}{o:Obj}{mk:Nat->Value}(e:sp i=some (o,mk)):Has W sp (putL S i w.heap.size) (w.alloc o):=
 ⟨h.1.alloc o,fun k b q=>by
  unfold putL at q
  by_cases c:k=i
  ·subst c
   rw[if_pos rfl]at q
   injection q with q
   subst q
   exact⟨h.1.size,o,mk,e,heap_alloc_new _ _⟩
  ·rw[if_neg c]at q
   obtain⟨h1,o',mk',h2,h3⟩:=h.2 k b q
   exact⟨h1,o',mk',h2,Ab.heap (bl1 _ _) h3⟩⟩
section
variable {P:Program} {ops:Array Oper} {md:Region.Mode} {W:World} {sp:Nat->Option (Obj × (Nat->Value))}
def YF(P:Program)(ops:Array Oper)(W:World)(o:Oper)(v:Value)(a:Act):Prop:=
 (Region.wanted o (yielded ops a.tmps)=true/\ ∀w,Ab W w->(execOp a.eval o).run P w=.ok (.value v) w)\/(Region.wanted o (yielded ops a.tmps)=false/\v=undef)
def LF(P:Program)(ops:Array Oper)(W:World)(o:Oper)(ob:Obj)(mk:Nat->Value)(a:Act):Prop:=
 Region.wanted o (yielded ops a.tmps)=true/\ ∀w,Ab W w->(execOp a.eval o).run P w=.ok (.value (mk w.heap.size)) (w.alloc ob)
theorem YF.same{o:Oper}{v:Value}{a a':Act}(h:YF P ops W o v a)(he:execOp a'.eval o=execOp a.eval o)(hw:Region.wanted o (yielded ops a'.tmps)=Region.wanted o (yielded ops a.tmps)):YF P ops W o v a':=by
 unfold YF at*
 rw[he,hw]
 exact h
theorem LF.same{o:Oper}{ob:Obj}{mk:Nat->Value}{a a':Act}(h:LF P ops W o ob mk a)(he:execOp a'.eval o=execOp a.eval o)(hw:Region.wanted o (yielded ops a'.tmps)=Region.wanted o (yielded ops a.tmps)):LF P ops W o ob mk a':=by
 unfold LF at*
 rw[he,hw]
 exact h
theorem YF.one{o:Oper}{v u:Value}{a:Act}(h:YF P ops W o v a)(k:YF P ops W o u a):v=u:=by
 rcases h with⟨w1,h⟩ | ⟨w1,rfl⟩
 ·rcases k with⟨_,k⟩ | ⟨w2,_⟩
  ·have:=(h W (Ab.refl W)).symm.trans (k W (Ab.refl W))
   injection this with e
   injection e
  ·rw[w1]at w2;cases w2
 ·rcases k with⟨w2,_⟩ | ⟨_,rfl⟩
  ·rw[w1]at w2;cases w2
  ·rfl
def fOp(P:Program)(ops:Array Oper)(W:World)(sp:Nat->Option (Obj × (Nat->Value)))(i:Nat)(K:Act->(Nat->Option Nat)->Prop)(a:Act)(S:Nat->Option Nat):Prop:=
 match ops[i]? with
 | none=>K a S
 | some o=>
  match sp i with
  | none=> ∃v,YF P ops W o v a/\K (a.put o.dst v) S
  | some (ob,mk)=>LF P ops W o ob mk a/\ ∀b,Fresh W S b->K (a.put o.dst (mk b)) (putL S i b)
theorem oW{i:Nat}{K K':Act->(Nat->Option Nat)->Prop}{a:Act}{S:Nat->Option Nat}(h: ∀a S,K a S->K' a S)(hh:fOp P ops W sp i K a S):fOp P ops W sp i K' a S:=by
 unfold fOp at*
 cases ho:ops[i]? with
 | none=>simp only[ho]at hh ⊢;exact h _ _ hh
 | some o=>
  cases hs:sp i with
  | none=>
   simp only[ho,hs]at hh ⊢
   obtain⟨v,h1,h2⟩:=hh
   exact⟨v,h1,h _ _ h2⟩
  | some x=>
   simp only[ho,hs]at hh ⊢
   exact⟨hh.1,fun b hb=>h _ _ (hh.2 b hb)⟩
def wpAnyF(P:Program)(md:Region.Mode)(ops:Array Oper)(W:World)(sp:Nat->Option (Obj × (Nat->Value)))(Q:Act->(Nat->Option Nat)->Prop):Nat->Array Bool->Act->(Nat->Option Nat)->Prop
 | 0,listed,a,S=>Region.ready md ops listed=[]/\Q a S
 | fuel+1,listed,a,S=>
  (Region.ready md ops listed=[]->Q a S)/\
  ∀i ∈ Region.ready md ops listed,fOp P ops W sp i (wpAnyF P md ops W sp Q fuel (listed.setIfInBounds i true)) a S
def Tidy(W:World)(listed:Array Bool)(S:Nat->Option Nat):Prop:=(∀k,listed.getD k true=false->S k=none)/\ ∃n,W.heap.size<=n/\ ∀i c,S i=some c->c<n
theorem Tidy.fresh{listed:Array Bool}{S:Nat->Option Nat}(h:Tidy W listed S): ∃b,Fresh W S b:=by
 obtain⟨_,n,h1,h2⟩:=h
 exact⟨n,h1,fun i c e=>by have:=h2 i c e;omega⟩
theorem Tidy.set{listed:Array Bool}{S:Nat->Option Nat}(h:Tidy W listed S)(j:Nat):Tidy W (listed.setIfInBounds j true) S:=
 ⟨fun k hk=>by
  by_cases e:j=k
  ·subst e
   by_cases l:j<listed.size
   ·simp[l]at hk
   ·exact h.1 j (by rw[Array.setIfInBounds_eq_of_size_le (by omega)]at hk;exact hk)
  ·rw[getD_set_ne true e]at hk;exact h.1 k hk,h.2⟩
theorem Tidy.lay{listed:Array Bool}{S:Nat->Option Nat}(h:Tidy W listed S){j:Nat}(hj:listed.getD j true=false)(b:Nat):Tidy W (listed.setIfInBounds j true) (putL S j b):=by
 obtain⟨h1,n,h2,h3⟩:=h
 refine⟨fun k hk=> ?_,max n (b+1),by omega,fun i c e=> ?_⟩
 ·by_cases e:j=k
  ·subst e
   by_cases l:j<listed.size
   ·simp[l]at hk
   ·simp[l]at hj
  ·rw[getD_set_ne true e]at hk
   unfold putL
   rw[if_neg (Ne.symm e)]
   exact h1 k hk
 ·unfold putL at e
  by_cases q:i=j
  ·rw[if_pos q]at e;injection e with e;omega
  ·rw[if_neg q]at e;have:=h3 i c e;omega
theorem fOp_putY{j:Nat}{oi oj:Oper}{v:Value}(hj:ops[j]? =some oj)(hap:oi.apart ops oj=true)(hsi: ∀cs b,oi.op≠ .select cs b)(hsj: ∀cs b,oj.op≠ .select cs b)
  {K:Act->(Nat->Option Nat)->Prop} {a:Act} {S:Nat->Option Nat} (hy:YF P ops W oi v a) (h:fOp P ops W sp j K (a.put oi.dst v) S):
  fOp P ops W sp j (fun a' S'=>YF P ops W oi v a'/\K (a'.put oi.dst v) S') a S:=by
 obtain⟨h1,h2,h3⟩:=Oper.apart_spec hap
 have keep: ∀u,YF P ops W oi v (a.put oj.dst u):=fun u=>hy.same (execOp_put oi hsi a oj.dst u h3) (wanted_put oi a oj.dst u h3)
 unfold fOp at*
 cases hs:sp j with
 | none=>
  simp only[hj,hs]at h ⊢
  obtain⟨u,hu,hk⟩:=h
  exact⟨u,hu.same (execOp_put oj hsj a oi.dst v h1).symm (wanted_put oj a oi.dst v h1).symm,keep u,by rw[<- Act.put_comm a v u h2];exact hk⟩
 | some x=>
  simp only[hj,hs]at h ⊢
  exact⟨h.1.same (execOp_put oj hsj a oi.dst v h1).symm (wanted_put oj a oi.dst v h1).symm,fun b hb=>⟨keep _,by rw[<- Act.put_comm a v _ h2];exact h.2 b hb⟩⟩
theorem fOp_putL{i j:Nat}{oi oj:Oper}{ob:Obj}{mk:Nat->Value}(hij:i≠j)(hj:ops[j]? =some oj)(hap:oi.apart ops oj=true)(hsi: ∀cs b,oi.op≠ .select cs b)(hsj: ∀cs b,oj.op≠ .select cs b)
  {K:Act->(Nat->Option Nat)->Prop} {a:Act} {S:Nat->Option Nat} (hf: ∃b,Fresh W S b) (hSj:S j=none) (hy:LF P ops W oi ob mk a) (h: ∀b,Fresh W S b->fOp P ops W sp j K (a.put oi.dst (mk b)) (putL S i b)):
  fOp P ops W sp j (fun a' S'=>LF P ops W oi ob mk a'/\ ∀b,Fresh W S' b->K (a'.put oi.dst (mk b)) (putL S' i b)) a S:=by
 obtain⟨h1,h2,h3⟩:=Oper.apart_spec hap
 have keep: ∀u,LF P ops W oi ob mk (a.put oj.dst u):=fun u=>hy.same (execOp_put oi hsi a oj.dst u h3) (wanted_put oi a oj.dst u h3)
 obtain⟨b0,hb0⟩:=hf
 unfold fOp at*
 cases hs:sp j with
 | none=>
  simp only[hj,hs]at h ⊢
  obtain⟨u,hu,_⟩:=h b0 hb0
  have hu':YF P ops W oj u a:=hu.same (execOp_put oj hsj a oi.dst _ h1).symm (wanted_put oj a oi.dst _ h1).symm
  refine⟨u,hu',keep u,fun b hb=> ?_⟩
  obtain⟨u2,hu2,hk⟩:=h b hb
  have e:u2=u:=YF.one (hu2.same (execOp_put oj hsj a oi.dst _ h1).symm (wanted_put oj a oi.dst _ h1).symm) hu'
  subst e
  rw[<- Act.put_comm a (mk b) u2 h2]
  exact hk
 | some x=>
  simp only[hj,hs]at h ⊢
  refine⟨(h b0 hb0).1.same (execOp_put oj hsj a oi.dst _ h1).symm (wanted_put oj a oi.dst _ h1).symm,fun c hc=>⟨keep _,fun b hb=> ?_⟩⟩
  obtain⟨q1,q2⟩:=hb.of_put hSj
  have:=(h b q1).2 c (hc.put (Ne.symm q2))
  rw[tF S b c hij,Act.put_comm a (mk b) _ h2]at this
  exact this
theorem firstY{Q:Act->(Nat->Option Nat)->Prop}{i:Nat}{oi:Oper}{v:Value}(hi:ops[i]? =some oi)(hsp:sp i=none)(hsel: ∀(j:Nat) (o:Oper) cs b,ops[j]? =some o->o.op≠ .select cs b):
  ∀(fuel:Nat) (listed:Array Bool) (a:Act) (S:Nat->Option Nat),
   (∀j oj,ops[j]? =some oj->j≠i->listed.getD j true=false->(∀e ∈ oj.after,Region.binds md e=true->e.on≠i)->oi.apart ops oj=true)->
   i ∈ Region.ready md ops listed->YF P ops W oi v a->
   wpAnyF P md ops W sp Q fuel (listed.setIfInBounds i true) (a.put oi.dst v) S->wpAnyF P md ops W sp Q (fuel+1) listed a S:=by
 have go: ∀(K:Act->(Nat->Option Nat)->Prop) (a:Act) (S:Nat->Option Nat),YF P ops W oi v a->K (a.put oi.dst v) S->fOp P ops W sp i K a S:=fun K a S hy h=>by
  unfold fOp;simp only[hi,hsp];exact⟨v,hy,h⟩
 intro fuel
 induction fuel with
 | zero=>
  intro listed a S _ hr hy H
  refine⟨fun h=>(by rw[h]at hr;cases hr),fun j hj=> ?_⟩
  by_cases hji:j=i
  ·subst hji;exact go _ _ _ hy H
  ·have:=ready_mono hj hji
   rw[H.1]at this
   cases this
 | succ fuel ih=>
  intro listed a S hfree hr hy H
  refine⟨fun h=>(by rw[h]at hr;cases hr),fun j hj=> ?_⟩
  by_cases hji:j=i
  ·subst hji;exact go _ _ _ hy H
  ·have h1:=H.2 j (ready_mono hj hji)
   obtain⟨hjun,oj,hoj,hall⟩:=mem_ready.1 hj
   have hnot: ∀e ∈ oj.after,Region.binds md e=true->e.on≠i:=fun e he hb heq=>by
    have h1:=hall e he hb
    have h0:=(mem_ready.1 hr).1
    rw[heq]at h1
    rcases Nat.lt_or_ge i listed.size with h' | h'
    ·simp[h']at h0 h1;rw[h0]at h1;cases h1
    ·simp[Array.getElem?_eq_none h']at h1
   have h2:=fOp_putY hoj (hfree j oj hoj hji hjun hnot) (fun cs b=>hsel i oi cs b hi) (fun cs b=>hsel j oj cs b hoj) hy h1
   have hfree': ∀k ok,ops[k]? =some ok->k≠i->(listed.setIfInBounds j true).getD k true=false->
     (∀e ∈ ok.after,Region.binds md e=true->e.on≠i)->oi.apart ops ok=true:=fun k ok hk hki hun hno=>by
    refine hfree k ok hk hki ?_ hno
    by_cases hjk:j=k
    ·subst hjk;exact hjun
    ·rw[getD_set_ne true hjk]at hun;exact hun
   refine oW (fun a' S' h3=>ih (listed.setIfInBounds j true) a' S' hfree' (ready_mono hr (Ne.symm hji)) h3.1 ?_) h2
   rw[Array.setIfInBounds_comm _ _ hji]
   exact h3.2
theorem firstL{Q:Act->(Nat->Option Nat)->Prop}{i:Nat}{oi:Oper}{ob:Obj}{mk:Nat->Value}(hi:ops[i]? =some oi)(hsp:sp i=some (ob,mk))(hsel: ∀(j:Nat) (o:Oper) cs b,ops[j]? =some o->o.op≠ .select cs b):
  ∀(fuel:Nat) (listed:Array Bool) (a:Act) (S:Nat->Option Nat),Tidy W listed S->
   (∀j oj,ops[j]? =some oj->j≠i->listed.getD j true=false->(∀e ∈ oj.after,Region.binds md e=true->e.on≠i)->oi.apart ops oj=true)->
   i ∈ Region.ready md ops listed->LF P ops W oi ob mk a->
   (∀b,Fresh W S b->wpAnyF P md ops W sp Q fuel (listed.setIfInBounds i true) (a.put oi.dst (mk b)) (putL S i b))->wpAnyF P md ops W sp Q (fuel+1) listed a S:=by
 have go: ∀(K:Act->(Nat->Option Nat)->Prop) (a:Act) (S:Nat->Option Nat),LF P ops W oi ob mk a->(∀b,Fresh W S b->K (a.put oi.dst (mk b)) (putL S i b))->fOp P ops W sp i K a S:=fun K a S hy h=>by
  unfold fOp;simp only[hi,hsp];exact⟨hy,h⟩
 intro fuel
 induction fuel with
 | zero=>
  intro listed a S ty _ hr hy H
  refine⟨fun h=>(by rw[h]at hr;cases hr),fun j hj=> ?_⟩
  by_cases hji:j=i
  ·subst hji;exact go _ _ _ hy H
  ·obtain⟨b,hb⟩:=ty.fresh
   have:=ready_mono hj hji
   rw[(H b hb).1]at this
   cases this
 | succ fuel ih=>
  intro listed a S ty hfree hr hy H
  refine⟨fun h=>(by rw[h]at hr;cases hr),fun j hj=> ?_⟩
  by_cases hji:j=i
  ·subst hji;exact go _ _ _ hy H
  ·have h1:=fun b hb=>(H b hb).2 j (ready_mono hj hji)
   obtain⟨hjun,oj,hoj,hall⟩:=mem_ready.1 hj
   have hnot: ∀e ∈ oj.after,Region.binds md e=true->e.on≠i:=fun e he hb heq=>by
    have h1:=hall e he hb
    have h0:=(mem_ready.1 hr).1
    rw[heq]at h1
    rcases Nat.lt_or_ge i listed.size with h' | h'
    ·simp[h']at h0 h1;rw[h0]at h1;cases h1
    ·simp[Array.getElem?_eq_none h']at h1
   have hap:=hfree j oj hoj hji hjun hnot
   have hfree': ∀k ok,ops[k]? =some ok->k≠i->(listed.setIfInBounds j true).getD k true=false->
     (∀e ∈ ok.after,Region.binds md e=true->e.on≠i)->oi.apart ops ok=true:=fun k ok hk hki hun hno=>by
    refine hfree k ok hk hki ?_ hno
    by_cases hjk:j=k
    ·subst hjk;exact hjun
    ·rw[getD_set_ne true hjk]at hun;exact hun
   have h2:=fOp_putL (Ne.symm hji) hoj hap (fun cs b=>hsel i oi cs b hi) (fun cs b=>hsel j oj cs b hoj) ty.fresh (ty.1 j hjun) hy h1
   -- what j leaves is tidy
   have h4:fOp P ops W sp j (fun a' S'=>Tidy W (listed.setIfInBounds j true) S'/\LF P ops W oi ob mk a'/\ ∀b,Fresh W S' b->wpAnyF P md ops W sp Q fuel ((listed.setIfInBounds i true).setIfInBounds j true) (a'.put oi.dst (mk b)) (putL S' i b)) a S:=by
    unfold fOp at h2 ⊢
    cases hs:sp j with
    | none=>
     simp only[hoj,hs]at h2 ⊢
     obtain⟨u,hu,hk⟩:=h2
     exact⟨u,hu,ty.set j,hk⟩
    | some x=>
     simp only[hoj,hs]at h2 ⊢
     exact⟨h2.1,fun b hb=>⟨ty.lay hjun b,h2.2 b hb⟩⟩
   refine oW (fun a' S' h3=>ih (listed.setIfInBounds j true) a' S' h3.1 hfree' (ready_mono hr (Ne.symm hji)) h3.2.1 (fun b hb=> ?_)) h4
   rw[Array.setIfInBounds_comm _ _ hji]
   exact h3.2.2 b hb
def wpFree(P:Program)(ops:Array Oper)(W:World)(sp:Nat->Option (Obj × (Nat->Value)))(Q:Act->(Nat->Option Nat)->Prop):List Oper->Nat->Act->(Nat->Option Nat)->Prop
 | [],_,a,S=>Q a S
 | o :: rest,k,a,S=>
  match sp k with
  | none=> ∃v,YF P ops W o v a/\wpFree P ops W sp Q rest (k+1) (a.put o.dst v) S
  | some (ob,mk)=>LF P ops W o ob mk a/\ ∀b,Fresh W S b->wpFree P ops W sp Q rest (k+1) (a.put o.dst (mk b)) (putL S k b)
theorem fI{Q:Act->(Nat->Option Nat)->Prop}(hs:Region.noSelect ops=true): ∀(l:List Oper) (k:Nat) (listed:Array Bool) (a:Act) (S:Nat->Option Nat),(∀j,l[j]? =ops[k+j]?)->Tidy W listed S->
  Region.lexFrom md ops l.length k listed=true->wpFree P ops W sp Q l k a S->wpAnyF P md ops W sp Q l.length listed a S
 | [],_,_,_,_,_,_,hB,h=>⟨by simpa [Region.lexFrom]using hB,h⟩
 | o :: l,k,listed,a,S,hl,ty,hB,h=>by
  have h0:ops[k]? =some o:=by simpa using(hl 0).symm
  simp only[List.length_cons,Region.lexFrom,Bool.and_eq_true]at hB
  obtain⟨⟨hr,hf⟩,hB'⟩:=hB
  have hr':k ∈ Region.ready md ops listed:=by simpa using hr
  have hl': ∀j,l[j]? =ops[k+1+j]? :=fun j=>by have:=hl (j+1);simpa [Nat.add_assoc,Nat.add_comm 1 j]using this
  cases hsp:sp k with
  | none=>
   simp only[wpFree,hsp]at h
   obtain⟨v,hy,hK⟩:=h
   exact firstY h0 hsp (Region.noSelect_spec hs) l.length listed a S (Region.free_spec h0 hf) hr' hy
    (fI hs l (k+1) _ _ _ hl' (ty.set k) hB' hK)
  | some x=>
   obtain⟨ob,mk⟩:=x
   simp only[wpFree,hsp]at h
   exact firstL h0 hsp (Region.noSelect_spec hs) l.length listed a S ty (Region.free_spec h0 hf) hr' h.1
    (fun b hb=>fI hs l (k+1) _ _ _ hl' (ty.lay (mem_ready.1 hr').1 b) hB' (h.2 b hb))
theorem oX{i:Nat}{a:Act}{S:Nat->Option Nat}{K:Act->(Nat->Option Nat)->Prop}{K':Act->World->Prop}{Q':Exit->Act->World->Prop}{w:World}(hC:Has W sp S w)(h: ∀a S w',Has W sp S w'->K a S->K' a w')(hh:fOp P ops W sp i K a S):wpOp P ops Q' i K' a w:=by
 unfold fOp at hh
 unfold wpOp
 cases ho:ops[i]? with
 | none=>simp only[ho]at hh ⊢;exact h _ _ _ hC hh
 | some o=>
  cases hs:sp i with
  | none=>
   simp only[ho,hs]at hh ⊢
   obtain⟨v,hy,hk⟩:=hh
   rcases hy with⟨w1,hv⟩ | ⟨w1,rfl⟩
   ·rw[if_pos w1]
    refine .inl ?_
    unfold Oper.wp
    rw[hv w hC.1]
    exact h _ _ _ hC hk
   ·rw[if_neg (by rw[w1];exact Bool.false_ne_true)]
    exact h _ _ _ hC hk
  | some x=>
   obtain⟨ob,mk⟩:=x
   simp only[ho,hs]at hh ⊢
   obtain⟨⟨w1,hv⟩,hk⟩:=hh
   rw[if_pos w1]
   refine .inl ?_
   unfold Oper.wp
   rw[hv w hC.1]
   exact h _ _ _ (hC.lay hs) (hk _ hC.fresh)
end
theorem fOp_head{P:Program}{md:Region.Mode}{ops hd:Array Oper}{W:World}{sp:Nat->Option (Obj × (Nat->Value))}{n:Nat}(hhd: ∀i,i<n->hd[i]? =ops[i]?)(hb:backB md ops n=true){i:Nat}(hi:i<n){K:Act->(Nat->Option Nat)->Prop}{a:Act}{S:Nat->Option Nat}(h:fOp P hd W sp i K a S):fOp P ops W sp i K a S:=by
 unfold fOp at*
 rw[hhd i hi]at h
 cases ho:ops[i]? with
 | none=>rw[ho]at h;exact h
 | some o=>
  have e:Region.wanted o (yielded hd a.tmps)=Region.wanted o (yielded ops a.tmps):=by
   unfold Region.wanted
   cases hg:o.guard with
   | none=>rfl
   | some jb=>
    obtain⟨j,b⟩:=jb
    have lt:=(eX hb hi ho).2 j b hg
    show(yielded hd a.tmps j==some b)=(yielded ops a.tmps j==some b)
    unfold yielded
    rw[hhd j lt]
  simp only[ho]at h ⊢
  cases hs:sp i with
  | none=>
   simp only[hs]at h ⊢
   unfold YF at*
   rw[e]at h
   exact h
  | some x=>
   simp only[hs]at h ⊢
   unfold LF at*
   rw[e]at h
   exact h
theorem kC{P:Program}{md:Region.Mode}{ops hd:Array Oper}{W:World}{sp:Nat->Option (Obj × (Nat->Value))}{n:Nat}{g:Nat}{Q1:Act->(Nat->Option Nat)->Prop}{Q':Exit->Act->World->Prop}(hhd: ∀i,i<n->hd[i]? =ops[i]?)(hsz:hd.size=n)(hn:n<ops.size)(hb:backB md ops n=true)(hs:Region.sinkB md ops n=true)(hc:Region.chainB md ops n=true)
  (hL: ∀a S w,Has W sp S w->Q1 a S->wpAny P md ops Q' g (finA ops.size n) a w):
  ∀(fuel:Nat) (listed lh:Array Bool) (a:Act) (S:Nat->Option Nat) (w:World),Has W sp S w->HeadInv md ops n listed->lh.size=n->(∀i,i<n->lh.getD i true=listed.getD i true)->
   wpAnyF P md hd W sp Q1 fuel lh a S->wpAny P md ops Q' (fuel+g) listed a w:=by
 intro fuel
 induction fuel with
 | zero=>
  intro listed lh a S w hC inv hl he h
  have hls:n<=listed.size:=by rw[inv.size];omega
  rcases dX (by omega) hb hls with all | ⟨i,hi,hr⟩
  ·rw[Nat.zero_add,mS hn inv all]
   exact hL a S w hC h.2
  ·have:=(dV hhd hb hl hls he hi).2 hr
   rw[h.1]at this
   cases this
 | succ fuel ih=>
  intro listed lh a S w hC inv hl he h
  have hls:n<=listed.size:=by rw[inv.size];omega
  rcases dX (by omega) hb hls with all | ⟨i0,hi0,hr0⟩
  ·have no:Region.ready md hd lh=[]:=by
    rw[List.eq_nil_iff_forall_not_mem]
    intro i hi
    obtain⟨u,o,ho,_⟩:=mem_ready.1 hi
    have lt:i<n:=by rw[<- hsz];exact(Array.getElem?_eq_some_iff.1 ho).1
    rw[he i lt,all i lt]at u
    cases u
   rw[Nat.add_comm (fuel+1) g,mS hn inv all]
   exact fH g (fuel+1) _ a w (hL a S w hC (h.1 no))
  ·rw[show fuel+1+g=(fuel+g)+1 by omega]
   refine⟨fun h0=>(by rw[h0]at hr0;cases hr0),fun i hi=> ?_⟩
   have lt:i<n:=by
    by_cases c:i<n
    ·exact c
    ·exact absurd hi (tail_waits hs hc hn inv _ i0 rfl hi0 (mem_ready.1 hr0).1 i (by omega))
   have hq:=fOp_head hhd hb lt (h.2 i ((dV hhd hb hl hls he lt).2 hi))
   refine oX hC (fun a' S' w' hC' h'=>ih _ _ a' S' w' hC' (inv.set hi lt) (by simp[hl]) (fun j hj=> ?_) h') hq
   by_cases e:i=j
   ·subst e
    simp[hl,lt,show i<listed.size by omega]
   ·rw[getD_set_ne true e,getD_set_ne true e,he j hj]
theorem oY{P:Program}{id:Nat}{Q:Exit->Act->World->Prop}{a:Act}{w:World}{l:List Oper}(n:Nat)(sp:Nat->Option (Obj × (Nat->Value)))(hm:P.follows .mixedOrders=true)(hB:Region.lexB .any (l.take n).toArray=true)(hT:tailB l.toArray n=true)
  (h:wpFree P (l.take n).toArray w.drew sp (fun a' S=> ∀w',Has w.drew sp S w'->wpList P l.toArray Q (l.drop n) a' w') (l.take n) 0 a (fun _=>none)):(Code.region id l.toArray true).wp P Q a w:=by
 simp only[tailB,Bool.and_eq_true,decide_eq_true_eq]at hT
 obtain⟨⟨⟨⟨hn,hb⟩,hs⟩,hc⟩,hq⟩:=hT
 have hn':n<l.length:=by simpa using hn
 have htl:(l.take n).toArray.size=n:=by simp;omega
 have hdl:(l.drop n).length=l.toArray.size - n:=by simp
 refine wp_region_any hm ?_
 simp only[Region.lexB,Bool.and_eq_true]at hB
 have H:=fI (P:=P) (W:=w.drew) (sp:=sp) (md:=.any) hB.1 (l.take n) 0 (Array.replicate (l.take n).toArray.size false) a (fun _=>none) (by simp) ⟨fun _ _=>rfl,w.drew.heap.size,Nat.le_refl _,fun i c e=>by cases e⟩ (by simpa using hB.2) h
 have inv0:HeadInv .any l.toArray n (Array.replicate l.toArray.size false):=
  ⟨by simp,fun j oj _ hl=>(by rw[getD_replicate_false]at hl;cases hl),fun t _ ht=>getD_in (by simpa using ht) (getD_replicate_false _ _)⟩
 have:=kC (P:=P) (Q':=Q) (g:=l.toArray.size - n) (hd:=(l.take n).toArray) (ops:=l.toArray) (fun i hi=>by simp[hi]) htl hn hb hs hc
  (fun a' S' w' hC' h'=>by
   have:=wpAny_of_seq (P:=P) (md:=.any) (ops:=l.toArray) (Q':=Q) (l.drop n) n (finA l.toArray.size n) a' w' (fun j=>by simp) (by rw[hdl];exact hq) (h' w' hC')
   rwa [hdl]at this)
  (l.take n).length _ _ a (fun _=>none) w.drew ⟨Ab.refl _,fun i b e=>by cases e⟩ inv0 (by simpa using htl) (fun i hi=>by
   rw[getD_in (listed:=Array.replicate l.toArray.size false) (by simp;omega) (getD_replicate_false _ _)]
   exact getD_in (by rw[Array.size_replicate];omega) (getD_replicate_false _ _)) H
 have e:(l.take n).length+(l.toArray.size - n)=l.toArray.size:=by simp;omega
 rw[e]at this
 exact this
end
section
open Go.RowKit
def plainB:Op->Bool
 | .move _ | .assign _ | .pick _ _ _ | .build _ _ | .load _ _ | .binOp _ _ _ _ _ | .unOp _ _ _ | .convert _ _ _ | .slice _ _ _ _ _ | .fieldAddr _ _ _ | .field _ _ _ | .indexAddr _ _ _ | .index _ _ _ | .extract _ _=>true
 | _=>false
theorem val_only{P:Program}{s:Sem Value}{w w':World}{n:Next}(e:(do pure (Next.value (<- s)):Sem Next).run P w=.ok n w'): ∃x,n=.value x:=by
 rw[Sem.run_bind]at e
 cases h:s.run P w with
 | ok x w1=>
  rw[h]at e
  simp at e
  exact⟨x,e.1.symm⟩
 | halt x w1=>rw[h]at e;simp at e
theorem tG{P:Program}{α:Type}{s:Sem α}{f:α->Value}{w w':World}{n:Next}(e:((s.run P w).andThen fun x w=>Result.ok (Next.value (f x)) w)=.ok n w'): ∃x,n=.value x:=by
 cases h:s.run P w with
 | ok x w1=>
  rw[h]at e
  simp at e
  exact⟨f x,e.1.symm⟩
 | halt x w1=>rw[h]at e;simp at e
theorem oZ{P:Program}{ρ:Operand->Value}{o:Oper}{w w':World}{n:Next}(h:plainB o.op=true)(e:(execOp ρ o).run P w=.ok n w'): ∃x,n=.value x:=by
 unfold execOp at e
 cases ho:o.op<;>rw[ho]at h e<;>first | (simp[plainB]at h;done) | exact val_only e | (simp at e;first | exact⟨_,e.1.symm⟩ | exact tG (f:=fun b=>if b=true then ρ _ else ρ _) e)
section
variable {P:Program} {ops:Array Oper} {W:World} {sp:Nat->Option (Obj × (Nat->Value))} {Q:Act->(Nat->Option Nat)->Prop} {o:Oper} {rest:List Oper} {k:Nat} {a:Act} {S:Nat->Option Nat}
theorem cA{U:Type}{F:U->World}(HF:Hid (∀w',Ab W w'-> ∃u,w'=F u))(hs:sp k=none)(hp:plainB o.op=true)(h:wpQuiet P ops (fun w'=> ∃u,w'=F u) (fun a'=>wpFree P ops W sp Q rest (k+1) a' S) [o] a):wpFree P ops W sp Q (o :: rest) k a S:=by
 simp only[wpFree,hs]
 simp only[wpQuiet]at h
 by_cases c:Region.wanted o (yielded ops a.tmps)=true
 ·rw[if_pos c]at h
  obtain⟨v,h1,h2⟩:=h
  refine⟨v,.inl ⟨c,fun w hw=> ?_⟩,h2⟩
  have q:=h1 w (HF.out w hw)
  unfold Oper.quietAt at q
  cases e:(execOp a.eval o).run P w with
  | ok n w'=>
   obtain⟨x,rfl⟩:=oZ hp e
   rw[e]at q
   obtain⟨q1,q2⟩:=q
   rw[q1,q2]
  | halt x w'=>rw[e]at q;exact absurd q (by simp[Oper.quietUpon])
 ·rw[if_neg c]at h
  exact⟨undef,.inr ⟨by simpa using c,rfl⟩,h⟩
theorem cW{ob:Obj}{mk:Nat->Value}(hs:sp k=some (ob,mk))(hw:Region.wanted o (yielded ops a.tmps)=true)(hr: ∀w,Ab W w->(execOp a.eval o).run P w=.ok (.value (mk w.heap.size)) (w.alloc ob))
  (h: ∀b,Fresh W S b->wpFree P ops W sp Q rest (k+1) (a.put o.dst (mk b)) (putL S k b)):wpFree P ops W sp Q (o :: rest) k a S:=by
 simp only[wpFree,hs]
 exact⟨⟨hw,hr⟩,h⟩
theorem run_val{s:Sem Value}{w w':World}{x:Value}(h:s.run P w=.ok x w'):(do pure (Next.value (<- s)):Sem Next).run P w=.ok (.value x) w':=by
 rw[Sem.run_bind,h]
 rfl
theorem gB{t:TypeId}{x y:Operand}{vx vy:Value}{mk:Nat->Value}{ob:Obj}(ho:o.op=.makeSlice t x y)(hx:a.eval x=vx)(hy:a.eval y=vy)(M: ∀w:World,(Instr.makeSlice t vx vy).run P w=.ok (mk w.heap.size) (w.alloc ob)):
  ∀w,Ab W w->(execOp a.eval o).run P w=.ok (.value (mk w.heap.size)) (w.alloc ob):=by
 intro w _
 unfold execOp
 rw[ho]
 simp only[hx,hy]
 exact run_val (M w)
theorem tH{t:TypeId}{mk:Nat->Value}{ob:Obj}(ho:o.op=.alloc t)(M: ∀w:World,(Instr.alloc t true (.tuple #[])).run P w=.ok (mk w.heap.size) (w.alloc ob)):
  ∀w,Ab W w->(execOp a.eval o).run P w=.ok (.value (mk w.heap.size)) (w.alloc ob):=by
 intro w _
 unfold execOp
 rw[ho]
 exact run_val (M w)
theorem qL(h:Q a S):wpFree P ops W sp Q [] k a S:=h
end
theorem Has.at{W:World}{sp:Nat->Option (Obj × (Nat->Value))}{S:Nat->Option Nat}{w:World}(h:Has W sp S w){i b:Nat}{ob:Obj}{mk:Nat->Value}(e:S i=some b)(s:sp i=some (ob,mk)):w.heap[b]? =some ob/\W.heap.size<=b:=by
 obtain⟨h1,o,m,h2,h3⟩:=h.2 i b e
 rw[s]at h2
 injection h2 with h2
 injection h2 with h2
 subst h2
 exact⟨h3,h1⟩
end
section
open Go.RowKit Tf Cu Go.Deep
attribute [local go_sem] aF aG aI aJ aK aL aM aD
def lkW(i:Nat):Int:=if i=1 then 2863311530 else 1431655765
theorem ar13: ∀c,c<6->arI (ArC 1 c)=1431655765:=by decide+kernel
def LkR(w:World)(gd g4 b1 b2 b3 b4:Nat)(f:Nat->Int)(v:World):Prop:=
 Ab w v/\v.heap[g4]? =some (.cells #[.slice (some ⟨b1,0,none⟩) 6 6,.slice (some ⟨b2,0,none⟩) 6 6,.slice (some ⟨b3,0,none⟩) 6 6,.slice (some ⟨b4,0,none⟩) 12 12,.int .i64 0,.int .i64 0] 25)/\v.heap[gd]? =some (.cells #[.slice none 0 0,.slice none 0 0,.slice none 0 0,.slice none 0 0,.int .i64 0,.int .i64 0] 25)/\v.rowIs b1 47 6 (fun _=>.float .f64 0)/\v.rowIs b2 2 6 (fun i=>.int .i64 (f i))/\v.rowIs b3 2 6 (fun _=>.int .i64 0)/\v.rowIs b4 47 12 (fun _=>.float .f64 0)
def LkI(w:World)(gd g4 b1 b2 b3 b4 c:Nat)(v:World):Prop:=LkR w gd g4 b1 b2 b3 b4 (fun i=>if i<c then lkW i else 0) v
theorem LkR.to2{w:World}{gd g4 b1 b2 b3 b4:Nat}{f:Nat->Int}{v v':World}(h:LkR w gd g4 b1 b2 b3 b4 f v)(a:Ab v v'):LkR w gd g4 b1 b2 b3 b4 f v':=by
 obtain⟨h1,h2,h3,h4,h5,h6,h7⟩:=h
 exact⟨h1.trans a,a.heap h2,a.heap h3,rowIs.ab h4 a,rowIs.ab h5 a,rowIs.ab h6 a,rowIs.ab h7 a⟩
theorem LkI.to{w:World}{gd g4 b1 b2 b3 b4 c:Nat}{v v':World}(h:LkI w gd g4 b1 b2 b3 b4 c v)(a:Ab v v'):LkR w gd g4 b1 b2 b3 b4 (fun i=>if i<c then lkW i else 0) v':=LkR.to2 h a
theorem LkR.fin{w:World}{gd g4 b1 b2 b3 b4 c:Nat}{f:Nat->Int}{v:World}(h:LkR w gd g4 b1 b2 b3 b4 f v)(e: ∀i,f i=if i<c then lkW i else 0):LkI w gd g4 b1 b2 b3 b4 c v:=by
 obtain⟨h1,h2,h3,h4,h5,h6,h7⟩:=h
 exact⟨h1,h2,h3,h4,h5.congr (fun i _=>by dsimp only;rw[e i]),h6,h7⟩
theorem LkR.set{w:World}{gd g4 b1 b2 b3 b4:Nat}{f:Nat->Int}{v:World}(h:LkR w gd g4 b1 b2 b3 b4 f v)(nn:g4≠b2/\b1≠b2/\b3≠b2/\b4≠b2/\b1≠b4/\b3≠b4)(hl:gd+1<=b1/\gd+1<=b2/\gd+1<=b3/\gd+1<=b4/\gd+1<=g4)(c:Nat)(x:Int)(hw:w.heap.size<=gd):LkR w gd g4 b1 b2 b3 b4 (fun i=>if i=c then x else f i) (v.setCell ⟨b2,c,none⟩ (.int .i64 x)):=by
 obtain⟨h1,h2,h3,h4,h5,h6,h7⟩:=h
 refine⟨h1.setk (by omega) _,by rw[bH nn.1];exact h2,by rw[bH (by omega)];exact h3,h4.setOther nn.2.1 _,(h5.set c _).congr (fun i _=> ?_),h6.setOther nn.2.2.1 _,h7.setOther nn.2.2.2.1 _⟩
 by_cases e:i=c
 ·simp[e]
 ·simp[e]
end
section
open Go.RowKit Tf Cu Go.Deep
attribute [local go_sem] aF aG aI aJ aK aL aM aD
namespace Sv
theorem tI{gb:Nat}(w:World)(g:GridOf 1 gb w):
  Calls prog 14 #[.pointer (some ⟨gb,0,none⟩)] w fun e w'=> ∃b1 b2 b3 b4,e=.returned (.agg #[.slice (some ⟨b1,0,none⟩) 6 6,.slice (some ⟨b2,0,none⟩) 6 6,.slice (some ⟨b3,0,none⟩) 6 6,.slice (some ⟨b4,0,none⟩) 12 12,.int .i64 0,.int .i64 0])/\Below w.heap.size w w'/\w'.rowIs b1 47 6 (fun _=>.float .f64 0)/\w'.rowIs b2 2 6 (fun i=>.int .i64 (lkW i))/\w'.rowIs b3 2 6 (fun _=>.int .i64 0)/\w'.rowIs b4 47 12 (fun _=>.float .f64 0)/\((w.heap.size<=b1/\w.heap.size<=b2/\w.heap.size<=b3/\w.heap.size<=b4)/\b1≠b2/\b1≠b4/\b2≠b4/\b3≠b4/\b3≠b2):=by
 have CC:Hid (∀v,Ab w v->Calls prog 43 #[.pointer (some ⟨gb,0,none⟩)] v fun e w'=>e=.returned (.int .i64 6)/\w'=v):=fun v hv=>lC (g.to hv)
 have CE:Hid (∀v,Ab w v->Calls prog 44 #[.pointer (some ⟨gb,0,none⟩)] v fun e w'=>e=.returned (.int .i64 12)/\w'=v):=fun v hv=>tA (g.to hv)
 have M1: ∀v:World,(Instr.makeSlice 22 (.int .i64 6) (.int .i64 6)).run prog v=.ok (.slice (some ⟨v.heap.size,0,none⟩) 6 6) (v.alloc (Obj.cells (madeCells #[.float .f64 0] 6) 47)):=fun v=>by
  exact run_make_row' (P:=prog) 22 47 (.float .f64 0) 8 underlying22 fZ rfl .i64 .i64 6 (by omega) (by omega) v
 have M2: ∀v:World,(Instr.makeSlice 23 (.int .i64 6) (.int .i64 6)).run prog v=.ok (.slice (some ⟨v.heap.size,0,none⟩) 6 6) (v.alloc (Obj.cells (madeCells #[.int .i64 0] 6) 2)):=fun v=>by
  exact run_make_row' (P:=prog) 23 2 (.int .i64 0) 8 underlying23 mP rfl .i64 .i64 6 (by omega) (by omega) v
 have M3: ∀v:World,(Instr.makeSlice 22 (.int .i64 12) (.int .i64 12)).run prog v=.ok (.slice (some ⟨v.heap.size,0,none⟩) 12 12) (v.alloc (Obj.cells (madeCells #[.float .f64 0] 12) 47)):=fun v=>by
  exact run_make_row' (P:=prog) 22 47 (.float .f64 0) 8 underlying22 fZ rfl .i64 .i64 12 (by omega) (by omega) v
 have AL: ∀v:World,(Instr.alloc 25 true (.tuple #[])).run prog v=.ok (.pointer (some ⟨v.heap.size,0,none⟩)) (v.alloc (.cells #[.slice none 0 0,.slice none 0 0,.slice none 0 0,.slice none 0 0,.int .i64 0,.int .i64 0] 25)):=fun v=>by
  simp[go_sem]
 have A0:=bG (bl1 w (.cells #[.slice none 0 0,.slice none 0 0,.slice none 0 0,.slice none 0 0,.int .i64 0,.int .i64 0] 25))
 go_enter func14,ntmps14
 go_wp2_with fail
 refine(CC.out _ A0.out).mono ?_
 rintro e9 vq ⟨rfl,hvq⟩
 have hvq2:=hvq.symm
 subst hvq2
 go_wp2_with fail
 refine(CE.out _ A0.out).mono ?_
 rintro e9 vq ⟨rfl,hvq⟩
 have hvq2:=hvq.symm
 subst hvq2
 go_upto_region 4 with fail
 generalize hW:World.alloc w _=W at*
 go_cut [4]from 22 to 31 (fun s4 wx=> ∃g4 b1 b2 b3 b4,s4=.pointer (some ⟨g4,0,none⟩)/\Ab W wx/\wx.heap[g4]? =some (.cells #[.slice (some ⟨b1,0,none⟩) 6 6,.slice (some ⟨b2,0,none⟩) 6 6,.slice (some ⟨b3,0,none⟩) 6 6,.slice (some ⟨b4,0,none⟩) 12 12,.int .i64 0,.int .i64 0] 25)/\wx.heap[b1]? =some (Obj.cells (madeCells #[.float .f64 0] 6) 47)/\wx.heap[b2]? =some (Obj.cells (madeCells #[.int .i64 0] 6) 2)/\wx.heap[b3]? =some (Obj.cells (madeCells #[.int .i64 0] 6) 2)/\wx.heap[b4]? =some (Obj.cells (madeCells #[.float .f64 0] 12) 47)/\W.heap.size<=g4/\W.heap.size<=b1/\W.heap.size<=b2/\W.heap.size<=b3/\W.heap.size<=b4/\g4≠b1/\g4≠b2/\g4≠b3/\g4≠b4/\b1≠b2/\b1≠b3/\b1≠b4/\b2≠b3/\b2≠b4/\b3≠b4)
 case first=>
  obtain⟨UU,E,hF1,hF2⟩:=cls W.drew
  have HU:=hid hF2
  clear hF1 hF2
  refine oY 11 (fun k=>if k=1 then some ((Obj.cells (madeCells #[.float .f64 0] 6) 47),fun b=>.slice (some ⟨b,0,none⟩) 6 6)else if k=3 then some ((Obj.cells (madeCells #[.int .i64 0] 6) 2),fun b=>.slice (some ⟨b,0,none⟩) 6 6)else if k=5 then some ((Obj.cells (madeCells #[.int .i64 0] 6) 2),fun b=>.slice (some ⟨b,0,none⟩) 6 6)else if k=8 then some ((Obj.cells (madeCells #[.float .f64 0] 12) 47),fun b=>.slice (some ⟨b,0,none⟩) 12 12)else if k=10 then some ((.cells #[.slice none 0 0,.slice none 0 0,.slice none 0 0,.slice none 0 0,.int .i64 0,.int .i64 0] 25),fun b=>.pointer (some ⟨b,0,none⟩))else none) (by kernel_rfl) (by kernel_rfl) (by kernel_rfl) ?_
  simp only[List.take_succ_cons,List.take_zero]
  refine cA HU (by rfl) (by rfl) ?_
  go_big_quiet_step (with_reducible rfl)
  refine wpQuiet_nil ?_
  refine cW (ob:=(Obj.cells (madeCells #[.float .f64 0] 6) 47)) (mk:=fun b=>.slice (some ⟨b,0,none⟩) 6 6) (by rfl) (by kernel_rfl) ?_ ?_
  ·refine gB (vx:=.int .i64 6) (vy:=.int .i64 6) (ob:=(Obj.cells (madeCells #[.float .f64 0] 6) 47)) (mk:=fun b=>.slice (some ⟨b,0,none⟩) 6 6) rfl ?_ ?_ ?_
   ·rfl
   ·rfl
   ·exact M1
  intro b1 fb1
  simp only[Act.put,List.setIfInBounds_toArray,List.set_cons_succ,List.set_cons_zero]
  refine cA HU (by rfl) (by rfl) ?_
  go_big_quiet_step (with_reducible rfl)
  refine wpQuiet_nil ?_
  refine cW (ob:=(Obj.cells (madeCells #[.int .i64 0] 6) 2)) (mk:=fun b=>.slice (some ⟨b,0,none⟩) 6 6) (by rfl) (by kernel_rfl) ?_ ?_
  ·refine gB (vx:=.int .i64 6) (vy:=.int .i64 6) (ob:=(Obj.cells (madeCells #[.int .i64 0] 6) 2)) (mk:=fun b=>.slice (some ⟨b,0,none⟩) 6 6) rfl ?_ ?_ ?_
   ·rfl
   ·rfl
   ·exact M2
  intro b2 fb2
  simp only[Act.put,List.setIfInBounds_toArray,List.set_cons_succ,List.set_cons_zero]
  refine cA HU (by rfl) (by rfl) ?_
  go_big_quiet_step (with_reducible rfl)
  refine wpQuiet_nil ?_
  refine cW (ob:=(Obj.cells (madeCells #[.int .i64 0] 6) 2)) (mk:=fun b=>.slice (some ⟨b,0,none⟩) 6 6) (by rfl) (by kernel_rfl) ?_ ?_
  ·refine gB (vx:=.int .i64 6) (vy:=.int .i64 6) (ob:=(Obj.cells (madeCells #[.int .i64 0] 6) 2)) (mk:=fun b=>.slice (some ⟨b,0,none⟩) 6 6) rfl ?_ ?_ ?_
   ·rfl
   ·rfl
   ·exact M2
  intro b3 fb3
  simp only[Act.put,List.setIfInBounds_toArray,List.set_cons_succ,List.set_cons_zero]
  refine cA HU (by rfl) (by rfl) ?_
  go_big_quiet_step (with_reducible rfl)
  refine wpQuiet_nil ?_
  refine cA HU (by rfl) (by rfl) ?_
  go_big_quiet_step (with_reducible rfl)
  refine wpQuiet_nil ?_
  refine cW (ob:=(Obj.cells (madeCells #[.float .f64 0] 12) 47)) (mk:=fun b=>.slice (some ⟨b,0,none⟩) 12 12) (by rfl) (by kernel_rfl) ?_ ?_
  ·refine gB (vx:=.int .i64 12) (vy:=.int .i64 12) (ob:=(Obj.cells (madeCells #[.float .f64 0] 12) 47)) (mk:=fun b=>.slice (some ⟨b,0,none⟩) 12 12) rfl ?_ ?_ ?_
   ·rfl
   ·rfl
   ·exact M3
  intro b4 fb4
  simp only[Act.put,List.setIfInBounds_toArray,List.set_cons_succ,List.set_cons_zero]
  refine cA HU (by rfl) (by rfl) ?_
  go_big_quiet_step (with_reducible rfl)
  refine wpQuiet_nil ?_
  refine cW (ob:=(.cells #[.slice none 0 0,.slice none 0 0,.slice none 0 0,.slice none 0 0,.int .i64 0,.int .i64 0] 25)) (mk:=fun b=>.pointer (some ⟨b,0,none⟩)) (by rfl) (by kernel_rfl) ?_ ?_
  ·refine tH (ob:=(.cells #[.slice none 0 0,.slice none 0 0,.slice none 0 0,.slice none 0 0,.int .i64 0,.int .i64 0] 25)) (mk:=fun b=>.pointer (some ⟨b,0,none⟩)) rfl ?_
   ·exact AL
  intro g4 fg4
  simp only[Act.put,List.setIfInBounds_toArray,List.set_cons_succ,List.set_cons_zero]
  refine qL ?_
  intro wz hz
  have h1:=hz.at (i:=1) (b:=b1) (ob:=(Obj.cells (madeCells #[.float .f64 0] 6) 47)) (by rfl) (by rfl)
  have h2:=hz.at (i:=3) (b:=b2) (ob:=(Obj.cells (madeCells #[.int .i64 0] 6) 2)) (by rfl) (by rfl)
  have h3:=hz.at (i:=5) (b:=b3) (ob:=(Obj.cells (madeCells #[.int .i64 0] 6) 2)) (by rfl) (by rfl)
  have h4:=hz.at (i:=8) (b:=b4) (ob:=(Obj.cells (madeCells #[.float .f64 0] 12) 47)) (by rfl) (by rfl)
  have h5:=hz.at (i:=10) (b:=g4) (ob:=(.cells #[.slice none 0 0,.slice none 0 0,.slice none 0 0,.slice none 0 0,.int .i64 0,.int .i64 0] 25)) (by rfl) (by rfl)
  have n12:b1≠b2:=fb2.2 1 b1 (by rfl)
  have n13:b1≠b3:=fb3.2 1 b1 (by rfl)
  have n14:b1≠b4:=fb4.2 1 b1 (by rfl)
  have n15:b1≠g4:=fg4.2 1 b1 (by rfl)
  have n23:b2≠b3:=fb3.2 3 b2 (by rfl)
  have n24:b2≠b4:=fb4.2 3 b2 (by rfl)
  have n25:b2≠g4:=fg4.2 3 b2 (by rfl)
  have n34:b3≠b4:=fb4.2 5 b3 (by rfl)
  have n35:b3≠g4:=fg4.2 5 b3 (by rfl)
  have n45:b4≠g4:=fg4.2 8 b4 (by rfl)
  have AZ:Ab W wz:=(Ab.refl W).drew.trans hz.1
  have RZ:=hid h5.1
  have HH:=hid (And.intro h1 (And.intro h2 (And.intro h3 (And.intro h4 h5))))
  have NN:=hid (And.intro n12 (And.intro n13 (And.intro n14 (And.intro n15 (And.intro n23 (And.intro n24 (And.intro n25 (And.intro n34 (And.intro n35 n45)))))))))
  have HAZ:=hid AZ
  clear hz fb1 fb2 fb3 fb4 fg4 h1 h2 h3 h4 h5 n12 n13 n14 n15 n23 n24 n25 n34 n35 n45 AZ HU
  clear E UU
  have t0:=aE RZ.out
  have f0:=jB RZ.out
  simp only[List.drop_succ_cons,List.drop_zero]
  go_wp2_with fail
  go_meet
  obtain⟨⟨k1,l1⟩,⟨k2,l2⟩,⟨k3,l3⟩,⟨k4,l4⟩,⟨k5,l5⟩⟩:=HH.out
  obtain⟨n12,n13,n14,n15,n23,n24,n25,n34,n35,n45⟩:=NN.out
  have st: ∀(b:Nat) (o:Obj),b≠g4->wz.heap[b]? =some o-> ∀x0 x1 x2 x3 x4 x5,((((((wz.setCell ⟨g4,0,none⟩ x0).setCell ⟨g4,1,none⟩ x1).setCell ⟨g4,2,none⟩ x2).setCell ⟨g4,3,none⟩ x3).setCell ⟨g4,4,none⟩ x4).setCell ⟨g4,5,none⟩ x5).heap[b]? =some o:=fun b o hb h x0 x1 x2 x3 x4 x5=>by
   rw[bH hb,bH hb,bH hb,bH hb,bH hb,bH hb]
   exact h
  refine⟨g4,b1,b2,b3,b4,rfl,?_,gZ k5,st b1 _ n15 k1 _ _ _ _ _ _,st b2 _ n25 k2 _ _ _ _ _ _,st b3 _ n35 k3 _ _ _ _ _ _,st b4 _ n45 k4 _ _ _ _ _ _,l5,l1,l2,l3,l4,Ne.symm n15,Ne.symm n25,Ne.symm n35,Ne.symm n45,n12,n13,n14,n23,n24,n34⟩
  exact(((((HAZ.out.setk l5 _).setk l5 _).setk l5 _).setk l5 _).setk l5 _).setk l5 _
 case rest=>
  obtain⟨g4,b1,b2,b3,b4,rfl,a4,r4,m1,m2,m3,m4,l5,l1,l2,l3,l4,n51,n52,n53,n54,n12,n13,n14,n23,n24,n34⟩:=hcut
  obtain⟨gd,hgd⟩:=aB w.heap.size
  have HL:Hid (gd+1<=b1/\gd+1<=b2/\gd+1<=b3/\gd+1<=b4/\gd+1<=g4):=by
   rw[<- hW,size1]at l1 l2 l3 l4 l5
   rw[<- hgd]
   exact⟨l1,l2,l3,l4,l5⟩
  have NN:Hid (g4≠b2/\b1≠b2/\b3≠b2/\b4≠b2/\b1≠b4/\b3≠b4):=⟨n52,n12,Ne.symm n23,Ne.symm n24,n14,n34⟩
  have ZR:Hid (W.heap[gd]? =some (.cells #[.slice none 0 0,.slice none 0 0,.slice none 0 0,.slice none 0 0,.int .i64 0,.int .i64 0] 25)):=by rw[<- hW,<- hgd];exact heap_alloc_new _ _
  have AWW:Hid (Ab w W):=A0.out
  have FI:=hid (show LkI w gd g4 b1 b2 b3 b4 0 wc from⟨AWW.out.trans a4,r4,Ab.heap a4 ZR.out,dK m1,(dK m2).congr (fun i _=>by simp),dK m3,dK m4⟩)
  have HG:=hid g
  have HN:Hid (w.heap.size=gd):=hgd
  rw[hgd]
  clear a4 r4 m1 m2 m3 m4 l1 l2 l3 l4 l5 n51 n52 n53 n54 n12 n13 n14 n23 n24 n34 hgd hW ZR AWW g CC CE M1 M2 M3 AL A0
  go_wp2
  go_loopw [5] (fun iv wr=> ∃c:Nat,c<=6/\iv=.int .i64 (c:Nat)/\LkI w gd g4 b1 b2 b3 b4 c wr) (fun iv _=>6 - (intOf iv).toNat)
  case atStart=>exact⟨0,by omega,rfl,FI.out⟩
  case round=>
   obtain⟨c,hc,rfl,F⟩:=hrel
   clear FI
   have FF:=hid F
   clear F
   by_cases hc6:c<6
   ·have hc':(c:Int)<6:=by omega
    have HC6:=hid hc6
    have AR:Hid (∀v,Ab w v->Calls prog 45 #[.pointer (some ⟨gb,0,none⟩),.int .i64 (c:Nat)] v fun e w'=>e=.returned (.int .i64 1431655765)/\Below v.heap.size v w'):=fun v hv=>by
     have h:=gArea_ok (n:=1) (by decide) hc6 (HG.out.to hv)
     rwa [ar13 c hc6]at h
    clear hc6
    go_upto_region 8 with fail
    obtain⟨UU,E,hF1,hF2⟩:=cls wr
    have HU:=hid hF2
    have HU1:=hid hF1
    have x1: ∀u,(E u).cell? ⟨g4,1,none⟩=some (.slice (some ⟨b2,0,none⟩) 6 6):=fun u=>aA 1 (FF.out.to (hF1 u)).2.1
    have HX:Hid (∀u,Ab w (E u)):=fun u=>(FF.out.to (hF1 u)).1
    have DD0:=HU.out _ (Ab.refl wr).drew
    clear hF1 hF2
    refine iH 7 E (by kernel_rfl) (by kernel_rfl) (by kernel_rfl) DD0 ?_
    simp only[List.take_succ_cons,List.take_zero,List.drop_succ_cons,List.drop_zero]
    repeat(go_big_quiet_step (first
     | (with_reducible rfl)
     | (go_at_call 45;exact aP HU HU1 (AR.out _ (HX.out _)))))
    refine wpQuiet_nil ?_
    intro vz hwz
    obtain⟨u0,hu⟩:=hwz
    have AZ:Hid (Ab wr vz):=by rw[hu];exact HU1.out u0
    clear hu u0
    clear HU HU1 HX DD0 x1
    clear E UU
    have FZ:=hid (FF.out.to AZ.out)
    have z1:=FZ.out.2.2.2.2.1.cell HC6.out
    have z2:=FZ.out.2.2.2.2.1.frozen c
    go_upto_region 9 with fail
    have F2:=hid (FZ.out.set NN.out HL.out c 1431655765 (by rw[HN.out];exact Nat.le_refl _))
    clear z1 z2 FZ FF AZ
    generalize World.setCell vz _ _=v2 at*
    by_cases c1:c=1
    ·subst c1
     have y1:=aA 1 F2.out.2.1
     have p1:v2.cell? ⟨b2,1,none⟩=some (.int .i64 1431655765):=by rw[F2.out.2.2.2.2.1.cell HC6.out];simp
     have p2:=F2.out.2.2.2.2.1.frozen 1
     go_upto_region 10 with fail
     clear y1 p1 p2
     obtain⟨UU,E,hF1,hF2⟩:=cls v2
     have HU:=hid hF2
     have HU1:=hid hF1
     have x1: ∀u,(E u).cell? ⟨g4,1,none⟩=some (.slice (some ⟨b2,0,none⟩) 6 6):=fun u=>aA 1 ((hF1 u).heap F2.out.2.1)
     have x2: ∀u,(E u).cell? ⟨b2,1,none⟩=some (.int .i64 1431655765):=fun u=>by rw[(rowIs.ab F2.out.2.2.2.2.1 (hF1 u)).cell HC6.out];simp
     have DD0:=HU.out _ (Ab.refl v2).drew
     clear hF1 hF2
     refine iH 10 E (by kernel_rfl) (by kernel_rfl) (by kernel_rfl) DD0 ?_
     simp only[List.take_succ_cons,List.take_zero,List.drop_succ_cons,List.drop_zero]
     repeat(go_big_quiet_step (with_reducible rfl))
     refine wpQuiet_nil ?_
     intro vz hwz
     obtain⟨u0,hu⟩:=hwz
     have AZ:Hid (Ab v2 vz):=by rw[hu];exact HU1.out u0
     clear hu u0
     clear HU HU1 DD0 x1 x2
     clear E UU
     have F3:=hid (F2.out.to2 AZ.out)
     have z1:=F3.out.2.2.2.2.1.cell HC6.out
     have z2:=F3.out.2.2.2.2.1.frozen 1
     go_wp2
     refine⟨⟨2,by omega,by simp,?_⟩,by simp[intOf]⟩
     exact(F3.out.set NN.out HL.out 1 2863311530 (by rw[HN.out];exact Nat.le_refl _)).fin (fun i=>by
      by_cases e:i=1
      ·simp[e,lkW]
      ·by_cases e2:i<1
       ·have:i<2:=by omega
        simp[e,e2,this]
       ·have: ¬i<2:=by omega
        simp[e,e2,this])
    ·have c2:((c:Int)==1)=false:=by rw[beq_eq_false_iff_ne];omega
     go_wp2
     refine⟨⟨c+1,by have:=HC6.out;omega,by simp,?_⟩,by simp[intOf];have:=HC6.out;omega⟩
     exact F2.out.fin (fun i=>by
      by_cases e:i=c
      ·subst e
       simp[lkW,c1]
      ·by_cases l:i<c
       ·simp[e,l,show i<c+1 by omega]
       ·simp[e,l,show¬i<c+1 by omega])
   ·have e6:c=6:=by omega
    subst e6
    obtain⟨s0,s1,s2,s3,s4,s5⟩:=aE FF.out.2.1
    have RZ:=FF.out.2.2.1
    have t0:=aE RZ
    have f0:=jB RZ
    have ROW:=hid (gZ (x:=.slice (some ⟨b1,0,none⟩) 6 6) (y:=.slice (some ⟨b2,0,none⟩) 6 6) (z:=.slice (some ⟨b3,0,none⟩) 6 6) (p:=.slice (some ⟨b4,0,none⟩) 12 12) (q:=.int .i64 0) (r:=.int .i64 0) RZ)
    clear RZ
    go_wp2
    have BN:Hid (b1≠gd/\b2≠gd/\b3≠gd/\b4≠gd):=by
     have:=HL.out
     exact⟨by omega,by omega,by omega,by omega⟩
    have G1:=FF.out.2.2.2.1
    have G2:=FF.out.2.2.2.2.1
    have G3:=FF.out.2.2.2.2.2.1
    have G4:=FF.out.2.2.2.2.2.2
    have GA:=FF.out.1
    refine bodyPost_ret ?_ rfl ⟨b1,b2,b3,b4,rfl,?_,?_,?_,?_,?_,?_⟩
    ·exact results_cell_row results14 _ _ gd _ _ (0,0) _ rfl ROW.out underlying25 rfl (by kernel_rfl)
    ·exact(((((GA.setk (by rw[HN.out];omega) _).setk (by rw[HN.out];omega) _).setk (by rw[HN.out];omega) _).setk (by rw[HN.out];omega) _).setk (by rw[HN.out];omega) _).setk (by rw[HN.out];omega) _
    ·exact(((((G1.setOther BN.out.1 _).setOther BN.out.1 _).setOther BN.out.1 _).setOther BN.out.1 _).setOther BN.out.1 _).setOther BN.out.1 _
    ·exact((((((G2.congr (fun i hi=>by simp[hi])).setOther BN.out.2.1 _).setOther BN.out.2.1 _).setOther BN.out.2.1 _).setOther BN.out.2.1 _).setOther BN.out.2.1 _).setOther BN.out.2.1 _
    ·exact(((((G3.setOther BN.out.2.2.1 _).setOther BN.out.2.2.1 _).setOther BN.out.2.2.1 _).setOther BN.out.2.2.1 _).setOther BN.out.2.2.1 _).setOther BN.out.2.2.1 _
    ·exact(((((G4.setOther BN.out.2.2.2 _).setOther BN.out.2.2.2 _).setOther BN.out.2.2.2 _).setOther BN.out.2.2.2 _).setOther BN.out.2.2.2 _).setOther BN.out.2.2.2 _
    ·have:=HL.out
     exact⟨⟨by rw[HN.out];omega,by rw[HN.out];omega,by rw[HN.out];omega,by rw[HN.out];omega⟩,NN.out.2.1,NN.out.2.2.2.2.1,Ne.symm NN.out.2.2.2.1,NN.out.2.2.2.2.2,NN.out.2.2.1⟩
end Sv
end
section
open Go.RowKit Go.Deep
theorem rowIs.fl{w:World}{b n:Nat}{f:Nat->Nat}(h:w.rowIs b 47 n (fun i=>.float .f64 (f i)))(hf: ∀i,i<n->f i<18446744073709551616):IsFl w (some ⟨b,0,none⟩) n f:=fun k hk=>⟨hf k hk,b,0,rfl,h.lt,by rw[Nat.zero_add];exact h.cell hk⟩
end
section
open Go.RowKit Tf Cu
theorem IsFl.at0{w:World}{b o len:Nat}{xs:Nat->Nat}(h:IsFl w (some ⟨b,o,none⟩) len xs){k:Nat}(hk:k<len):xs k<18446744073709551616/\b<w.heap.size/\w.cell? ⟨b,o+k,none⟩=some (.float .f64 (xs k)):=by
 obtain⟨h1,b',o',e,h2,h3⟩:=h k hk
 injection e with e1
 injection e1 with e2 e3
 subst e2 e3
 exact⟨h1,h2,h3⟩
theorem IsFl.some0{w:World}{a0:Option Addr}{len:Nat}{xs:Nat->Nat}(h:IsFl w a0 len xs)(h0:0<len): ∃b o,a0=some ⟨b,o,none⟩:=by
 obtain⟨_,b,o,e,_⟩:=h 0 h0
 exact⟨b,o,e⟩
end
section
open Tf Ieee
def ps(a:Nat):Bool:=decide (0<a/\a<=9218868437227405312)
def op(x:Nat):Nat:=if x=0 then 0 else x+9223372036854775808
end
section
open Go.RowKit Tf Cu Go.Deep
theorem lG(pa pb:Option Addr)(len ca cb:Nat)(xs:Nat->Int)(w:World)(hl:len<=281474976710656)(hA:IsIn w pa len xs)(hB:IsIn w pb len xs):
  Calls prog 33 #[.slice pa len ca,.slice pb len cb] w fun e w'=>e=.returned (.bool true)/\Below w.heap.size w w':=by
 have HA:=hid hA
 have HB:=hid hB
 have HL:=hid hl
 clear hA hB hl
 go_enter func33,ntmps33
 go_wp2
 go_loopw [5] (fun iv wr=> ∃c:Nat,c<=len/\iv=.int .i64 (c:Nat)/\Ab w wr) (fun iv _=>len - (intOf iv).toNat)
 case atStart=>exact⟨0,by omega,rfl,Ab.refl w⟩
 case round=>
  obtain⟨c,hc,rfl,ar⟩:=hrel
  have AR:=hid ar
  clear ar
  by_cases h:c<len
  ·have HC:=hid h
   obtain⟨x,hx⟩:=aB (xs c)
   obtain⟨-,b1,o1,e1,l1,c1⟩:=HA.out c h
   obtain⟨-,b2,o2,e2,l2,c2⟩:=HB.out c h
   rw[hx]at c1 c2
   have C1:=hid c1
   have C2:=hid c2
   have L1:=hid l1
   have L2:=hid l2
   have hcI:(c:Int)<len:=by omega
   have hcB:(c:Int)<=281474976710656:=by have:=HL.out;omega
   clear c1 c2 l1 l2 hx h
   subst e1 e2
   go_upto_region 6 with fail
   obtain⟨UU,E,hF1,hF2⟩:=cls wr
   have HU:=hid hF2
   have HU1:=hid hF1
   have x1: ∀u,(E u).cell? ⟨b1,o1+c,none⟩=some (.int .i64 x):=fun u=>(Below.cell (AR.out.trans (hF1 u)) L1.out).trans C1.out
   have x2: ∀u,(E u).cell? ⟨b2,o2+c,none⟩=some (.int .i64 x):=fun u=>(Below.cell (AR.out.trans (hF1 u)) L2.out).trans C2.out
   have DD0:=HU.out _ (Ab.refl wr).drew
   clear hF1 hF2
   refine aR E (by kernel_rfl) (by kernel_rfl) DD0 ?_
   repeat(go_big_quiet_step (with_reducible rfl))
   refine wpQuiet_nil ?_
   intro z hwz
   obtain⟨u0,hu⟩:=hwz
   have AZ:Hid (Ab w z):=by rw[hu];exact AR.out.trans (HU1.out u0)
   clear hu u0
   clear HU HU1 DD0 x1 x2
   clear E UU
   go_wp2
   go_roundw
   case rel=>exact⟨c+1,by have:=HC.out;omega,by simp,AZ.out⟩
   case measure=>simp[intOf];have:=HC.out;omega
  ·have e:len=c:=by omega
   subst e
   go_wp2
   go_ret
   exact⟨rfl,AR.out⟩
end
section
open Go.RowKit Tf Cu Go.Deep
attribute [local go_sem] aF aG aI aJ aK aL aM aD
theorem pA(pa pb:Option Addr)(len ca cb:Nat)(xs:Nat->Nat)(w:World)(hl:len<=281474976710656)(hA:IsFl w pa len xs)(hB:IsFl w pb len xs):
  Calls prog 32 #[.slice pa len ca,.slice pb len cb] w fun e w'=>e=.returned (.bool true)/\Below w.heap.size w w':=by
 have SS:Hid (∀(x:Nat) (v:World),Calls prog 62 #[.float .f64 x,.float .f64 x] v fun e w'=>e=.returned (.bool true)/\Below v.heap.size v w'):=fun x v=>by
  have h:=nX x x v
  rw[show sameB x x=true by unfold sameB;exact decide_eq_true rfl]at h
  exact h.mono fun _ _ ⟨he,hw⟩=>⟨he,by rw[hw];exact Below.refl _ _⟩
 have HA:=hid hA
 have HB:=hid hB
 have HL:=hid hl
 clear hA hB hl
 go_enter func32,ntmps32
 go_wp2
 go_loopw [5] (fun iv wr=> ∃c:Nat,c<=len/\iv=.int .i64 (c:Nat)/\Ab w wr) (fun iv _=>len - (intOf iv).toNat)
 case atStart=>exact⟨0,by omega,rfl,Ab.refl w⟩
 case round=>
  obtain⟨c,hc,rfl,ar⟩:=hrel
  have AR:=hid ar
  clear ar
  by_cases h:c<len
  ·have HC:=hid h
   obtain⟨x,hx⟩:=aB (xs c)
   obtain⟨-,b1,o1,e1,l1,c1⟩:=HA.out c h
   obtain⟨-,b2,o2,e2,l2,c2⟩:=HB.out c h
   rw[hx]at c1 c2
   have C1:=hid c1
   have C2:=hid c2
   have L1:=hid l1
   have L2:=hid l2
   have hcI:(c:Int)<len:=by omega
   have hcB:(c:Int)<=281474976710656:=by have:=HL.out;omega
   clear c1 c2 l1 l2 hx h
   subst e1 e2
   go_upto_region 6 with fail
   obtain⟨UU,E,hF1,hF2⟩:=cls wr
   have HU:=hid hF2
   have HU1:=hid hF1
   have x1: ∀u,(E u).cell? ⟨b1,o1+c,none⟩=some (.float .f64 x):=fun u=>(Below.cell (AR.out.trans (hF1 u)) L1.out).trans C1.out
   have x2: ∀u,(E u).cell? ⟨b2,o2+c,none⟩=some (.float .f64 x):=fun u=>(Below.cell (AR.out.trans (hF1 u)) L2.out).trans C2.out
   have DD0:=HU.out _ (Ab.refl wr).drew
   clear hF1 hF2
   refine aR E (by kernel_rfl) (by kernel_rfl) DD0 ?_
   repeat(go_big_quiet_step (first
    | (with_reducible rfl)
    | (go_at_call 62;exact aP HU HU1 (SS.out _ _))))
   refine wpQuiet_nil ?_
   intro z hwz
   obtain⟨u0,hu⟩:=hwz
   have AZ:Hid (Ab w z):=by rw[hu];exact AR.out.trans (HU1.out u0)
   clear hu u0
   clear HU HU1 DD0 x1 x2
   clear E UU
   go_wp2
   go_roundw
   case rel=>exact⟨c+1,by have:=HC.out;omega,by simp,AZ.out⟩
   case measure=>simp[intOf];have:=HC.out;omega
  ·have e:len=c:=by omega
   subst e
   go_wp2
   go_ret
   exact⟨rfl,AR.out⟩
end
section
open Go.RowKit Tf Cu Go.Deep
namespace Spl
def lo(N P k:Nat):Nat:=k*N/P
def hs(l:Nat)(f:Nat->Int)(c:Nat):Bool:=(List.range l).any fun i=>f i==(c:Int)
end Spl
end
section
open Go.RowKit Tf Cu Go.Deep
def OwnG(B:Nat)(v:Value)(l:List Nat)(w:World):Prop:=w.ownsRow B 47 1 v l.length (l.map (Value.float .f64))
theorem OwnG.fl{B:Nat}{v:Value}{l:List Nat}{w:World}(h:OwnG B v l w)(hl: ∀x ∈ l,x<18446744073709551616): ∃a0 cap,v=.slice a0 l.length cap/\IsFl w a0 l.length (fun j=>l.getD j 0):=by
 rcases h.2 with⟨rfl,h0⟩ | ⟨g,cap,cur,rfl,hb,hg,h1,h2,h3,h4⟩
 ·exact⟨none,0,by rw[h0],fun k hk=>by omega⟩
 ·refine⟨some ⟨g,0,none⟩,cap,rfl,fun k hk=> ?_⟩
  have hx:l.getD k 0=l[k]:=by simp[List.getD,hk]
  refine⟨by dsimp only;rw[hx];exact hl _ (List.getElem_mem _),g,0,rfl,lt_of_block hg,?_⟩
  have e:=h.cells (g:=g) rfl k (.float .f64 (l.getD k 0)) (by simp[hk])
  rw[tE]at e
  exact e
theorem info_g: ∃i,Tryz.prog.info? 47=some i/\i.zero=some (.float .f64 0)/\i.size=1/\i.bytes=8:=by
 have h:=fZ
 cases e:Tryz.prog.info? 47 with
 | none=>rw[e]at h;cases h
 | some i=>
  rw[e]at h
  simp at h
  exact⟨i,rfl,h.1,h.2.1,h.2.2⟩
end
section
open Go.RowKit Go.Deep
namespace Sh
def IsI(w:World)(a0:Option Addr)(len:Nat)(xs:Nat->Int):Prop:= ∀k,k<len->(-9223372036854775808<=xs k/\xs k<=9223372036854775807)/\ ∃b o,a0=some ⟨b,o,none⟩/\b<w.heap.size/\w.cell? ⟨b,o+k,none⟩=some (.int .i64 (xs k))
theorem IsI.below{w w':World}{a0:Option Addr}{len:Nat}{xs:Nat->Int}(h:IsI w a0 len xs)(hb:Below w.heap.size w w'):IsI w' a0 len xs:=by
 intro k hk
 obtain⟨h1,b,o,h2,h3,h4⟩:=h k hk
 exact⟨h1,b,o,h2,Nat.lt_of_lt_of_le h3 hb.size,(Below.cell hb h3).trans h4⟩
theorem IsI.some0{w:World}{a0:Option Addr}{len:Nat}{xs:Nat->Int}(h:IsI w a0 len xs)(h0:0<len): ∃b o,a0=some ⟨b,o,none⟩:=by
 obtain⟨_,b,o,h2,_⟩:=h 0 h0
 exact⟨b,o,h2⟩
theorem IsI.at0{w:World}{b o len k:Nat}{xs:Nat->Int}(h:IsI w (some ⟨b,o,none⟩) len xs)(hk:k<len):(-9223372036854775808<=xs k/\xs k<=9223372036854775807)/\b<w.heap.size/\w.cell? ⟨b,o+k,none⟩=some (.int .i64 (xs k)):=by
 obtain⟨h1,b',o',h2,h3,h4⟩:=h k hk
 cases h2
 exact⟨h1,h3,h4⟩
theorem dY(b off j:Nat):(⟨b,off,none⟩:Addr).add j=⟨b,off+j,none⟩:=by unfold Addr.add;split<;>simp_all
theorem dF{w:World}{b n:Nat}{f:Nat->Int}(h:w.rowIs b 2 n (fun i=>.int .i64 (f i)))(hf: ∀i,i<n-> -9223372036854775808<=f i/\f i<=9223372036854775807):IsI w (some ⟨b,0,none⟩) n f:=fun k hk=>⟨hf k hk,b,0,rfl,h.lt,by rw[Nat.zero_add];exact h.cell hk⟩
theorem eJ{w w':World}{b:Nat}{t:TypeId}{n:Nat}{f:Nat->Value}(h:w.rowIs b t n f)(a:Ab w w'):w'.rowIs b t n f:=h.of_block (Below.block a _ h.lt)
theorem mP:(Tryz.prog.info? 2).map (fun i=>(i.zero,i.size,i.bytes))=some (some (.int .i64 0),1,8):=by kernel_rfl
def Own(B:Nat)(v:Value)(l:List Int)(w:World):Prop:=w.ownsRow B 2 1 v l.length (l.map (Value.int .i64))
theorem Own.in{B:Nat}{v:Value}{l:List Int}{w:World}(h:Own B v l w)(hl: ∀x ∈ l,-9223372036854775808<=x/\x<=9223372036854775807): ∃a0 cap,v=.slice a0 l.length cap/\IsI w a0 l.length (fun j=>l.getD j 0):=by
 rcases h.2 with⟨rfl,h0⟩ | ⟨g,cap,cur,rfl,hb,hg,h1,h2,h3,h4⟩
 ·exact⟨none,0,by rw[h0],fun k hk=>by omega⟩
 ·refine⟨some ⟨g,0,none⟩,cap,rfl,fun k hk=> ?_⟩
  have hx:l.getD k 0=l[k]:=by simp[List.getD,hk]
  refine⟨by dsimp only;rw[hx];exact hl _ (List.getElem_mem _),g,0,rfl,lt_of_block hg,?_⟩
  have e:=h.cells (g:=g) rfl k (.int .i64 (l.getD k 0)) (by simp[hk])
  rw[dY]at e
  exact e
theorem Own.new(w:World)(B:Nat):Own B (.slice none 0 0) [] w:=⟨by simp,.inl ⟨rfl,rfl⟩⟩
theorem info_i: ∃i,Tryz.prog.info? 2=some i/\i.zero=some (.int .i64 0)/\i.size=1/\i.bytes=8:=by
 have h:=mP
 cases e:Tryz.prog.info? 2 with
 | none=>rw[e]at h;cases h
 | some i=>
  rw[e]at h
  simp at h
  exact⟨i,rfl,h.1,h.2.1,h.2.2⟩
def Abo(V:World)(g:Nat)(w:World):Prop:=w.os=V.os/\w.tape=V.tape/\w.output=V.output/\V.heap.size<=w.heap.size/\ ∀k,k<V.heap.size->k≠g->w.heap[k]? =V.heap[k]?
theorem Abo.refl(V:World)(g:Nat):Abo V g V:=⟨rfl,rfl,rfl,Nat.le_refl _,fun _ _ _=>rfl⟩
theorem Own.alloc{B:Nat}{v:Value}{l:List Int}{w:World}(h:Own B v l w)(O:Obj):Own B v l (w.alloc O):=World.ownsRow.alloc h O
theorem aX{ops:Array Oper}{rest:List Oper}{o:Oper}{a:Act}{w:World}{Q:Exit->Act->World->Prop}(hgd:o.guard=none)(s x:Operand)
  (ho:o.op=.call {callee:=.builtin .append,args:= #[s,x],argTypes:= #[23,23]})
  (B:Nat) (v:Value) (l:List Int) (hs:a.eval s=v) (hown:Own B v l w)
  (ad:Addr) (m c:Nat) (news:List Int) (hx:a.eval x=.slice (some ad) m c) (hl:news.length=m) (hnews: ∀j u,(news.map (Value.int .i64))[j]? =some u->w.cell? (ad.add j)=some u)
  (hm:0<m) (hlen:l.length+m<=1048576) (hB:B<=w.heap.size) (nm:Nat) (hnm:l.length+m=nm)
  (h: ∀g cap w',Own B (.slice (some ⟨g,0,none⟩) nm cap) (l++news) w'->w.grownBy w' v.ownBlock->(v.ownBlock=some g\/g=w.heap.size)->B<=g->wpList prog ops Q rest (a.put o.dst (.slice (some ⟨g,0,none⟩) nm cap)) w'):wpList prog ops Q (o :: rest) a w:=by
 subst hnm
 obtain⟨i0,hi,hz0,hz1,hz2⟩:=info_i
 refine wpList_append_lies w hgd s x _ ho B 2 i0 (.int .i64 0) 1 8 underlying23 hi hz0 hz1 hz2 rfl (by decide) v l.length (l.map (Value.int .i64)) hs hown ad m c (news.map (Value.int .i64)) hx (by simpa using hl) hnews (fun u hu=>by
  obtain⟨y,_,rfl⟩:=List.mem_map.1 hu
  rfl) hm (by unfold maxLen;omega) (by omega) hB _ rfl ?_
 intro g cap w' o1 g1 e1 _
 have hb:B<=g:=by
  rcases o1.2 with⟨q,_⟩ | ⟨g2,_,_,q,hb,_⟩
  ·cases q
  ·injection q with q1 q2 q3
   injection q1 with q4
   injection q4 with q5
   omega
 refine h g cap w' ?_ g1 e1 hb
 unfold Own
 rw[List.length_append,List.map_append,hl]
 exact o1
end Sh
end
section
open Go.RowKit Tf Cu Go.Deep
namespace Spl
def wi(l:Nat)(f:Nat->Int)(N:Nat):Prop:= ∀i,i<l->0<=f i/\f i<(N:Int)
end Spl
end
section
open Go.RowKit Tf Cu Go.Deep
attribute [local go_sem] aF aG aI aJ aK aL aM aD
namespace Sv
theorem hH(pb:Option Addr)(lb cb:Nat)(B:Nat->Nat)(pw:Option Addr)(lw cw:Nat)(W:Nat->Int)(pt:Option Addr)(lt ct:Nat)(T:Nat->Int)(ps:Option Addr)(ls cs:Nat)(S:Nat->Nat)(sky st:Int)(pb':Option Addr)(cb':Nat)(pw':Option Addr)(cw':Nat)(pt':Option Addr)(ct':Nat)(ps':Option Addr)(cs':Nat)(w:World)(hl:lb<=281474976710656/\lw<=281474976710656/\lt<=281474976710656/\ls<=281474976710656)(i1:IsFl w pb lb B)(i2:Sh.IsI w pw lw W)(i3:Sh.IsI w pt lt T)(i4:IsFl w ps ls S)(j1:IsFl w pb' lb B)(j2:Sh.IsI w pw' lw W)(j3:Sh.IsI w pt' lt T)(j4:IsFl w ps' ls S):
  Calls prog 10 #[.agg #[.slice pb lb cb,.slice pw lw cw,.slice pt lt ct,.slice ps ls cs,.int .i64 sky,.int .i64 st],.agg #[.slice pb' lb cb',.slice pw' lw cw',.slice pt' lt ct',.slice ps' ls cs',.int .i64 sky,.int .i64 st]] w fun e w'=>e=.returned (.bool true)/\Below w.heap.size w w':=by
 have HL:=hid hl
 have I1:=hid i1
 have I2:=hid i2
 have I3:=hid i3
 have I4:=hid i4
 have J1:=hid j1
 have J2:=hid j2
 have J3:=hid j3
 have J4:=hid j4
 clear hl i1 i2 i3 i4 j1 j2 j3 j4
 obtain⟨A0,R0,Q0⟩:=box_two w (.cells #[.slice pb lb cb,.slice pw lw cw,.slice pt lt ct,.slice ps ls cs,.int .i64 sky,.int .i64 st] 25) (.cells #[.slice pb' lb cb',.slice pw' lw cw',.slice pt' lt ct',.slice ps' ls cs',.int .i64 sky,.int .i64 st] 25)
 go_enter func10,ntmps10
 go_upto_region 1 with fail
 generalize hW:World.alloc (World.alloc w _) _=v0 at*
 obtain⟨ga,hga⟩:=aB w.heap.size
 obtain⟨gq,hgq⟩:=aB (w.heap.size+1)
 rw[hgq]at Q0 ⊢
 rw[hga]at R0 ⊢
 clear hga hgq hW
 have x0:=aE R0.out
 have y0:=aE Q0.out
 have CC:=hid (pA pb pb' lb cb cb' B v0 HL.out.1 (I1.out.below A0.out) (J1.out.below A0.out))
 go_wp2_with fail
 refine CC.out.mono ?_
 rintro e9 v1 ⟨rfl,k9⟩
 have B1:Hid (Ab v0 v1):=k9
 have A1:Hid (Ab w v1):=A0.out.trans B1.out
 clear k9 CC x0 y0
 have x0:=aE (B1.out.heap R0.out)
 have y0:=aE (B1.out.heap Q0.out)
 have CC:=hid (pA ps ps' ls cs cs' S v1 HL.out.2.2.2 (I4.out.below A1.out) (J4.out.below A1.out))
 go_wp2_with fail
 refine CC.out.mono ?_
 rintro e9 v2 ⟨rfl,k9⟩
 have B2:Hid (Ab v0 v2):=B1.out.call k9
 have A2:Hid (Ab w v2):=A0.out.trans B2.out
 clear k9 CC x0 y0
 have x0:=aE (B2.out.heap R0.out)
 have y0:=aE (B2.out.heap Q0.out)
 have CC:=hid (lG pw pw' lw cw cw' W v2 HL.out.2.1 (I2.out.below A2.out) (J2.out.below A2.out))
 go_wp2_with fail
 refine CC.out.mono ?_
 rintro e9 v3 ⟨rfl,k9⟩
 have B3:Hid (Ab v0 v3):=B2.out.call k9
 have A3:Hid (Ab w v3):=A0.out.trans B3.out
 clear k9 CC x0 y0
 have x0:=aE (B3.out.heap R0.out)
 have y0:=aE (B3.out.heap Q0.out)
 have CC:=hid (lG pt pt' lt ct ct' T v3 HL.out.2.2.1 (I3.out.below A3.out) (J3.out.below A3.out))
 go_wp2_with fail
 refine CC.out.mono ?_
 rintro e9 v4 ⟨rfl,k9⟩
 have B4:Hid (Ab v0 v4):=B3.out.call k9
 have A4:Hid (Ab w v4):=A0.out.trans B4.out
 clear k9 CC x0 y0
 have x0:=aE (B4.out.heap R0.out)
 have y0:=aE (B4.out.heap Q0.out)
 go_wp2
 go_ret
 exact⟨rfl,A4.out⟩
theorem iV(w:World)(f:Nat->Nat):IsFl w none 0 f:=fun k hk=>absurd hk (Nat.not_lt_zero k)
theorem iW(w:World)(f:Nat->Int):Sh.IsI w none 0 f:=fun k hk=>absurd hk (Nat.not_lt_zero k)
theorem tJ(w:World):
  Calls prog 10 #[.agg #[.slice none 0 0,.slice none 0 0,.slice none 0 0,.slice none 0 0,.int .i64 0,.int .i64 0],.agg #[.slice none 0 0,.slice none 0 0,.slice none 0 0,.slice none 0 0,.int .i64 0,.int .i64 0]] w fun e w'=>e=.returned (.bool true)/\Below w.heap.size w w':=
 hH none 0 0 (fun _=>0) none 0 0 (fun _=>0) none 0 0 (fun _=>0) none 0 0 (fun _=>0) 0 0 none 0 none 0 none 0 none 0 w (by omega) (iV w _) (iW w _) (iW w _) (iV w _) (iV w _) (iW w _) (iW w _) (iV w _)
end Sv
end
end Go.Proofs.YtlmfpikhlcnjjaaGreatDoor
