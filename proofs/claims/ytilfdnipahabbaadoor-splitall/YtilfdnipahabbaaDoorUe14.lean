/-
  Some of the texts of this proof, one behind the other.
-/
import Derived.Test.YtilfdnipahabbaaDoorUe13
set_option maxRecDepth 100000
set_option maxHeartbeats 400000000
namespace Go.Proofs.YtilfdnipahabbaaDoor
open _root_.Go.Proofs.Tryd
section
open Go.RowKit
namespace Cx
abbrev Ix:=List Nat × Value
abbrev Sp:=Nat->Option ((Ix->World->Prop) × (Ix->Value))
def Stable(sp:Sp):Prop:= ∀i R mk,sp i=some (R,mk)-> ∀x w w',R x w->Ab w w'->R x w'
def Fresh(W:World)(S:Nat->Option Ix)(x:Ix):Prop:= ∀b,b ∈ x.1->W.heap.size<=b/\ ∀i y,S i=some y->b ∉ y.1
def putL(S:Nat->Option Ix)(i:Nat)(x:Ix):Nat->Option Ix:=fun k=>if k=i then some x else S k
def Has(W:World)(sp:Sp)(S:Nat->Option Ix)(w:World):Prop:=Ab W w/\ ∀i x,S i=some x->(∀b,b ∈ x.1->W.heap.size<=b/\b<w.heap.size)/\ ∃R mk,sp i=some (R,mk)/\R x w
theorem dU(S:Nat->Option Ix){i j:Nat}(b c:Ix)(h:i≠j):putL (putL S i b) j c=putL (putL S j c) i b:=by
 funext k
 unfold putL
 by_cases e:k=j
 ·subst e;simp[Ne.symm h]
 ·by_cases e2:k=i
  ·subst e2;simp[e]
  ·simp[e,e2]
theorem Fresh.put{W:World}{S:Nat->Option Ix}{i:Nat}{x y:Ix}(h:Fresh W S y)(n: ∀b,b ∈ y.1->b ∉ x.1):Fresh W (putL S i x) y:=
 fun b hb=>⟨(h b hb).1,fun k z e=>by
  unfold putL at e
  by_cases q:k=i
  ·rw[if_pos q]at e;injection e with e;rw[<- e];exact n b hb
  ·rw[if_neg q]at e;exact(h b hb).2 k z e⟩
theorem Fresh.of_put{W:World}{S:Nat->Option Ix}{i:Nat}{x y:Ix}(h:Fresh W (putL S i x) y)(hi:S i=none):Fresh W S y/\ ∀b,b ∈ y.1->b ∉ x.1:=by
 refine⟨fun b hb=>⟨(h b hb).1,fun k z e=>(h b hb).2 k z ?_⟩,fun b hb=>(h b hb).2 i x (by simp[putL])⟩
 unfold putL
 by_cases q:k=i
 ·subst q;rw[hi]at e;cases e
 ·rw[if_neg q];exact e
theorem Has.lay{W:World}{sp:Sp}(st:Stable sp){S:Nat->Option Ix}{w w1:World}(h:Has W sp S w){i:Nat}{x:Ix}{R:Ix->World->Prop}{mk:Ix->Value}(e:sp i=some (R,mk))(a:Ab w w1)(hb: ∀b,b ∈ x.1->w.heap.size<=b/\b<w1.heap.size)(ho:R x w1):Has W sp (putL S i x) w1:=
 ⟨h.1.trans a,fun k c q=>by
  unfold putL at q
  by_cases z:k=i
  ·subst z
   rw[if_pos rfl]at q
   injection q with q
   subst q
   exact⟨fun b e2=>⟨Nat.le_trans h.1.size (hb b e2).1,(hb b e2).2⟩,R,mk,e,ho⟩
  ·rw[if_neg z]at q
   obtain⟨h1,R',mk',h2,h3⟩:=h.2 k c q
   exact⟨fun b e2=>⟨(h1 b e2).1,Nat.lt_of_lt_of_le (h1 b e2).2 a.size⟩,R',mk',h2,st k R' mk' h2 c w w1 h3 a⟩⟩
theorem Has.freshb{W:World}{sp:Sp}{S:Nat->Option Ix}{w:World}(h:Has W sp S w){x:Ix}(hb: ∀b,b ∈ x.1->w.heap.size<=b):Fresh W S x:=
 fun b e=>⟨Nat.le_trans h.1.size (hb b e),fun i y e2 e3=>by
  have h1:=((h.2 i y e2).1 b e3).2
  have h2:=hb b e
  omega⟩
def rst(q:List Nat)(S:Nat->Option Ix):Nat->Option Ix:=fun k=>if k ∈ q then S k else none
theorem gO{q:List Nat}{S:Nat->Option Ix}{i:Nat}{x:Ix}(h:i ∉ q):rst q (putL S i x)=rst q S:=by
 funext k
 unfold rst putL
 by_cases e:k=i
 ·subst e;rw[if_neg h,if_neg h]
 ·rw[if_neg e]
theorem Has.rst{W:World}{sp:Sp}{S:Nat->Option Ix}{w:World}(h:Has W sp S w)(q:List Nat):Has W sp (rst q S) w:=
 ⟨h.1,fun i x e=>h.2 i x (by
  unfold Cx.rst at e
  split at e
  ·exact e
  ·cases e)⟩
def Waits(md:Region.Mode)(ops:Array Oper)(dp:Nat->List Nat):Prop:= ∀j oj,ops[j]? =some oj-> ∀i ∈ dp j,∃e ∈ oj.after,Region.binds md e=true/\e.on=i
def waitsB(md:Region.Mode)(ops:Array Oper)(dp:Nat->List Nat):Bool:=(List.range ops.size).all fun j=>match ops[j]? with
 | none=>true
 | some oj=>(dp j).all fun i=>oj.after.any fun e=>Region.binds md e&&e.on==i
theorem kC{md:Region.Mode}{ops:Array Oper}{dp:Nat->List Nat}(h:waitsB md ops dp=true):Waits md ops dp:=by
 intro j oj hj i hi
 unfold waitsB at h
 rw[List.all_eq_true]at h
 have h1:=h j (List.mem_range.2 (Array.getElem?_eq_some_iff.1 hj).1)
 simp only[hj]at h1
 rw[List.all_eq_true]at h1
 have h2:=h1 i hi
 rw[Array.any_eq_true']at h2
 obtain⟨e,h3,h4⟩:=h2
 rw[Bool.and_eq_true]at h4
 exact⟨e,h3,h4.1,by simpa using h4.2⟩
section
variable {P:Program} {ops:Array Oper} {md:Region.Mode} {W:World} {sp:Sp} {dp:Nat->List Nat}
def YF(P:Program)(ops:Array Oper)(W:World)(o:Oper)(v:Value)(a:Act):Prop:=
 (Region.wanted o (yielded ops a.tmps)=true/\ ∀w,Ab W w->(execOp a.eval o).run P w=.ok (.value v) w)\/(Region.wanted o (yielded ops a.tmps)=false/\v=undef)
def LayR(P:Program)(w:World)(ob:Ix->World->Prop)(mk:Ix->Value):Result Next->Prop
 | .ok (.value u) w1=> ∃x,u=mk x/\Ab w w1/\(∀b,b ∈ x.1->w.heap.size<=b/\b<w1.heap.size)/\ob x w1
 | .ok (.enter f args) w1=>w1=w/\Calls P f args w (fun e w2=> ∃x,e=.returned (mk x)/\Ab w w2/\(∀b,b ∈ x.1->w.heap.size<=b/\b<w2.heap.size)/\ob x w2)
 | _=>False
def LF(P:Program)(ops:Array Oper)(W:World)(sp:Sp)(q:List Nat)(o:Oper)(ob:Ix->World->Prop)(mk:Ix->Value)(a:Act)(S:Nat->Option Ix):Prop:=
 Region.wanted o (yielded ops a.tmps)=true/\ ∀w,Has W sp (rst q S) w->LayR P w ob mk ((execOp a.eval o).run P w)
theorem YF.same{o:Oper}{v:Value}{a a':Act}(h:YF P ops W o v a)(he:execOp a'.eval o=execOp a.eval o)(hw:Region.wanted o (yielded ops a'.tmps)=Region.wanted o (yielded ops a.tmps)):YF P ops W o v a':=by
 unfold YF at*
 rw[he,hw]
 exact h
theorem LF.same{q:List Nat}{S:Nat->Option Ix}{o:Oper}{ob:Ix->World->Prop}{mk:Ix->Value}{a a':Act}(h:LF P ops W sp q o ob mk a S)(he:execOp a'.eval o=execOp a.eval o)(hw:Region.wanted o (yielded ops a'.tmps)=Region.wanted o (yielded ops a.tmps)):LF P ops W sp q o ob mk a' S:=by
 unfold LF at*
 rw[he,hw]
 exact h
theorem LF.more{q:List Nat}{S:Nat->Option Ix}{o:Oper}{ob:Ix->World->Prop}{mk:Ix->Value}{a:Act}(h:LF P ops W sp q o ob mk a S){i:Nat}{x:Ix}(hi:i ∉ q):LF P ops W sp q o ob mk a (putL S i x):=by
 unfold LF at*
 rw[gO hi]
 exact h
theorem LF.less{q:List Nat}{S:Nat->Option Ix}{o:Oper}{ob:Ix->World->Prop}{mk:Ix->Value}{a:Act}{i:Nat}{x:Ix}(h:LF P ops W sp q o ob mk a (putL S i x))(hi:i ∉ q):LF P ops W sp q o ob mk a S:=by
 unfold LF at*
 rw[gO hi]at h
 exact h
theorem YF.one{o:Oper}{v u:Value}{a:Act}(h:YF P ops W o v a)(k:YF P ops W o u a):v=u:=by
 rcases h with⟨w1,h⟩ | ⟨w1,rfl⟩
 ·rcases k with⟨_,k⟩ | ⟨w2,_⟩
  ·have:=(h W (Ab.refl W)).symm.trans (k W (Ab.refl W))
   injection this with e
   injection e
  ·rw[w1]at w2;cases w2
 ·rcases k with⟨w2,_⟩ | ⟨_,rfl⟩
  ·rw[w1]at w2;cases w2
  ·rfl
def fOp(P:Program)(ops:Array Oper)(W:World)(sp:Sp)(dp:Nat->List Nat)(i:Nat)(K:Act->(Nat->Option Ix)->Prop)(a:Act)(S:Nat->Option Ix):Prop:=
 match ops[i]? with
 | none=>K a S
 | some o=>
  match sp i with
  | none=> ∃v,YF P ops W o v a/\K (a.put o.dst v) S
  | some (ob,mk)=>LF P ops W sp (dp i) o ob mk a S/\ ∀b,Fresh W S b->K (a.put o.dst (mk b)) (putL S i b)
theorem cK{i:Nat}{K K':Act->(Nat->Option Ix)->Prop}{a:Act}{S:Nat->Option Ix}(h: ∀a S,K a S->K' a S)(hh:fOp P ops W sp dp i K a S):fOp P ops W sp dp i K' a S:=by
 unfold fOp at*
 cases ho:ops[i]? with
 | none=>simp only[ho]at hh ⊢;exact h _ _ hh
 | some o=>
  cases hs:sp i with
  | none=>
   simp only[ho,hs]at hh ⊢
   obtain⟨v,h1,h2⟩:=hh
   exact⟨v,h1,h _ _ h2⟩
  | some x=>
   simp only[ho,hs]at hh ⊢
   exact⟨hh.1,fun b hb=>h _ _ (hh.2 b hb)⟩
def wpAnyF(P:Program)(md:Region.Mode)(ops:Array Oper)(W:World)(sp:Sp)(dp:Nat->List Nat)(Q:Act->(Nat->Option Ix)->Prop):Nat->Array Bool->Act->(Nat->Option Ix)->Prop
 | 0,listed,a,S=>Region.ready md ops listed=[]/\Q a S
 | fuel+1,listed,a,S=>
  (Region.ready md ops listed=[]->Q a S)/\
  ∀i ∈ Region.ready md ops listed,fOp P ops W sp dp i (wpAnyF P md ops W sp dp Q fuel (listed.setIfInBounds i true)) a S
def Tidy(listed:Array Bool)(S:Nat->Option Ix):Prop:= ∀k,listed.getD k true=false->S k=none
theorem dV(W:World)(S:Nat->Option Ix): ∃x,Fresh W S x:=⟨([],undef),fun b e=>by cases e⟩
theorem Tidy.set{listed:Array Bool}{S:Nat->Option Ix}(h:Tidy listed S)(j:Nat):Tidy (listed.setIfInBounds j true) S:=
 fun k hk=>by
  by_cases e:j=k
  ·subst e
   by_cases l:j<listed.size
   ·simp[l]at hk
   ·exact h j (by rw[Array.setIfInBounds_eq_of_size_le (by omega)]at hk;exact hk)
  ·rw[getD_set_ne true e]at hk;exact h k hk
theorem Tidy.lay{listed:Array Bool}{S:Nat->Option Ix}(h:Tidy listed S){j:Nat}(hj:listed.getD j true=false)(b:Ix):Tidy (listed.setIfInBounds j true) (putL S j b):=by
 refine fun k hk=> ?_
 by_cases e:j=k
 ·subst e
  by_cases l:j<listed.size
  ·simp[l]at hk
  ·simp[l]at hj
 ·rw[getD_set_ne true e]at hk
  unfold putL
  rw[if_neg (Ne.symm e)]
  exact h k hk
theorem eV{j:Nat}{oi oj:Oper}{v:Value}(hj:ops[j]? =some oj)(hap:oi.apart ops oj=true)(hsi: ∀cs b,oi.op≠ .select cs b)(hsj: ∀cs b,oj.op≠ .select cs b)
  {K:Act->(Nat->Option Ix)->Prop} {a:Act} {S:Nat->Option Ix} (hy:YF P ops W oi v a) (h:fOp P ops W sp dp j K (a.put oi.dst v) S):
  fOp P ops W sp dp j (fun a' S'=>YF P ops W oi v a'/\K (a'.put oi.dst v) S') a S:=by
 obtain⟨h1,h2,h3⟩:=Oper.apart_spec hap
 have keep: ∀u,YF P ops W oi v (a.put oj.dst u):=fun u=>hy.same (execOp_put oi hsi a oj.dst u h3) (wanted_put oi a oj.dst u h3)
 unfold fOp at*
 cases hs:sp j with
 | none=>
  simp only[hj,hs]at h ⊢
  obtain⟨u,hu,hk⟩:=h
  exact⟨u,hu.same (execOp_put oj hsj a oi.dst v h1).symm (wanted_put oj a oi.dst v h1).symm,keep u,by rw[<- Act.put_comm a v u h2];exact hk⟩
 | some x=>
  simp only[hj,hs]at h ⊢
  exact⟨h.1.same (execOp_put oj hsj a oi.dst v h1).symm (wanted_put oj a oi.dst v h1).symm,fun b hb=>⟨keep _,by rw[<- Act.put_comm a v _ h2];exact h.2 b hb⟩⟩
theorem eW{i j:Nat}{oi oj:Oper}{ob:Ix->World->Prop}{mk:Ix->Value}(hij:i≠j)(hd1:i ∉ dp j)(hd2:j ∉ dp i)(hj:ops[j]? =some oj)(hap:oi.apart ops oj=true)(hsi: ∀cs b,oi.op≠ .select cs b)(hsj: ∀cs b,oj.op≠ .select cs b)
  {K:Act->(Nat->Option Ix)->Prop} {a:Act} {S:Nat->Option Ix} (hSj:S j=none) (hy:LF P ops W sp (dp i) oi ob mk a S) (h: ∀b,Fresh W S b->fOp P ops W sp dp j K (a.put oi.dst (mk b)) (putL S i b)):
  fOp P ops W sp dp j (fun a' S'=>LF P ops W sp (dp i) oi ob mk a' S'/\ ∀b,Fresh W S' b->K (a'.put oi.dst (mk b)) (putL S' i b)) a S:=by
 obtain⟨h1,h2,h3⟩:=Oper.apart_spec hap
 have keep: ∀u,LF P ops W sp (dp i) oi ob mk (a.put oj.dst u) S:=fun u=>hy.same (execOp_put oi hsi a oj.dst u h3) (wanted_put oi a oj.dst u h3)
 obtain⟨b0,hb0⟩:=dV W S
 unfold fOp at*
 cases hs:sp j with
 | none=>
  simp only[hj,hs]at h ⊢
  obtain⟨u,hu,_⟩:=h b0 hb0
  have hu':YF P ops W oj u a:=hu.same (execOp_put oj hsj a oi.dst _ h1).symm (wanted_put oj a oi.dst _ h1).symm
  refine⟨u,hu',keep u,fun b hb=> ?_⟩
  obtain⟨u2,hu2,hk⟩:=h b hb
  have e:u2=u:=YF.one (hu2.same (execOp_put oj hsj a oi.dst _ h1).symm (wanted_put oj a oi.dst _ h1).symm) hu'
  subst e
  rw[<- Act.put_comm a (mk b) u2 h2]
  exact hk
 | some x=>
  simp only[hj,hs]at h ⊢
  refine⟨((h b0 hb0).1.same (execOp_put oj hsj a oi.dst _ h1).symm (wanted_put oj a oi.dst _ h1).symm).less hd1,fun c hc=>⟨(keep _).more hd2,fun b hb=> ?_⟩⟩
  obtain⟨q1,q2⟩:=hb.of_put hSj
  have:=(h b q1).2 c (hc.put (fun d e e2=>q2 d e2 e))
  rw[dU S b c hij,Act.put_comm a (mk b) _ h2]at this
  exact this
theorem firstY{Q:Act->(Nat->Option Ix)->Prop}{i:Nat}{oi:Oper}{v:Value}(hi:ops[i]? =some oi)(hsp:sp i=none)(hsel: ∀(j:Nat) (o:Oper) cs b,ops[j]? =some o->o.op≠ .select cs b):
  ∀(fuel:Nat) (listed:Array Bool) (a:Act) (S:Nat->Option Ix),
   (∀j oj,ops[j]? =some oj->j≠i->listed.getD j true=false->(∀e ∈ oj.after,Region.binds md e=true->e.on≠i)->oi.apart ops oj=true)->
   i ∈ Region.ready md ops listed->YF P ops W oi v a->
   wpAnyF P md ops W sp dp Q fuel (listed.setIfInBounds i true) (a.put oi.dst v) S->wpAnyF P md ops W sp dp Q (fuel+1) listed a S:=by
 have go: ∀(K:Act->(Nat->Option Ix)->Prop) (a:Act) (S:Nat->Option Ix),YF P ops W oi v a->K (a.put oi.dst v) S->fOp P ops W sp dp i K a S:=fun K a S hy h=>by
  unfold fOp;simp only[hi,hsp];exact⟨v,hy,h⟩
 intro fuel
 induction fuel with
 | zero=>
  intro listed a S _ hr hy H
  refine⟨fun h=>(by rw[h]at hr;cases hr),fun j hj=> ?_⟩
  by_cases hji:j=i
  ·subst hji;exact go _ _ _ hy H
  ·have:=ready_mono hj hji
   rw[H.1]at this
   cases this
 | succ fuel ih=>
  intro listed a S hfree hr hy H
  refine⟨fun h=>(by rw[h]at hr;cases hr),fun j hj=> ?_⟩
  by_cases hji:j=i
  ·subst hji;exact go _ _ _ hy H
  ·have h1:=H.2 j (ready_mono hj hji)
   obtain⟨hjun,oj,hoj,hall⟩:=mem_ready.1 hj
   have hnot: ∀e ∈ oj.after,Region.binds md e=true->e.on≠i:=fun e he hb heq=>by
    have h1:=hall e he hb
    have h0:=(mem_ready.1 hr).1
    rw[heq]at h1
    rcases Nat.lt_or_ge i listed.size with h' | h'
    ·simp[h']at h0 h1;rw[h0]at h1;cases h1
    ·simp[Array.getElem?_eq_none h']at h1
   have h2:=eV hoj (hfree j oj hoj hji hjun hnot) (fun cs b=>hsel i oi cs b hi) (fun cs b=>hsel j oj cs b hoj) hy h1
   have hfree': ∀k ok,ops[k]? =some ok->k≠i->(listed.setIfInBounds j true).getD k true=false->
     (∀e ∈ ok.after,Region.binds md e=true->e.on≠i)->oi.apart ops ok=true:=fun k ok hk hki hun hno=>by
    refine hfree k ok hk hki ?_ hno
    by_cases hjk:j=k
    ·subst hjk;exact hjun
    ·rw[getD_set_ne true hjk]at hun;exact hun
   refine cK (fun a' S' h3=>ih (listed.setIfInBounds j true) a' S' hfree' (ready_mono hr (Ne.symm hji)) h3.1 ?_) h2
   rw[Array.setIfInBounds_comm _ _ hji]
   exact h3.2
theorem firstL(hD:Waits md ops dp){Q:Act->(Nat->Option Ix)->Prop}{i:Nat}{oi:Oper}{ob:Ix->World->Prop}{mk:Ix->Value}(hi:ops[i]? =some oi)(hsp:sp i=some (ob,mk))(hsel: ∀(j:Nat) (o:Oper) cs b,ops[j]? =some o->o.op≠ .select cs b):
  ∀(fuel:Nat) (listed:Array Bool) (a:Act) (S:Nat->Option Ix),Tidy listed S->
   (∀j oj,ops[j]? =some oj->j≠i->listed.getD j true=false->(∀e ∈ oj.after,Region.binds md e=true->e.on≠i)->oi.apart ops oj=true)->
   i ∈ Region.ready md ops listed->LF P ops W sp (dp i) oi ob mk a S->
   (∀b,Fresh W S b->wpAnyF P md ops W sp dp Q fuel (listed.setIfInBounds i true) (a.put oi.dst (mk b)) (putL S i b))->wpAnyF P md ops W sp dp Q (fuel+1) listed a S:=by
 have go: ∀(K:Act->(Nat->Option Ix)->Prop) (a:Act) (S:Nat->Option Ix),LF P ops W sp (dp i) oi ob mk a S->(∀b,Fresh W S b->K (a.put oi.dst (mk b)) (putL S i b))->fOp P ops W sp dp i K a S:=fun K a S hy h=>by
  unfold fOp;simp only[hi,hsp];exact⟨hy,h⟩
 intro fuel
 induction fuel with
 | zero=>
  intro listed a S ty _ hr hy H
  refine⟨fun h=>(by rw[h]at hr;cases hr),fun j hj=> ?_⟩
  by_cases hji:j=i
  ·subst hji;exact go _ _ _ hy H
  ·obtain⟨b,hb⟩:=dV W S
   have:=ready_mono hj hji
   rw[(H b hb).1]at this
   cases this
 | succ fuel ih=>
  intro listed a S ty hfree hr hy H
  refine⟨fun h=>(by rw[h]at hr;cases hr),fun j hj=> ?_⟩
  by_cases hji:j=i
  ·subst hji;exact go _ _ _ hy H
  ·have h1:=fun b hb=>(H b hb).2 j (ready_mono hj hji)
   obtain⟨hjun,oj,hoj,hall⟩:=mem_ready.1 hj
   have hnot: ∀e ∈ oj.after,Region.binds md e=true->e.on≠i:=fun e he hb heq=>by
    have h1:=hall e he hb
    have h0:=(mem_ready.1 hr).1
    rw[heq]at h1
    rcases Nat.lt_or_ge i listed.size with h' | h'
    ·simp[h']at h0 h1;rw[h0]at h1;cases h1
    ·simp[Array.getElem?_eq_none h']at h1
   have hap:=hfree j oj hoj hji hjun hnot
   have hfree': ∀k ok,ops[k]? =some ok->k≠i->(listed.setIfInBounds j true).getD k true=false->
     (∀e ∈ ok.after,Region.binds md e=true->e.on≠i)->oi.apart ops ok=true:=fun k ok hk hki hun hno=>by
    refine hfree k ok hk hki ?_ hno
    by_cases hjk:j=k
    ·subst hjk;exact hjun
    ·rw[getD_set_ne true hjk]at hun;exact hun
   have hd1:i ∉ dp j:=fun q=>by
    obtain⟨e,h5,h6,h7⟩:=hD j oj hoj i q
    exact hnot e h5 h6 h7
   have hd2:j ∉ dp i:=fun q=>by
    obtain⟨e,h5,h6,h7⟩:=hD i oi hi j q
    obtain⟨_,o2,ho2,hall2⟩:=mem_ready.1 hr
    rw[hi]at ho2
    injection ho2 with ho2
    subst ho2
    have h8:=hall2 e h5 h6
    rw[h7]at h8
    rcases Nat.lt_or_ge j listed.size with h' | h'
    ·simp[h']at hjun h8;rw[hjun]at h8;cases h8
    ·simp[Array.getElem?_eq_none h']at h8
   have h2:=eW (Ne.symm hji) hd1 hd2 hoj hap (fun cs b=>hsel i oi cs b hi) (fun cs b=>hsel j oj cs b hoj) (ty j hjun) hy h1
   -- what j leaves is tidy
   have h4:fOp P ops W sp dp j (fun a' S'=>Tidy (listed.setIfInBounds j true) S'/\LF P ops W sp (dp i) oi ob mk a' S'/\ ∀b,Fresh W S' b->wpAnyF P md ops W sp dp Q fuel ((listed.setIfInBounds i true).setIfInBounds j true) (a'.put oi.dst (mk b)) (putL S' i b)) a S:=by
    unfold fOp at h2 ⊢
    cases hs:sp j with
    | none=>
     simp only[hoj,hs]at h2 ⊢
     obtain⟨u,hu,hk⟩:=h2
     exact⟨u,hu,ty.set j,hk⟩
    | some x=>
     simp only[hoj,hs]at h2 ⊢
     exact⟨h2.1,fun b hb=>⟨ty.lay hjun b,h2.2 b hb⟩⟩
   refine cK (fun a' S' h3=>ih (listed.setIfInBounds j true) a' S' h3.1 hfree' (ready_mono hr (Ne.symm hji)) h3.2.1 (fun b hb=> ?_)) h4
   rw[Array.setIfInBounds_comm _ _ hji]
   exact h3.2.2 b hb
def wpFree(P:Program)(ops:Array Oper)(W:World)(sp:Sp)(dp:Nat->List Nat)(Q:Act->(Nat->Option Ix)->Prop):List Oper->Nat->Act->(Nat->Option Ix)->Prop
 | [],_,a,S=>Q a S
 | o :: rest,k,a,S=>
  match sp k with
  | none=> ∃v,YF P ops W o v a/\wpFree P ops W sp dp Q rest (k+1) (a.put o.dst v) S
  | some (ob,mk)=>LF P ops W sp (dp k) o ob mk a S/\ ∀b,Fresh W S b->wpFree P ops W sp dp Q rest (k+1) (a.put o.dst (mk b)) (putL S k b)
theorem bE(hD:Waits md ops dp){Q:Act->(Nat->Option Ix)->Prop}(hs:Region.noSelect ops=true): ∀(l:List Oper) (k:Nat) (listed:Array Bool) (a:Act) (S:Nat->Option Ix),(∀j,l[j]? =ops[k+j]?)->Tidy listed S->
  Region.lexFrom md ops l.length k listed=true->wpFree P ops W sp dp Q l k a S->wpAnyF P md ops W sp dp Q l.length listed a S
 | [],_,_,_,_,_,_,hB,h=>⟨by simpa [Region.lexFrom]using hB,h⟩
 | o :: l,k,listed,a,S,hl,ty,hB,h=>by
  have h0:ops[k]? =some o:=by simpa using(hl 0).symm
  simp only[List.length_cons,Region.lexFrom,Bool.and_eq_true]at hB
  obtain⟨⟨hr,hf⟩,hB'⟩:=hB
  have hr':k ∈ Region.ready md ops listed:=by simpa using hr
  have hl': ∀j,l[j]? =ops[k+1+j]? :=fun j=>by have:=hl (j+1);simpa [Nat.add_assoc,Nat.add_comm 1 j]using this
  cases hsp:sp k with
  | none=>
   simp only[wpFree,hsp]at h
   obtain⟨v,hy,hK⟩:=h
   exact firstY h0 hsp (Region.noSelect_spec hs) l.length listed a S (Region.free_spec h0 hf) hr' hy
    (bE hD hs l (k+1) _ _ _ hl' (ty.set k) hB' hK)
  | some x=>
   obtain⟨ob,mk⟩:=x
   simp only[wpFree,hsp]at h
   exact firstL hD h0 hsp (Region.noSelect_spec hs) l.length listed a S ty (Region.free_spec h0 hf) hr' h.1
    (fun b hb=>bE hD hs l (k+1) _ _ _ hl' (ty.lay (mem_ready.1 hr').1 b) hB' (h.2 b hb))
theorem cL(stb:Stable sp){i:Nat}{a:Act}{S:Nat->Option Ix}{K:Act->(Nat->Option Ix)->Prop}{K':Act->World->Prop}{Q':Exit->Act->World->Prop}{w:World}(hC:Has W sp S w)(h: ∀a S w',Has W sp S w'->K a S->K' a w')(hh:fOp P ops W sp dp i K a S):wpOp P ops Q' i K' a w:=by
 unfold fOp at hh
 unfold wpOp
 cases ho:ops[i]? with
 | none=>simp only[ho]at hh ⊢;exact h _ _ _ hC hh
 | some o=>
  cases hs:sp i with
  | none=>
   simp only[ho,hs]at hh ⊢
   obtain⟨v,hy,hk⟩:=hh
   rcases hy with⟨w1,hv⟩ | ⟨w1,rfl⟩
   ·rw[if_pos w1]
    refine .inl ?_
    unfold Oper.wp
    rw[hv w hC.1]
    exact h _ _ _ hC hk
   ·rw[if_neg (by rw[w1];exact Bool.false_ne_true)]
    exact h _ _ _ hC hk
  | some x=>
   obtain⟨ob,mk⟩:=x
   simp only[ho,hs]at hh ⊢
   obtain⟨⟨w1,hv⟩,hk⟩:=hh
   rw[if_pos w1]
   refine .inl ?_
   unfold Oper.wp
   have q:=hv w (hC.rst _)
   generalize(execOp a.eval o).run P w=r at q
   match r,q with
   | .ok (.value u) w2,⟨b,hu,ha,hb,ho2⟩=>
    subst hu
    exact h _ _ _ (hC.lay stb hs ha hb ho2) (hk b (hC.freshb (fun d e=>(hb d e).1)))
   | .ok (.enter f args) w2,⟨e,hc⟩=>
    subst e
    refine Calls.mono hc ?_
    rintro e2 w3 ⟨b,rfl,ha,hb,ho2⟩
    exact h _ _ _ (hC.lay stb hs ha hb ho2) (hk b (hC.freshb (fun d e=>(hb d e).1)))
end
theorem eY{P:Program}{md:Region.Mode}{ops hd:Array Oper}{W:World}{sp:Sp}{dp:Nat->List Nat}{n:Nat}(hhd: ∀i,i<n->hd[i]? =ops[i]?)(hb:backB md ops n=true){i:Nat}(hi:i<n){K:Act->(Nat->Option Ix)->Prop}{a:Act}{S:Nat->Option Ix}(h:fOp P hd W sp dp i K a S):fOp P ops W sp dp i K a S:=by
 unfold fOp at*
 rw[hhd i hi]at h
 cases ho:ops[i]? with
 | none=>rw[ho]at h;exact h
 | some o=>
  have e:Region.wanted o (yielded hd a.tmps)=Region.wanted o (yielded ops a.tmps):=by
   unfold Region.wanted
   cases hg:o.guard with
   | none=>rfl
   | some jb=>
    obtain⟨j,b⟩:=jb
    have lt:=(cZ hb hi ho).2 j b hg
    show(yielded hd a.tmps j==some b)=(yielded ops a.tmps j==some b)
    unfold yielded
    rw[hhd j lt]
  simp only[ho]at h ⊢
  cases hs:sp i with
  | none=>
   simp only[hs]at h ⊢
   unfold YF at*
   rw[e]at h
   exact h
  | some x=>
   simp only[hs]at h ⊢
   unfold LF at*
   rw[e]at h
   exact h
theorem bQ{P:Program}{md:Region.Mode}{ops hd:Array Oper}{W:World}{sp:Sp}{dp:Nat->List Nat}(stb:Stable sp){n:Nat}{g:Nat}{Q1:Act->(Nat->Option Ix)->Prop}{Q':Exit->Act->World->Prop}(hhd: ∀i,i<n->hd[i]? =ops[i]?)(hsz:hd.size=n)(hn:n<ops.size)(hb:backB md ops n=true)(hs:Region.sinkB md ops n=true)(hc:Region.chainB md ops n=true)
  (hL: ∀a S w,Has W sp S w->Q1 a S->wpAny P md ops Q' g (finA ops.size n) a w):
  ∀(fuel:Nat) (listed lh:Array Bool) (a:Act) (S:Nat->Option Ix) (w:World),Has W sp S w->HeadInv md ops n listed->lh.size=n->(∀i,i<n->lh.getD i true=listed.getD i true)->
   wpAnyF P md hd W sp dp Q1 fuel lh a S->wpAny P md ops Q' (fuel+g) listed a w:=by
 intro fuel
 induction fuel with
 | zero=>
  intro listed lh a S w hC inv hl he h
  have hls:n<=listed.size:=by rw[inv.size];omega
  rcases bO (by omega) hb hls with all | ⟨i,hi,hr⟩
  ·rw[Nat.zero_add,eU hn inv all]
   exact hL a S w hC h.2
  ·have:=(bN hhd hb hl hls he hi).2 hr
   rw[h.1]at this
   cases this
 | succ fuel ih=>
  intro listed lh a S w hC inv hl he h
  have hls:n<=listed.size:=by rw[inv.size];omega
  rcases bO (by omega) hb hls with all | ⟨i0,hi0,hr0⟩
  ·have no:Region.ready md hd lh=[]:=by
    rw[List.eq_nil_iff_forall_not_mem]
    intro i hi
    obtain⟨u,o,ho,_⟩:=mem_ready.1 hi
    have lt:i<n:=by rw[<- hsz];exact(Array.getElem?_eq_some_iff.1 ho).1
    rw[he i lt,all i lt]at u
    cases u
   rw[Nat.add_comm (fuel+1) g,eU hn inv all]
   exact dB g (fuel+1) _ a w (hL a S w hC (h.1 no))
  ·rw[show fuel+1+g=(fuel+g)+1 by omega]
   refine⟨fun h0=>(by rw[h0]at hr0;cases hr0),fun i hi=> ?_⟩
   have lt:i<n:=by
    by_cases c:i<n
    ·exact c
    ·exact absurd hi (tail_waits hs hc hn inv _ i0 rfl hi0 (mem_ready.1 hr0).1 i (by omega))
   have hq:=eY hhd hb lt (h.2 i ((bN hhd hb hl hls he lt).2 hi))
   refine cL stb hC (fun a' S' w' hC' h'=>ih _ _ a' S' w' hC' (inv.set hi lt) (by simp[hl]) (fun j hj=> ?_) h') hq
   by_cases e:i=j
   ·subst e
    simp[hl,lt,show i<listed.size by omega]
   ·rw[getD_set_ne true e,getD_set_ne true e,he j hj]
theorem cM{P:Program}{id:Nat}{Q:Exit->Act->World->Prop}{a:Act}{w:World}{l:List Oper}(n:Nat)(sp:Sp)(dp:Nat->List Nat)(stb:Stable sp)(hm:P.follows .mixedOrders=true)(hB:Region.lexB .any (l.take n).toArray=true)(hT:tailB l.toArray n=true)(hW:waitsB .any (l.take n).toArray dp=true)
  (h:wpFree P (l.take n).toArray w.drew sp dp (fun a' S=> ∀w',Has w.drew sp S w'->wpList P l.toArray Q (l.drop n) a' w') (l.take n) 0 a (fun _=>none)):(Code.region id l.toArray true).wp P Q a w:=by
 simp only[tailB,Bool.and_eq_true,decide_eq_true_eq]at hT
 obtain⟨⟨⟨⟨hn,hb⟩,hs⟩,hc⟩,hq⟩:=hT
 have hn':n<l.length:=by simpa using hn
 have htl:(l.take n).toArray.size=n:=by simp;omega
 have hdl:(l.drop n).length=l.toArray.size - n:=by simp
 refine wp_region_any hm ?_
 simp only[Region.lexB,Bool.and_eq_true]at hB
 have H:=bE (kC hW) (P:=P) (W:=w.drew) (sp:=sp) (md:=.any) hB.1 (l.take n) 0 (Array.replicate (l.take n).toArray.size false) a (fun _=>none) (by simp) (fun _ _=>rfl) (by simpa using hB.2) h
 have inv0:HeadInv .any l.toArray n (Array.replicate l.toArray.size false):=
  ⟨by simp,fun j oj _ hl=>(by rw[getD_replicate_false]at hl;cases hl),fun t _ ht=>getD_in (by simpa using ht) (getD_replicate_false _ _)⟩
 have:=bQ (dp:=dp) stb (P:=P) (Q':=Q) (g:=l.toArray.size - n) (hd:=(l.take n).toArray) (ops:=l.toArray) (fun i hi=>by simp[hi]) htl hn hb hs hc
  (fun a' S' w' hC' h'=>by
   have:=wpAny_of_seq (P:=P) (md:=.any) (ops:=l.toArray) (Q':=Q) (l.drop n) n (finA l.toArray.size n) a' w' (fun j=>by simp) (by rw[hdl];exact hq) (h' w' hC')
   rwa [hdl]at this)
  (l.take n).length _ _ a (fun _=>none) w.drew ⟨Ab.refl _,fun i b e=>by cases e⟩ inv0 (by simpa using htl) (fun i hi=>by
   rw[getD_in (listed:=Array.replicate l.toArray.size false) (by simp;omega) (getD_replicate_false _ _)]
   exact getD_in (by rw[Array.size_replicate];omega) (getD_replicate_false _ _)) H
 have e:(l.take n).length+(l.toArray.size - n)=l.toArray.size:=by simp;omega
 rw[e]at this
 exact this
section
variable {P:Program} {ops:Array Oper} {W:World} {sp:Sp} {dp:Nat->List Nat} {Q:Act->(Nat->Option Ix)->Prop} {o:Oper} {rest:List Oper} {k:Nat} {a:Act} {S:Nat->Option Ix}
theorem aD{U:Type}{F:U->World}(HF:Hid (∀w',Ab W w'-> ∃u,w'=F u))(hs:sp k=none)(hp:plainB o.op=true)(h:wpQuiet P ops (fun w'=> ∃u,w'=F u) (fun a'=>wpFree P ops W sp dp Q rest (k+1) a' S) [o] a):wpFree P ops W sp dp Q (o :: rest) k a S:=by
 simp only[wpFree,hs]
 simp only[wpQuiet]at h
 by_cases c:Region.wanted o (yielded ops a.tmps)=true
 ·rw[if_pos c]at h
  obtain⟨v,h1,h2⟩:=h
  refine⟨v,.inl ⟨c,fun w hw=> ?_⟩,h2⟩
  have q:=h1 w (HF.out w hw)
  unfold Oper.quietAt at q
  cases e:(execOp a.eval o).run P w with
  | ok n w'=>
   obtain⟨x,rfl⟩:=eZ hp e
   rw[e]at q
   obtain⟨q1,q2⟩:=q
   rw[q1,q2]
  | halt x w'=>rw[e]at q;exact absurd q (by simp[Oper.quietUpon])
 ·rw[if_neg c]at h
  exact⟨undef,.inr ⟨by simpa using c,rfl⟩,h⟩
theorem aO{ob:Ix->World->Prop}{mk:Ix->Value}(hs:sp k=some (ob,mk))(hw:Region.wanted o (yielded ops a.tmps)=true)(hr: ∀w,Has W sp (rst (dp k) S) w->LayR P w ob mk ((execOp a.eval o).run P w))
  (h: ∀b,Fresh W S b->wpFree P ops W sp dp Q rest (k+1) (a.put o.dst (mk b)) (putL S k b)):wpFree P ops W sp dp Q (o :: rest) k a S:=by
 simp only[wpFree,hs]
 exact⟨⟨hw,hr⟩,h⟩
theorem dW{ob:Ix->World->Prop}{mk:Ix->Value}{f:FuncId}{args:Array Value}(h1: ∀w,(execOp a.eval o).run P w=.ok (.enter f args) w)(h2: ∀w,Has W sp S w->Calls P f args w (fun e w2=> ∃x,e=.returned (mk x)/\Ab w w2/\(∀b,b ∈ x.1->w.heap.size<=b/\b<w2.heap.size)/\ob x w2)): ∀w,Has W sp S w->LayR P w ob mk ((execOp a.eval o).run P w):=fun w hw0=>by
 have hw:=hw0.1
 rw[h1 w]
 exact⟨rfl,h2 w hw0⟩
theorem dC(h:Q a S):wpFree P ops W sp dp Q [] k a S:=h
end
theorem Has.at{W:World}{sp:Sp}{S:Nat->Option Ix}{w:World}(h:Has W sp S w){i:Nat}{x:Ix}{R:Ix->World->Prop}{mk:Ix->Value}(e:S i=some x)(s:sp i=some (R,mk)):R x w/\ ∀b,b ∈ x.1->W.heap.size<=b/\b<w.heap.size:=by
 obtain⟨h1,o,m,h2,h3⟩:=h.2 i x e
 rw[s]at h2
 injection h2 with h2
 injection h2 with h2
 subst h2
 exact⟨h3,h1⟩
end Cx
end
section
open Go.RowKit Tf Cu Go.Deep
attribute [local go_sem] aL aM aP aQ aR aU aX aG
namespace Spl
theorem hl_eq(n P k:Nat):((List.range (6*n*n)).filter fun c=>((List.range (12*n*n)).any fun e=>(decide (lo (6*n*n) P k<=lf n e)&&decide (lf n e<lo (6*n*n) P (k+1)))&&(c==lf n e||c==rt n e||c==bsC n (edT n e/4) ((edT n e%4+2)%4)||c==bsC n (bsC n (edT n e/4) (edT n e%4)) ((bsS n (edT n e/4) (edT n e%4)+2)%4)))&& !(decide (lo (6*n*n) P k<=c)&&decide (c<lo (6*n*n) P (k+1))))=hlP n P k:=by
 unfold hlP ask edP
 congr 1
 funext c
 rw[List.any_filter]
 rfl
theorem sU(n rb P k:Nat)(w:World)(hn:1<=n/\n<=32)(hk:k<P)(g:RefOf n rb w):
  Calls prog 30 #[.pointer (some ⟨rb,0,none⟩),.int .i64 (lo (6*n*n) P k:Nat),.int .i64 (lo (6*n*n) P (k+1):Nat)] w fun e w'=> ∃s1 s2 s3,e=.returned (.agg #[s1,s2,s3])/\Ab w w'/\OwnN w.heap.size s1 (lsP n P (k*3)) w'/\OwnN w.heap.size s2 (lsP n P (k*3+1)) w'/\OwnN w.heap.size s3 (lsP n P (k*3+2)) w':=by
 have n1:=n12 hn
 have n0:0<6*n*n:=Nat.mul_pos (Nat.mul_pos (by decide) hn.1) hn.1
 have n3:12*n*n=2*(6*n*n):=by rw[<- Nat.mul_assoc,<- Nat.mul_assoc]
 have h:=rone_go rb (6*n*n) (12*n*n) (lo (6*n*n) P k) (lo (6*n*n) P (k+1)) (lf n) (fun e=>edT n e%4) (rt n) (fun e=>bsS n (edT n e/4) (edT n e%4)) (fun e=>bsC n (edT n e/4) ((edT n e%4+2)%4)) (fun e=>bsC n (bsC n (edT n e/4) (edT n e%4)) ((bsS n (edT n e/4) (edT n e%4)+2)%4)) w ⟨n0,by omega⟩ n1 ⟨cB _ _ _,iJ (by omega) (by omega)⟩ (hid fun e he=>rF hn.1 he) (hid fun v a=>kW hn (g.to a)) (hid fun v a=>kX (g.to a)) (hid fun v e a he=> ?_) (hid fun v e a he=> ?_)
 ·refine h.mono ?_
  rintro e w' ⟨s1,s2,s3,rfl,b,o1,o2,o3⟩
  rw[hl_eq]at o3
  rw[ls_0,ls_1,ls_2]
  exact⟨s1,s2,s3,rfl,b,o1,o2,o3⟩
 ·obtain⟨h1,h2,h3⟩:=bS hn.1 he
  have h:=oA hn h1 h2 (g.to a)
  rw[h3]at h
  exact h
 ·obtain⟨h1,h2,h3⟩:=bS hn.1 he
  have h:=pU hn h1 h2 (g.to a)
  rw[h3]at h
  exact h
theorem infoPt:(Tryd.prog.info? 40).map (fun i=>(i.zero,i.size,i.bytes))=some (some (.agg #[.slice none 0 0,.slice none 0 0,.slice none 0 0]),3,72):=by kernel_rfl
theorem info_pt: ∃i,Tryd.prog.info? 40=some i/\i.zero=some (.agg #[.slice none 0 0,.slice none 0 0,.slice none 0 0])/\i.size=3/\i.bytes=72:=by
 have h:=infoPt
 cases e:Tryd.prog.info? 40 with
 | none=>rw[e]at h;cases h
 | some i=>
  rw[e]at h
  injection h with h
  injection h with h1 h2
  injection h2 with h2 h3
  exact⟨i,rfl,h1,h2,h3⟩
theorem bs_part(p q r:Option Addr)(n m l c d f:Nat)(w:World):(Instr.buildSlice 33 1 #[(0,.agg #[.slice p n c,.slice q m d,.slice r l f])]).run prog w=.ok (.slice (some ⟨w.heap.size,0,none⟩) 1 1) (w.alloc (.cells #[.slice p n c,.slice q m d,.slice r l f] 40)):=by
 simp[go_sem,Instr.buildSlice,run_underlying underlying33]
def RPs(B n P K:Nat)(v:Value)(X:Nat->Value)(w:World):Prop:=
 w.ownsRow B 40 3 v K ((List.range (K*3)).map X)/\ ∀i,i<K*3->OwnN B (X i) (lsP n P i) w/\ ∀b,(X i).ownBlock=some b->v.ownBlock≠some b
def RO(B n P k:Nat)(v1 v2 v3:Value)(w:World):Prop:= ∃p1 c1 p2 c2 p3 c3,v1=.slice p1 (cst (lsP n P (k*3))).length c1/\v2=.slice p2 (cst (lsP n P (k*3+1))).length c2/\v3=.slice p3 (cst (lsP n P (k*3+2))).length c3/\OwnN B v1 (lsP n P (k*3)) w/\OwnN B v2 (lsP n P (k*3+1)) w/\OwnN B v3 (lsP n P (k*3+2)) w
theorem ro_mk{B C n P k:Nat}{v1 v2 v3:Value}{w:World}(hc:C<=B)(o1:OwnN B v1 (lsP n P (k*3)) w)(o2:OwnN B v2 (lsP n P (k*3+1)) w)(o3:OwnN B v3 (lsP n P (k*3+2)) w):RO C n P k v1 v2 v3 w:=by
 obtain⟨p1,c1,e1⟩:=(OT.ofN o1).val
 obtain⟨p2,c2,e2⟩:=(OT.ofN o2).val
 obtain⟨p3,c3,e3⟩:=(OT.ofN o3).val
 exact⟨p1,c1,p2,c2,p3,c3,e1,e2,e3,OT.toN ((OT.ofN o1).mono hc),OT.toN ((OT.ofN o2).mono hc),OT.toN ((OT.ofN o3).mono hc)⟩
theorem RO.to{B n P k:Nat}{v1 v2 v3:Value}{w w':World}(h:RO B n P k v1 v2 v3 w)(a:Ab w w'):RO B n P k v1 v2 v3 w':=by
 obtain⟨p1,c1,p2,c2,p3,c3,e1,e2,e3,h1,h2,h3⟩:=h
 exact⟨p1,c1,p2,c2,p3,c3,e1,e2,e3,OT.toN ((OT.ofN h1).to a),OT.toN ((OT.ofN h2).to a),OT.toN ((OT.ofN h3).to a)⟩
def R13(B n P k:Nat)(x:Cx.Ix)(w:World):Prop:= ∃v1 v2 v3,x.2=.agg #[v1,v2,v3]/\RO B n P k v1 v2 v3 w
def R14(B n P k:Nat)(x:Cx.Ix)(w:World):Prop:= ∃b v1 v2 v3,x=([b],.slice (some ⟨b,0,none⟩) 1 1)/\w.heap[b]? =some (.cells #[v1,v2,v3] 40)/\RO B n P k v1 v2 v3 w
theorem stb_x(B n P k:Nat):Cx.Stable (fun j=>if j=13 then some (R13 B n P k,fun x=>x.2)else if j=14 then some (R14 B n P k,fun x=>x.2)else none):=fun i R mk h x v v' hr ha=>by
 rcases Nat.decEq i 13 with q13 | q13
 rotate_left
 ·subst q13
  simp only[if_true,Option.some.injEq,Prod.mk.injEq]at h
  obtain⟨h1,h2⟩:=h
  subst h1 h2
  obtain⟨v1,v2,v3,e,ro⟩:=hr
  exact⟨v1,v2,v3,e,ro.to ha⟩
 rcases Nat.decEq i 14 with q14 | q14
 rotate_left
 ·subst q14
  simp only[if_true,if_neg (show¬(14:Nat)=13 by decide),Option.some.injEq,Prod.mk.injEq]at h
  obtain⟨h1,h2⟩:=h
  subst h1 h2
  obtain⟨b,v1,v2,v3,e,hb,ro⟩:=hr
  exact⟨b,v1,v2,v3,e,ha.heap hb,ro.to ha⟩
 simp only[if_neg q13,if_neg q14]at h
 cases h
theorem oK{P:Program}{a:Act}{o:Oper}{x y z:Operand}{f:FuncId}{fn:Func}{ats:Array TypeId}{v u t:Value}(ho:o.op=.call {callee:=.value (.func f),args:= #[x,y,z],argTypes:=ats})(hx:a.eval x=v)(hy:a.eval y=u)(hz:a.eval z=t)(hf:P.funcs[f]? =some fn)(hn:(fn.name== "runtime.NumGoroutine")=false)(hb:fn.body.isNone=false)(w:World):(execOp a.eval o).run P w=.ok (.enter f #[v,u,t]) w:=by
 have h1:fn.name≠ "runtime.NumGoroutine" :=by simpa using hn
 have ef:a.eval (.func f)=.func (.func f) #[] #[]:=rfl
 have e:execOp a.eval o=callFunc f #[v,u,t]:=by
  unfold execOp
  simp[ho,resolve,Deferred.ofValue,invoke,ef,hx,hy,hz]
 obtain⟨c,hc⟩: ∃c,fn.body=some c:=by
  cases h:fn.body with
  | none=>simp[h]at hb
  | some c=>exact⟨c,rfl⟩
 rw[e]
 simp[callFunc,hf,h1,hc]
theorem own_to22{B K s:Nat}{t:TypeId}{v:Value}{xs:List Value}{w w':World}(h:w.ownsRow B t s v K xs)(a:Ab w w'):w'.ownsRow B t s v K xs:=by
 rcases h.2 with⟨q,e⟩ | ⟨g,cap,cur,q,hb,hg,rest⟩
 ·exact⟨h.1,.inl ⟨q,e⟩⟩
 ·exact⟨h.1,.inr ⟨g,cap,cur,q,hb,a.heap hg,rest⟩⟩
theorem RPs.to22{B n P k:Nat}{v:Value}{X:Nat->Value}{w w':World}(h:RPs B n P k v X w)(a:Ab w w'):RPs B n P k v X w':=⟨own_to22 h.1 a,fun i hi=>⟨OT.toN ((OT.ofN (h.2 i hi).1).to a),(h.2 i hi).2⟩⟩
theorem OwnN.grown22{B C:Nat}{v:Value}{l:List Nat}{w w':World}{row:Option Nat}(h:OwnN B v l w)(hc:C<=B)(x:w.grownBy w' row)(hr: ∀b,v.ownBlock=some b->row≠some b):OwnN C v l w':=OT.toN (((OT.ofN h).grown x hr).mono hc)
theorem RPs.app{B n P k g cc M:Nat}{ov:Value}{X:Nat->Value}{w3 w4:World}{s1 s2 s3:Value}{V:World}(h:RPs B n P k ov X w3)(o1:OwnN M s1 (lsP n P (k*3)) w3)(o2:OwnN M s2 (lsP n P (k*3+1)) w3)(o3:OwnN M s3 (lsP n P (k*3+2)) w3)
  (o4:w4.ownsRow B 40 3 (.slice (some ⟨g,0,none⟩) (k+1) cc) (k+1) ((List.range (k*3)).map X++[s1,s2,s3])) (g4:w3.grownBy w4 ov.ownBlock) (e4:ov.ownBlock=some g\/g=w3.heap.size) (av:Ab V w3) (hm: ∀b,ov.ownBlock=some b->b<M) (hBM:B<=M) (hB:V.heap.size=B:=by rfl):
  Ab V w4/\RPs B n P (k+1) (.slice (some ⟨g,0,none⟩) (k+1) cc) (fun i=>if i<k*3 then X i else if i=k*3 then s1 else if i=k*3+1 then s2 else s3) w4:=by
 subst hB
 have lt: ∀b,ov.ownBlock=some b->V.heap.size<=b/\b<w3.heap.size:=fun b hb=>World.ownsRow.lt h.1 b hb
 have new: ∀(s:Value) (l:List Nat),OwnN M s l w3->OwnN V.heap.size s l w4/\ ∀b,s.ownBlock=some b->b≠g:=fun s l o=>by
  have bb: ∀b,s.ownBlock=some b->M<=b/\b<w3.heap.size:=fun b hb=>(OT.ofN o).blk hb
  refine⟨OwnN.grown22 o hBM g4 (fun b hb e=> ?_),fun b hb e=> ?_⟩
  ·have h1:=hm b e
   have h2:=bb b hb
   omega
  ·have h2:=bb b hb
   rcases e4 with e4 | e4
   ·have h1:=hm g e4
    omega
   ·omega
 have old: ∀i,i<k*3->OwnN V.heap.size (X i) (lsP n P i) w4/\ ∀b,(X i).ownBlock=some b->b≠g:=fun i hi=>by
  obtain⟨p1,p2⟩:=h.2 i hi
  refine⟨OwnN.grown22 p1 (Nat.le_refl _) g4 (fun b hb e=>p2 b hb e),fun b hb e=> ?_⟩
  have h2:=(OT.ofN p1).blk hb
  rcases e4 with e4 | e4
  ·exact p2 b hb (by rw[e4,e])
  ·omega
 refine⟨?_,?_,fun i hi=> ?_⟩
 ·exact av.grown g4 av.size (fun b hb=>(lt b hb).1)
 ·have e:((List.range ((k+1)*3)).map fun i=>if i<k*3 then X i else if i=k*3 then s1 else if i=k*3+1 then s2 else s3)=(List.range (k*3)).map X++[s1,s2,s3]:=by
   rw[show(k+1)*3=k*3+1+1+1 by omega,List.range_succ,List.range_succ,List.range_succ]
   simp only[List.map_append,List.map_cons,List.map_nil,List.append_assoc,List.cons_append,List.nil_append]
   congr 1
   ·apply List.map_congr_left
    intro i hi
    rw[if_pos (List.mem_range.1 hi)]
   ·have c1: ¬k*3+1<k*3:=by omega
    have c2: ¬k*3+2<k*3:=by omega
    simp[c1,c2]
  rw[e]
  exact o4
 ·have ob:(Value.slice (some ⟨g,0,none⟩) (k+1) cc).ownBlock=some g:=rfl
  dsimp only
  by_cases q0:i<k*3
  ·rw[if_pos q0]
   exact⟨(old i q0).1,fun b hb e=>(old i q0).2 b hb (by rw[ob]at e;injection e with e;exact e.symm)⟩
  ·rw[if_neg q0]
   by_cases q1:i=k*3
   ·rw[if_pos q1,q1]
    exact⟨(new _ _ o1).1,fun b hb e=>(new _ _ o1).2 b hb (by rw[ob]at e;injection e with e;exact e.symm)⟩
   ·rw[if_neg q1]
    by_cases q2:i=k*3+1
    ·rw[if_pos q2,q2]
     exact⟨(new _ _ o2).1,fun b hb e=>(new _ _ o2).2 b hb (by rw[ob]at e;injection e with e;exact e.symm)⟩
    ·rw[if_neg q2,show i=k*3+2 by omega]
     exact⟨(new _ _ o3).1,fun b hb e=>(new _ _ o3).2 b hb (by rw[ob]at e;injection e with e;exact e.symm)⟩
theorem oL(rb:Nat)(parts:Int)(w:World)(hp:parts<1):Calls prog 8 #[.pointer (some ⟨rb,0,none⟩),.int .i64 parts] w fun e w'=>e=.returned (.tuple #[.slice none 0 0,.int .i64 1])/\w'=w:=by
 have d1:decide (parts<1)=true:=decide_eq_true hp
 clear hp
 go_enter func8,ntmps8
 go_wp2
 go_ret2
 exact⟨rfl,rfl⟩
theorem oM(rb:Nat)(parts:Int)(w:World)(hp: ¬parts<1/\64<parts):Calls prog 8 #[.pointer (some ⟨rb,0,none⟩),.int .i64 parts] w fun e w'=>e=.returned (.tuple #[.slice none 0 0,.int .i64 1])/\w'=w:=by
 have d1:decide (parts<1)=false:=decide_eq_false hp.1
 have d2:decide (parts>64)=true:=decide_eq_true hp.2
 have d3: ¬parts<1:=hp.1
 have d4:(64:Int)<parts:=hp.2
 clear hp
 go_enter func8,ntmps8
 go_wp2
 go_ret2
 exact⟨rfl,rfl⟩
theorem sV(n rb N P:Nat)(a:Nat->Nat)(w:World)(hP:1<=P/\P<=64)(hN:N<=6144)(ha: ∀k,a k=k*N/P)
  (CC:Hid (∀v,Ab w v->Calls prog 29 #[.pointer (some ⟨rb,0,none⟩)] v fun e w'=>e=.returned (.int .i64 (N:Nat))/\w'=v))
  (CO:Hid (∀v k,Ab w v->k<P->Calls prog 30 #[.pointer (some ⟨rb,0,none⟩),.int .i64 (a k:Nat),.int .i64 (a (k+1):Nat)] v fun e w'=> ∃s1 s2 s3,e=.returned (.agg #[s1,s2,s3])/\Ab v w'/\OwnN v.heap.size s1 (lsP n P (k*3)) w'/\OwnN v.heap.size s2 (lsP n P (k*3+1)) w'/\OwnN v.heap.size s3 (lsP n P (k*3+2)) w')):
  Calls prog 8 #[.pointer (some ⟨rb,0,none⟩),.int .i64 (P:Nat)] w fun e w'=> ∃v X,e=.returned (.tuple #[v,.int .i64 0])/\Ab w w'/\RPs w.heap.size n P P v X w':=by
 have HP:=hid hP
 have HN:=hid hN
 have HA:=hid ha
 have nB:(N:Int)<=6144:=by omega
 have pB:(P:Int)<=64:=by omega
 have pA:1<=(P:Int):=by omega
 have p0:0<P:=by omega
 have pC:decide ((P:Int)<1)=false:=decide_eq_false (by omega)
 have pD:decide ((P:Int)>64)=false:=decide_eq_false (by omega)
 have pz:((P:Int)==0)=false:=by simp;omega
 have pz2: ¬(P:Int)=0:=by omega
 have pz3: ¬P=0:=by omega
 have pz4:(P==0)=false:=by simp;omega
 obtain⟨i0,hi,hz0,hz1,hz2⟩:=info_pt
 have IP:=hid (And.intro hi (And.intro hz0 (And.intro hz1 hz2)))
 have BS:=bs_part
 clear hP hN ha hi hz0 hz1 hz2
 go_enter func8,ntmps8
 go_wp2_with fail
 refine(CC.out w (Ab.refl _)).mono ?_
 rintro e9 V9 ⟨rfl,hw⟩
 have hw2:=hw.symm
 subst hw2
 clear hw CC
 go_wp2_with fail
 go_loopw [7,8] (fun ov kv wr=> ∃(k:Nat) (X:Nat->Value),k<=P/\kv=.int .i64 (k:Nat)/\Ab w wr/\RPs w.heap.size n P k ov X wr) (fun _ kv _=>P - (intOf kv).toNat)
 case atStart=>exact⟨0,fun _=>.slice none 0 0,by omega,rfl,Ab.refl _,⟨rfl,.inl ⟨rfl,rfl⟩⟩,fun i hi=>by omega⟩
 case round=>
  obtain⟨k,X,hk,rfl,ar,ps⟩:=hrel
  have AR:=hid ar
  have PS:=hid ps
  have HKL:=hid hk
  have kB:(k:Int)<=64:=by omega
  clear ar ps hk
  by_cases hkn:k<P
  ·have HK:=hid hkn
   have kI:(k:Int)<P:=by omega
   have kn:k*N<=393216:=by
    have h1:k<=63:=by have:=HP.out;omega
    have h2:=Nat.mul_le_mul h1 HN.out
    omega
   obtain⟨x,hx⟩:=aC (k*N)
   obtain⟨y,hy⟩:=aC ((k+1)*N)
   have hxy:y=x+N:=by rw[<- hx,<- hy,Nat.succ_mul]
   have m1:(k:Int)*(N:Int)=(x:Int):=by rw[<- hx];simp
   have m2:((k:Int)+1)*(N:Int)=(y:Int):=by rw[<- hy];simp
   have q1:(x:Int).tdiv (P:Int)=(a k:Nat):=by rw[HA.out k,hx,Int.tdiv_eq_ediv_of_nonneg (by omega)];simp
   have q2:(y:Int).tdiv (P:Int)=(a (k+1):Nat):=by rw[HA.out (k+1),hy,Int.tdiv_eq_ediv_of_nonneg (by omega)];simp
   rw[hx]at kn
   have xB:(x:Int)<=393216:=by omega
   have yB:(y:Int)<=399360:=by have:=HN.out;omega
   have COk:=hid (fun v (h:Ab w v)=>CO.out v k h hkn)
   obtain⟨ak,hak⟩:=aC (a k)
   obtain⟨bk,hbk⟩:=aC (a (k+1))
   rw[hak]at q1 COk
   rw[hbk]at q2 COk
   have akB:(ak:Int)<=393216:=by
    have h:=Nat.div_le_self x P
    have e:ak=x/P:=by rw[<- hak,HA.out k,hx]
    omega
   have bkB:(bk:Int)<=399360:=by
    have h:=Nat.div_le_self y P
    have e:bk=y/P:=by rw[<- hbk,HA.out (k+1),hy]
    omega
   have av:Ab w wr:=AR.out
   have AD:=AR.out.drew
   clear hx hy hxy hak hbk kn hkn
   go_upto_region 10 with fail
   obtain⟨UU,E,hF1,hF2⟩:=cls wr.drew
   have HU:=hid hF2
   clear hF1 hF2
   refine Cx.cM 15 (fun j=>if j=13 then some (R13 wr.heap.size n P k,fun x=>x.2)else if j=14 then some (R14 wr.heap.size n P k,fun x=>x.2)else none) (fun j=>if j=14 then [13]else []) (stb_x _ _ _ _) (by kernel_rfl) (by kernel_rfl) (by kernel_rfl) (by kernel_rfl) ?_
   simp only[List.take_succ_cons,List.take_zero]
   refine Cx.aD HU (by rfl) (by rfl) ?_
   go_big_quiet_step (with_reducible rfl)
   refine wpQuiet_nil ?_
   refine Cx.aD HU (by rfl) (by rfl) ?_
   go_big_quiet_step (with_reducible rfl)
   refine wpQuiet_nil ?_
   refine Cx.aD HU (by rfl) (by rfl) ?_
   go_big_quiet_step (with_reducible rfl)
   refine wpQuiet_nil ?_
   refine Cx.aD HU (by rfl) (by rfl) ?_
   go_big_quiet_step (with_reducible rfl)
   refine wpQuiet_nil ?_
   refine Cx.aD HU (by rfl) (by rfl) ?_
   go_big_quiet_step (with_reducible rfl)
   refine wpQuiet_nil ?_
   refine Cx.aD HU (by rfl) (by rfl) ?_
   go_big_quiet_step (with_reducible rfl)
   refine wpQuiet_nil ?_
   refine Cx.aD HU (by rfl) (by rfl) ?_
   go_big_quiet_step (with_reducible rfl)
   refine wpQuiet_nil ?_
   refine Cx.aD HU (by rfl) (by rfl) ?_
   go_big_quiet_step (with_reducible rfl)
   refine wpQuiet_nil ?_
   refine Cx.aD HU (by rfl) (by rfl) ?_
   go_big_quiet_step (with_reducible rfl)
   refine wpQuiet_nil ?_
   refine Cx.aD HU (by rfl) (by rfl) ?_
   go_big_quiet_step (with_reducible rfl)
   refine wpQuiet_nil ?_
   refine Cx.aD HU (by rfl) (by rfl) ?_
   go_big_quiet_step (with_reducible rfl)
   refine wpQuiet_nil ?_
   refine Cx.aD HU (by rfl) (by rfl) ?_
   go_big_quiet_step (with_reducible rfl)
   refine wpQuiet_nil ?_
   refine Cx.aD HU (by rfl) (by rfl) ?_
   go_big_quiet_step (with_reducible rfl)
   refine wpQuiet_nil ?_
   refine Cx.aO (ob:=R13 wr.heap.size n P k) (mk:=fun x=>x.2) (by rfl) (by kernel_rfl) ?_ ?_
   ·refine Cx.dW (f:=30) (args:= #[.pointer (some ⟨rb,0,none⟩),.int .i64 (ak:Nat),.int .i64 (bk:Nat)]) ?_ (fun v hv=>(COk.out v (AR.out.trans ((Ab.refl wr).drew.trans hv.1))).mono fun e w' h=> ?_)
    ·intro v
     exact oK (x:=.tmp 25) (y:=.tmp 30) (z:=.tmp 36) (by rfl) (by rfl) (by rfl) (by rfl) func30 (by kernel_rfl) (by kernel_rfl) v
    ·obtain⟨s1,s2,s3,rfl,b3,o1,o2,o3⟩:=h
     have sz:wr.heap.size<=v.heap.size:=Ab.size (show Ab wr v from(Ab.refl wr).drew.trans hv.1)
     exact⟨([],.agg #[s1,s2,s3]),rfl,b3,(fun b hb=>by cases hb),s1,s2,s3,rfl,ro_mk sz o1 o2 o3⟩
   intro x13 fx13
   simp only[Act.put,List.setIfInBounds_toArray,List.set_cons_succ,List.set_cons_zero]
   refine Cx.aO (ob:=R14 wr.heap.size n P k) (mk:=fun x=>x.2) (by rfl) (by kernel_rfl) ?_ ?_
   ·intro v hv
    obtain⟨⟨s1,s2,s3,e,ro⟩,-⟩:=hv.at (i:=13) (x:=x13) (R:=R13 wr.heap.size n P k) (mk:=fun x=>x.2) (by rfl) (by rfl)
    obtain⟨p1,c1,p2,c2,p3,c3,rfl,rfl,rfl,h1,h2,h3⟩:=ro
    rw[kD (P:=prog) (vs:= #[(0,x13.2)]) (u:=.slice (some ⟨v.heap.size,0,none⟩) 1 1) (w':=v.alloc (.cells #[.slice p1 (cst (lsP n P (k*3))).length c1,.slice p2 (cst (lsP n P (k*3+1))).length c2,.slice p3 (cst (lsP n P (k*3+2))).length c3] 40)) (by rfl) (by simp[Act.eval]) (by rw[e];exact BS p1 p2 p3 _ _ _ c1 c2 c3 v)]
    have ab:Ab v (v.alloc (.cells #[.slice p1 (cst (lsP n P (k*3))).length c1,.slice p2 (cst (lsP n P (k*3+1))).length c2,.slice p3 (cst (lsP n P (k*3+2))).length c3] 40)):=bl1 _ _
    exact⟨([v.heap.size],.slice (some ⟨v.heap.size,0,none⟩) 1 1),rfl,ab,fun b hb=>by
     have hb:b=v.heap.size:=by simpa using hb
     subst hb
     exact⟨Nat.le_refl _,by rw[cH];omega⟩,v.heap.size,_,_,_,rfl,heap_alloc_new _ _,p1,c1,p2,c2,p3,c3,rfl,rfl,rfl,OT.toN ((OT.ofN h1).to ab),OT.toN ((OT.ofN h2).to ab),OT.toN ((OT.ofN h3).to ab)⟩
   intro x14 fx14
   simp only[Act.put,List.setIfInBounds_toArray,List.set_cons_succ,List.set_cons_zero]
   refine Cx.dC ?_
   intro w3 hz
   obtain⟨⟨bb,s1,s2,s3,rfl,hbb,ro⟩,k14⟩:=hz.at (i:=14) (x:=x14) (R:=R14 wr.heap.size n P k) (mk:=fun x=>x.2) (by rfl) (by rfl)
   obtain⟨p1,c1,p2,c2,p3,c3,rfl,rfl,rfl,o1,o2,o3⟩:=ro
   have B3:Hid (Ab wr w3):=(Ab.refl wr).drew.trans hz.1
   have A3:Ab w w3:=AR.out.trans B3.out
   have O1:=hid o1
   have O2:=hid o2
   have O3:=hid o3
   have HBB:=hid hbb
   have PS0:=hid (RPs.to22 PS.out B3.out)
   have hbs:bb<w3.heap.size:=lt_of_block hbb
   clear o1 o2 o3 k14 hz fx13 fx14 HU hbb
   clear E UU
   simp only[List.drop_succ_cons,List.drop_zero]
   go_wp2_with (at_builtin;refine wpList_append_lies _ rfl (.tmp 24) (.tmp 38) 33 rfl w.heap.size 40 i0 (.agg #[.slice none 0 0,.slice none 0 0,.slice none 0 0]) 3 72 underlying33 IP.out.1 IP.out.2.1 IP.out.2.2.1 IP.out.2.2.2 rfl (by decide) _ k ((List.range (k*3)).map X) rfl PS0.out.1 ⟨bb,0,none⟩ 1 1 [.slice p1 (cst (lsP n P (k*3))).length c1,.slice p2 (cst (lsP n P (k*3+1))).length c2,.slice p3 (cst (lsP n P (k*3+2))).length c3] rfl rfl (World.news_of_block (cs:= #[.slice p1 (cst (lsP n P (k*3))).length c1,.slice p2 (cst (lsP n P (k*3+1))).length c2,.slice p3 (cst (lsP n P (k*3+2))).length c3]) (t:=40) (fr:=(0,0)) HBB.out) (by intro u hu;simp at hu;rcases hu with rfl | rfl | rfl<;>rfl) (by decide) (by have:=HK.out;have:=HP.out;unfold maxLen;omega) (by have:=HK.out;have:=HP.out;omega) (by have:=A3.size;omega) _ rfl ?_;intro g1 cc1 w4 o4 g4 e4 l4;have O4:=hid o4;have G4:=hid g4;have E4:=hid e4;clear o4 g4 e4 l4)
   have RX:=hid (RPs.app PS0.out O1.out O2.out O3.out O4.out G4.out E4.out A3 (fun b hb=>(World.ownsRow.lt PS.out.1 b hb).2) AR.out.size)
   exact⟨⟨k+1,fun i=>if i<k*3 then X i else if i=k*3 then .slice p1 (cst (lsP n P (k*3))).length c1 else if i=k*3+1 then .slice p2 (cst (lsP n P (k*3+1))).length c2 else .slice p3 (cst (lsP n P (k*3+2))).length c3,by have:=HK.out;omega,by simp,RX.out.1,RX.out.2⟩,by have:=HK.out;simp[intOf];omega⟩
  ·have e6:P=k:=by have:=HKL.out;omega
   subst e6
   go_wp2
   go_ret2
   exact⟨_,X,rfl,AR.out,PS.out⟩
end Spl
end
section
open Go.RowKit Tf Cu Go.Deep
attribute [local go_sem] aL aM aP aQ aR aU aX aG
namespace Spl
theorem RPs.at{B n P:Nat}{v:Value}{X:Nat->Value}{w:World}(h:RPs B n P P v X w)(hn:1<=n/\n<=32)(hP:1<=P): ∃g cap q d,v=.slice (some ⟨g,0,none⟩) P cap/\PsAt n P g q d w:=by
 have n1:=n12 hn
 have q: ∀i,i<P*3-> ∃a0 cap,X i=.slice a0 (lsP n P i).length cap/\Sh.IsI w a0 (lsP n P i).length (rd (lsP n P i)):=fun i hi=>by
  have own:=(h.2 i hi).1
  exact own.in (fun x hx=>by have:=ls_lt hn hi hx;omega)
 have q': ∀i,∃z:Option Addr × Nat,i<P*3->X i=.slice z.1 (lsP n P i).length z.2/\Sh.IsI w z.1 (lsP n P i).length (rd (lsP n P i)):=fun i=>by
  by_cases hi:i<P*3
  ·obtain⟨a0,cap,k⟩:=q i hi
   exact⟨(a0,cap),fun _=>k⟩
  ·exact⟨(none,0),fun k=>absurd k hi⟩
 obtain⟨z,hz⟩: ∃z:Nat->Option Addr × Nat,∀i,i<P*3->X i=.slice (z i).1 (lsP n P i).length (z i).2/\Sh.IsI w (z i).1 (lsP n P i).length (rd (lsP n P i)):=⟨fun i=>Classical.choose (q' i),fun i=>Classical.choose_spec (q' i)⟩
 rcases h.1.2 with⟨rfl,h0⟩ | ⟨g,cap,cur,rfl,hb,hg,rest⟩
 ·omega
 ·refine⟨g,cap,fun i=>(z i).1,fun i=>(z i).2,rfl,lt_of_block hg,fun i hi=>⟨?_,(hz i hi).2⟩⟩
  have e:=World.ownsRow.cells (g:=g) h.1 rfl i (X i) (by simp[hi])
  rw[Sh.lZ,Nat.zero_add]at e
  rw[e,(hz i hi).1]
theorem sall_no(side parts:Int)(w:World)(LV:Hid (∀v,Ab w v->Calls prog 4 #[] v fun e w'=>e=.returned (.bool true)/\Below v.heap.size v w'))
  (SN:Hid (∀v,Calls prog 5 #[.pointer none,.int .i64 parts] v fun e w'=>e=.returned (.tuple #[.slice none 0 0,.int .i64 2])/\Below v.heap.size v w'))
  (NW:Hid (∀v,Calls prog 6 #[.int .i64 side] v fun e w'=>e=.returned (.tuple #[.pointer none,.int .i64 10])/\w'=v))
  (RW:Hid (∀v,Calls prog 7 #[.int .i64 side] v fun e w'=>e=.returned (.tuple #[.pointer none,.int .i64 10])/\w'=v)):
  Calls prog 3 #[.int .i64 side,.int .i64 parts] w fun e w'=>e=.returned (.bool true)/\Below w.heap.size w w':=by
 go_enter func3,ntmps3
 go_wp2_with fail
 refine(LV.out w (Ab.refl _)).mono ?_
 rintro e9 v1 ⟨rfl,k1⟩
 have A1:Hid (Ab w v1):=k1
 clear k1 LV
 go_wp2_with fail
 refine(SN.out v1).mono ?_
 rintro e9 v2 ⟨rfl,k2⟩
 have A2:Hid (Ab w v2):=A1.out.trans k2
 clear k2 SN A1
 go_wp2_with fail
 refine(NW.out v2).mono ?_
 rintro e9 v3 ⟨rfl,hw⟩
 have hw2:=hw.symm
 subst hw2
 go_wp2_with fail
 refine(RW.out v2).mono ?_
 rintro e9 v4 ⟨rfl,hw⟩
 have hw2:=hw.symm
 subst hw2
 go_wp2
 go_ret
 exact⟨rfl,A2.out⟩
theorem sall_bad(side parts:Int)(n:Nat)(w:World)(LV:Hid (∀v,Ab w v->Calls prog 4 #[] v fun e w'=>e=.returned (.bool true)/\Below v.heap.size v w'))
  (SN:Hid (∀v,Calls prog 5 #[.pointer none,.int .i64 parts] v fun e w'=>e=.returned (.tuple #[.slice none 0 0,.int .i64 2])/\Below v.heap.size v w'))
  (NW:Hid (∀v,Ab w v->Calls prog 6 #[.int .i64 side] v fun e w'=> ∃gb,e=.returned (.tuple #[.pointer (some ⟨gb,0,none⟩),.int .i64 0])/\Ab v w'/\GridOf n gb w'))
  (RW:Hid (∀v,Ab w v->Calls prog 7 #[.int .i64 side] v fun e w'=> ∃rb,e=.returned (.tuple #[.pointer (some ⟨rb,0,none⟩),.int .i64 0])/\Ab v w'/\RefOf n rb w'))
  (SB:Hid (∀v gb,GridOf n gb v->Calls prog 5 #[.pointer (some ⟨gb,0,none⟩),.int .i64 parts] v fun e w'=>e=.returned (.tuple #[.slice none 0 0,.int .i64 1])/\Below v.heap.size v w'))
  (RB:Hid (∀v rb,Calls prog 8 #[.pointer (some ⟨rb,0,none⟩),.int .i64 parts] v fun e w'=>e=.returned (.tuple #[.slice none 0 0,.int .i64 1])/\w'=v)):
  Calls prog 3 #[.int .i64 side,.int .i64 parts] w fun e w'=>e=.returned (.bool true)/\Below w.heap.size w w':=by
 go_enter func3,ntmps3
 go_wp2_with fail
 refine(LV.out w (Ab.refl _)).mono ?_
 rintro e9 v1 ⟨rfl,k1⟩
 have A1:Hid (Ab w v1):=k1
 clear k1 LV
 go_wp2_with fail
 refine(SN.out v1).mono ?_
 rintro e9 v2 ⟨rfl,k2⟩
 have A2:Hid (Ab w v2):=A1.out.trans k2
 clear k2 SN A1
 go_wp2_with fail
 refine(NW.out v2 A2.out).mono ?_
 rintro e9 v3 ⟨gb,rfl,k3,g3⟩
 have A3:Hid (Ab w v3):=A2.out.trans k3
 have G3:=hid g3
 clear k3 g3 NW A2
 go_wp2_with fail
 refine(RW.out v3 A3.out).mono ?_
 rintro e9 v4 ⟨rb,rfl,k4,g4⟩
 have A4:Hid (Ab w v4):=A3.out.trans k4
 have G4:=hid (G3.out.to k4)
 have R4:=hid g4
 clear k4 g4 RW A3 G3
 go_wp2_with fail
 refine(SB.out v4 gb G4.out).mono ?_
 rintro e9 v5 ⟨rfl,k5⟩
 have A5:Hid (Ab w v5):=A4.out.trans k5
 clear k5
 go_wp2_with fail
 refine(RB.out v5 rb).mono ?_
 rintro e9 v6 ⟨rfl,hw⟩
 have hw2:=hw.symm
 subst hw2
 go_wp2_with fail
 go_loopw [12] (fun kv wr=>kv=.int .i64 0/\wr=v5) (fun _ _=>0)
 case atStart=>exact⟨rfl,by first | trivial | rfl⟩
 case round=>
  obtain⟨rfl,hw⟩:=hrel
  have hw2:=hw.symm
  subst hw2
  go_wp2
  go_ret
  exact⟨rfl,A5.out⟩
theorem sall_go(side:Int)(n P:Nat)(w:World)(hP:1<=P/\P<=64)(LV:Hid (∀v,Ab w v->Calls prog 4 #[] v fun e w'=>e=.returned (.bool true)/\Below v.heap.size v w'))
  (SN:Hid (∀v,Calls prog 5 #[.pointer none,.int .i64 (P:Nat)] v fun e w'=>e=.returned (.tuple #[.slice none 0 0,.int .i64 2])/\Below v.heap.size v w'))
  (NW:Hid (∀v,Ab w v->Calls prog 6 #[.int .i64 side] v fun e w'=> ∃gb,e=.returned (.tuple #[.pointer (some ⟨gb,0,none⟩),.int .i64 0])/\Ab v w'/\GridOf n gb w'))
  (RW:Hid (∀v,Ab w v->Calls prog 7 #[.int .i64 side] v fun e w'=> ∃rb,e=.returned (.tuple #[.pointer (some ⟨rb,0,none⟩),.int .i64 0])/\Ab v w'/\RefOf n rb w'))
  (SP:Hid (∀v gb,GridOf n gb v->Calls prog 5 #[.pointer (some ⟨gb,0,none⟩),.int .i64 (P:Nat)] v fun e w'=> ∃gl p c,e=.returned (.tuple #[.slice (some ⟨gl,0,none⟩) P P,.int .i64 0])/\Below v.heap.size v w'/\PsAt n P gl p c w'))
  (RS:Hid (∀v rb,RefOf n rb v->Calls prog 8 #[.pointer (some ⟨rb,0,none⟩),.int .i64 (P:Nat)] v fun e w'=> ∃g cap q d,e=.returned (.tuple #[.slice (some ⟨g,0,none⟩) P cap,.int .i64 0])/\Ab v w'/\PsAt n P g q d w'))
  (LB:Hid (∀i,(lsP n P i).length<=12288)):
  Calls prog 3 #[.int .i64 side,.int .i64 (P:Nat)] w fun e w'=>e=.returned (.bool true)/\Below w.heap.size w w':=by
 have HP:=hid hP
 have pB:(P:Int)<=64:=by omega
 have pA:1<=(P:Int):=by omega
 clear hP
 go_enter func3,ntmps3
 go_wp2_with fail
 refine(LV.out w (Ab.refl _)).mono ?_
 rintro e9 v1 ⟨rfl,k1⟩
 have A1:Hid (Ab w v1):=k1
 clear k1 LV
 go_wp2_with fail
 refine(SN.out v1).mono ?_
 rintro e9 v2 ⟨rfl,k2⟩
 have A2:Hid (Ab w v2):=A1.out.trans k2
 clear k2 SN A1
 go_wp2_with fail
 refine(NW.out v2 A2.out).mono ?_
 rintro e9 v3 ⟨gb,rfl,k3,g3⟩
 have A3:Hid (Ab w v3):=A2.out.trans k3
 have G3:=hid g3
 clear k3 g3 NW A2
 go_wp2_with fail
 refine(RW.out v3 A3.out).mono ?_
 rintro e9 v4 ⟨rb,rfl,k4,g4⟩
 have A4:Hid (Ab w v4):=A3.out.trans k4
 have G4:=hid (G3.out.to k4)
 have R4:=hid g4
 clear k4 g4 RW A3 G3
 go_wp2_with fail
 refine(SP.out v4 gb G4.out).mono ?_
 rintro e9 v5 ⟨gl,qp,qc,rfl,k5,ps5⟩
 have A5:Hid (Ab w v5):=A4.out.trans k5
 have Q5:=hid ps5
 have R5:=hid (R4.out.to k5)
 clear k5 ps5 SP A4 G4 R4
 go_wp2_with fail
 refine(RS.out v5 rb R5.out).mono ?_
 rintro e9 v6 ⟨gq,cap,rp,rc,rfl,k6,ps6⟩
 have A6:Hid (Ab w v6):=A5.out.trans k6
 have Q6:=hid (Q5.out.to k6)
 have T6:=hid ps6
 clear k6 ps6 RS A5 Q5 R5
 go_wp2_with fail
 go_loopw [12] (fun kv wr=> ∃k:Nat,k<=P/\kv=.int .i64 (k:Nat)/\Ab v6 wr) (fun kv _=>P - (intOf kv).toNat)
 case atStart=>exact⟨0,by omega,rfl,Ab.refl _⟩
 case round=>
  obtain⟨k,hk,rfl,ar⟩:=hrel
  have AR:=hid ar
  have HKL:=hid hk
  have kB:(k:Int)<=64:=by omega
  clear ar hk
  by_cases hkn:k<P
  ·have HK:=hid hkn
   have kI:(k:Int)<P:=by omega
   have QR:=hid (Q6.out.to AR.out)
   have TR:=hid (T6.out.to AR.out)
   have K0:=hid (QR.out.2 (k*3) (by omega)).1
   have J0:=hid (TR.out.2 (k*3) (by omega)).1
   have N0:=hid (fun v (a:Ab wr v)=>bW (qp (k*3)) (rp (k*3)) (lsP n P (k*3)).length (qc (k*3)) (rc (k*3)) (rd (lsP n P (k*3))) v (Nat.le_trans (LB.out _) (by decide)) ((QR.out.2 (k*3) (by omega)).2.below a) ((TR.out.2 (k*3) (by omega)).2.below a))
   have K1:=hid (QR.out.2 (k*3+1) (by omega)).1
   have J1:=hid (TR.out.2 (k*3+1) (by omega)).1
   have N1:=hid (fun v (a:Ab wr v)=>bW (qp (k*3+1)) (rp (k*3+1)) (lsP n P (k*3+1)).length (qc (k*3+1)) (rc (k*3+1)) (rd (lsP n P (k*3+1))) v (Nat.le_trans (LB.out _) (by decide)) ((QR.out.2 (k*3+1) (by omega)).2.below a) ((TR.out.2 (k*3+1) (by omega)).2.below a))
   have K2:=hid (QR.out.2 (k*3+2) (by omega)).1
   have J2:=hid (TR.out.2 (k*3+2) (by omega)).1
   have N2:=hid (fun v (a:Ab wr v)=>bW (qp (k*3+2)) (rp (k*3+2)) (lsP n P (k*3+2)).length (qc (k*3+2)) (rc (k*3+2)) (rd (lsP n P (k*3+2))) v (Nat.le_trans (LB.out _) (by decide)) ((QR.out.2 (k*3+2) (by omega)).2.below a) ((TR.out.2 (k*3+2) (by omega)).2.below a))
   have GL:Hid (gl<wr.heap.size/\gq<wr.heap.size):=⟨QR.out.1,TR.out.1⟩
   clear QR TR hkn
   generalize(lsP n P (k*3)).length=la at*
   generalize rd (lsP n P (k*3))=Ra at*
   generalize qp (k*3)=qa at*
   generalize qc (k*3)=ca at*
   generalize rp (k*3)=ra at*
   generalize rc (k*3)=da at*
   generalize(lsP n P (k*3+1)).length=le at*
   generalize rd (lsP n P (k*3+1))=Re at*
   generalize qp (k*3+1)=qe at*
   generalize qc (k*3+1)=ce at*
   generalize rp (k*3+1)=re at*
   generalize rc (k*3+1)=de at*
   generalize(lsP n P (k*3+2)).length=lh at*
   generalize rd (lsP n P (k*3+2))=Rh at*
   generalize qp (k*3+2)=qh at*
   generalize qc (k*3+2)=ch at*
   generalize rp (k*3+2)=rh at*
   generalize rc (k*3+2)=dh at*
   go_upto_region 17 with fail
   obtain⟨UU,E,hF1,hF2⟩:=cls wr
   have HU:=hid hF2
   have HU1:=hid hF1
   have a0: ∀u,(E u).cell? ⟨gl,k*3,none⟩=some (.slice qa la ca):=fun u=>(Below.cell (hF1 u) GL.out.1).trans K0.out
   have b0: ∀u,(E u).cell? ⟨gq,k*3,none⟩=some (.slice ra la da):=fun u=>(Below.cell (hF1 u) GL.out.2).trans J0.out
   have a1: ∀u,(E u).cell? ⟨gl,k*3+1,none⟩=some (.slice qe le ce):=fun u=>(Below.cell (hF1 u) GL.out.1).trans K1.out
   have b1: ∀u,(E u).cell? ⟨gq,k*3+1,none⟩=some (.slice re le de):=fun u=>(Below.cell (hF1 u) GL.out.2).trans J1.out
   have a2: ∀u,(E u).cell? ⟨gl,k*3+2,none⟩=some (.slice qh lh ch):=fun u=>(Below.cell (hF1 u) GL.out.1).trans K2.out
   have b2: ∀u,(E u).cell? ⟨gq,k*3+2,none⟩=some (.slice rh lh dh):=fun u=>(Below.cell (hF1 u) GL.out.2).trans J2.out
   have DD0:=HU.out _ (Ab.refl wr).drew
   clear hF1 hF2
   refine aK E (by kernel_rfl) (by kernel_rfl) DD0 ?_
   repeat(go_big_quiet_step (first
    | (with_reducible rfl)
    | (go_at_call_of 9 la;exact aF HU HU1 (N0.out _ (HU1.out _)))
    | (go_at_call_of 9 le;exact aF HU HU1 (N1.out _ (HU1.out _)))
    | (go_at_call_of 9 lh;exact aF HU HU1 (N2.out _ (HU1.out _)))))
   refine wpQuiet_nil ?_
   intro z hwz
   obtain⟨u0,hu⟩:=hwz
   have AZ:Hid (Ab wr z):=by rw[hu];exact HU1.out u0
   clear hu u0
   clear HU HU1 DD0 a0 b0 a1 b1 a2 b2
   clear E UU
   go_wp2
   exact⟨⟨k+1,by have:=HK.out;omega,by simp,AR.out.trans AZ.out⟩,by have:=HK.out;simp[intOf];omega⟩
  ·have e6:P=k:=by have:=HKL.out;omega
   subst e6
   go_wp2
   go_ret
   exact⟨rfl,A6.out.trans AR.out⟩
theorem sW(SC:SplitC)(SN:SplitN)(LC:LocalC)(side parts:Int)(w:World)(hF:Fr w)(h64:W64 parts):Calls prog 3 #[.int .i64 side,.int .i64 parts] w fun e w'=>e=.returned (.bool true)/\Below w.heap.size w w':=by
 have LV:=hid (fun v (a:Ab w v)=>pY SC LC v (hF.to a))
 by_cases hs:1<=side/\side<=32
 ·obtain⟨n,rfl⟩: ∃n:Nat,side=(n:Nat):=⟨side.toNat,by omega⟩
  have hn:1<=n/\n<=32:=by omega
  have NW:Hid (∀v,Ab w v->Calls prog 6 #[.int .i64 (n:Nat)] v fun e w'=> ∃gb,e=.returned (.tuple #[.pointer (some ⟨gb,0,none⟩),.int .i64 0])/\Ab v w'/\GridOf n gb w'):=fun v a=>(new_at n v hn (hF.to a)).mono fun _ _ ⟨gb,h1,h2,_,h4⟩=>⟨gb,h1,h2,h4⟩
  have RW:Hid (∀v,Ab w v->Calls prog 7 #[.int .i64 (n:Nat)] v fun e w'=> ∃rb,e=.returned (.tuple #[.pointer (some ⟨rb,0,none⟩),.int .i64 0])/\Ab v w'/\RefOf n rb w'):=fun v _=>(rnew_at n v hn).mono fun _ _ ⟨rb,_,_,h1,h2,h3⟩=>⟨rb,h1,h2,RE.all hn.1 h3⟩
  by_cases hp:1<=parts/\parts<=64
  ·obtain⟨P,rfl⟩: ∃P:Nat,parts=(P:Nat):=⟨parts.toNat,by omega⟩
   have hP:1<=P/\P<=64:=by omega
   refine sall_go (n:Nat) n P w hP LV (hid fun v=>SN _ v) NW RW (hid fun v gb g=>split_ok SC hn hP g) (hid fun v rb g=> ?_) (hid fun i=>len_part n P i hn hP)
   have n2:6*n*n<=6144:=by
    have h1:6*n<=6*32:=Nat.mul_le_mul_left _ hn.2
    exact Nat.le_trans (Nat.mul_le_mul h1 hn.2) (by decide)
   refine(sV n rb (6*n*n) P (lo (6*n*n) P) v hP n2 (fun k=>rfl) (hid fun u a=>kW hn (g.to a)) (hid fun u k a hk=>sU n rb P k u hn hk (g.to a))).mono ?_
   rintro e w' ⟨vv,X,rfl,b,rp⟩
   obtain⟨g,cap,q,d,rfl,ps⟩:=rp.at hn hP.1
   exact⟨g,cap,q,d,rfl,b,ps⟩
  ·refine sall_bad (n:Nat) parts n w LV (hid fun v=>SN _ v) NW RW (hid fun v gb g=>(SC n gb parts v hn g h64).2 hp) (hid fun v rb=> ?_)
   by_cases q:parts<1
   ·exact oL rb parts v q
   ·exact oM rb parts v ⟨q,by omega⟩
 ·exact sall_no side parts w LV (hid fun v=>SN _ v) (hid fun v=>new_no side v hs) (hid fun v=>rnew_no side v hs)
end Spl
end
end Go.Proofs.YtilfdnipahabbaaDoor
