/-
  Some of the texts of this proof, one behind the other.
-/
import Derived.Deep.QuietTactic
import Derived.BigFrame
import Derived.Test.YtjheiemgfibgpaaDoorUf08
set_option maxRecDepth 100000
set_option maxHeartbeats 400000000
namespace Go.Proofs.YtjheiemgfibgpaaDoor
open _root_.Go.Proofs.Tryd
section
open Go.RowKit
namespace Ch
abbrev Ix:=Option Nat × Nat
abbrev Sp:=Nat->Option ((Ix->World->Prop) × (Ix->Value))
def Stable(sp:Sp):Prop:= ∀i R mk,sp i=some (R,mk)-> ∀x w w',R x w->Ab w w'->R x w'
def Fresh(W:World)(S:Nat->Option Ix)(x:Ix):Prop:= ∀b,x.1=some b->W.heap.size<=b/\ ∀i y,S i=some y->y.1≠some b
def putL(S:Nat->Option Ix)(i:Nat)(x:Ix):Nat->Option Ix:=fun k=>if k=i then some x else S k
def Has(W:World)(sp:Sp)(S:Nat->Option Ix)(w:World):Prop:=Ab W w/\ ∀i x,S i=some x->(∀b,x.1=some b->W.heap.size<=b/\b<w.heap.size)/\ ∃R mk,sp i=some (R,mk)/\R x w
theorem dR(S:Nat->Option Ix){i j:Nat}(b c:Ix)(h:i≠j):putL (putL S i b) j c=putL (putL S j c) i b:=by
 funext k
 unfold putL
 by_cases e:k=j
 ·subst e;simp[Ne.symm h]
 ·by_cases e2:k=i
  ·subst e2;simp[e]
  ·simp[e,e2]
theorem Fresh.put{W:World}{S:Nat->Option Ix}{i:Nat}{x y:Ix}(h:Fresh W S y)(n: ∀b,y.1=some b->x.1≠some b):Fresh W (putL S i x) y:=
 fun b hb=>⟨(h b hb).1,fun k z e=>by
  unfold putL at e
  by_cases q:k=i
  ·rw[if_pos q]at e;injection e with e;rw[<- e];exact n b hb
  ·rw[if_neg q]at e;exact(h b hb).2 k z e⟩
theorem Fresh.of_put{W:World}{S:Nat->Option Ix}{i:Nat}{x y:Ix}(h:Fresh W (putL S i x) y)(hi:S i=none):Fresh W S y/\ ∀b,y.1=some b->x.1≠some b:=by
 refine⟨fun b hb=>⟨(h b hb).1,fun k z e=>(h b hb).2 k z ?_⟩,fun b hb=>(h b hb).2 i x (by simp[putL])⟩
 unfold putL
 by_cases q:k=i
 ·subst q;rw[hi]at e;cases e
 ·rw[if_neg q];exact e
theorem Has.lay{W:World}{sp:Sp}(st:Stable sp){S:Nat->Option Ix}{w w1:World}(h:Has W sp S w){i:Nat}{x:Ix}{R:Ix->World->Prop}{mk:Ix->Value}(e:sp i=some (R,mk))(a:Ab w w1)(hb: ∀b,x.1=some b->w.heap.size<=b/\b<w1.heap.size)(ho:R x w1):Has W sp (putL S i x) w1:=
 ⟨h.1.trans a,fun k c q=>by
  unfold putL at q
  by_cases z:k=i
  ·subst z
   rw[if_pos rfl]at q
   injection q with q
   subst q
   exact⟨fun b e2=>⟨Nat.le_trans h.1.size (hb b e2).1,(hb b e2).2⟩,R,mk,e,ho⟩
  ·rw[if_neg z]at q
   obtain⟨h1,R',mk',h2,h3⟩:=h.2 k c q
   exact⟨fun b e2=>⟨(h1 b e2).1,Nat.lt_of_lt_of_le (h1 b e2).2 a.size⟩,R',mk',h2,st k R' mk' h2 c w w1 h3 a⟩⟩
theorem Has.freshb{W:World}{sp:Sp}{S:Nat->Option Ix}{w:World}(h:Has W sp S w){x:Ix}(hb: ∀b,x.1=some b->w.heap.size<=b):Fresh W S x:=
 fun b e=>⟨Nat.le_trans h.1.size (hb b e),fun i y e2 e3=>by
  have h1:=((h.2 i y e2).1 b e3).2
  have h2:=hb b e
  omega⟩
def rst(q:List Nat)(S:Nat->Option Ix):Nat->Option Ix:=fun k=>if k ∈ q then S k else none
theorem sD{q:List Nat}{S:Nat->Option Ix}{i:Nat}{x:Ix}(h:i ∉ q):rst q (putL S i x)=rst q S:=by
 funext k
 unfold rst putL
 by_cases e:k=i
 ·subst e;rw[if_neg h,if_neg h]
 ·rw[if_neg e]
theorem Has.rst{W:World}{sp:Sp}{S:Nat->Option Ix}{w:World}(h:Has W sp S w)(q:List Nat):Has W sp (rst q S) w:=
 ⟨h.1,fun i x e=>h.2 i x (by
  unfold Ch.rst at e
  split at e
  ·exact e
  ·cases e)⟩
def Waits(md:Region.Mode)(ops:Array Oper)(dp:Nat->List Nat):Prop:= ∀j oj,ops[j]? =some oj-> ∀i ∈ dp j,∃e ∈ oj.after,Region.binds md e=true/\e.on=i
def waitsB(md:Region.Mode)(ops:Array Oper)(dp:Nat->List Nat):Bool:=(List.range ops.size).all fun j=>match ops[j]? with
 | none=>true
 | some oj=>(dp j).all fun i=>oj.after.any fun e=>Region.binds md e&&e.on==i
theorem waits_of{md:Region.Mode}{ops:Array Oper}{dp:Nat->List Nat}(h:waitsB md ops dp=true):Waits md ops dp:=by
 intro j oj hj i hi
 unfold waitsB at h
 rw[List.all_eq_true]at h
 have h1:=h j (List.mem_range.2 (Array.getElem?_eq_some_iff.1 hj).1)
 simp only[hj]at h1
 rw[List.all_eq_true]at h1
 have h2:=h1 i hi
 rw[Array.any_eq_true']at h2
 obtain⟨e,h3,h4⟩:=h2
 rw[Bool.and_eq_true]at h4
 exact⟨e,h3,h4.1,by simpa using h4.2⟩
section
variable {P:Program} {ops:Array Oper} {md:Region.Mode} {W:World} {sp:Sp} {dp:Nat->List Nat}
def YF(P:Program)(ops:Array Oper)(W:World)(o:Oper)(v:Value)(a:Act):Prop:=
 (Region.wanted o (yielded ops a.tmps)=true/\ ∀w,Ab W w->(execOp a.eval o).run P w=.ok (.value v) w)\/(Region.wanted o (yielded ops a.tmps)=false/\v=undef)
def LayR(P:Program)(w:World)(ob:Ix->World->Prop)(mk:Ix->Value):Result Next->Prop
 | .ok (.value u) w1=> ∃x,u=mk x/\Ab w w1/\(∀b,x.1=some b->w.heap.size<=b/\b<w1.heap.size)/\ob x w1
 | .ok (.enter f args) w1=>w1=w/\Calls P f args w (fun e w2=> ∃x,e=.returned (mk x)/\Ab w w2/\(∀b,x.1=some b->w.heap.size<=b/\b<w2.heap.size)/\ob x w2)
 | _=>False
def LF(P:Program)(ops:Array Oper)(W:World)(sp:Sp)(q:List Nat)(o:Oper)(ob:Ix->World->Prop)(mk:Ix->Value)(a:Act)(S:Nat->Option Ix):Prop:=
 Region.wanted o (yielded ops a.tmps)=true/\ ∀w,Has W sp (rst q S) w->LayR P w ob mk ((execOp a.eval o).run P w)
theorem YF.same{o:Oper}{v:Value}{a a':Act}(h:YF P ops W o v a)(he:execOp a'.eval o=execOp a.eval o)(hw:Region.wanted o (yielded ops a'.tmps)=Region.wanted o (yielded ops a.tmps)):YF P ops W o v a':=by
 unfold YF at*
 rw[he,hw]
 exact h
theorem LF.same{q:List Nat}{S:Nat->Option Ix}{o:Oper}{ob:Ix->World->Prop}{mk:Ix->Value}{a a':Act}(h:LF P ops W sp q o ob mk a S)(he:execOp a'.eval o=execOp a.eval o)(hw:Region.wanted o (yielded ops a'.tmps)=Region.wanted o (yielded ops a.tmps)):LF P ops W sp q o ob mk a' S:=by
 unfold LF at*
 rw[he,hw]
 exact h
theorem LF.more{q:List Nat}{S:Nat->Option Ix}{o:Oper}{ob:Ix->World->Prop}{mk:Ix->Value}{a:Act}(h:LF P ops W sp q o ob mk a S){i:Nat}{x:Ix}(hi:i ∉ q):LF P ops W sp q o ob mk a (putL S i x):=by
 unfold LF at*
 rw[sD hi]
 exact h
theorem LF.less{q:List Nat}{S:Nat->Option Ix}{o:Oper}{ob:Ix->World->Prop}{mk:Ix->Value}{a:Act}{i:Nat}{x:Ix}(h:LF P ops W sp q o ob mk a (putL S i x))(hi:i ∉ q):LF P ops W sp q o ob mk a S:=by
 unfold LF at*
 rw[sD hi]at h
 exact h
theorem YF.one{o:Oper}{v u:Value}{a:Act}(h:YF P ops W o v a)(k:YF P ops W o u a):v=u:=by
 rcases h with⟨w1,h⟩ | ⟨w1,rfl⟩
 ·rcases k with⟨_,k⟩ | ⟨w2,_⟩
  ·have:=(h W (Ab.refl W)).symm.trans (k W (Ab.refl W))
   injection this with e
   injection e
  ·rw[w1]at w2;cases w2
 ·rcases k with⟨w2,_⟩ | ⟨_,rfl⟩
  ·rw[w1]at w2;cases w2
  ·rfl
def fOp(P:Program)(ops:Array Oper)(W:World)(sp:Sp)(dp:Nat->List Nat)(i:Nat)(K:Act->(Nat->Option Ix)->Prop)(a:Act)(S:Nat->Option Ix):Prop:=
 match ops[i]? with
 | none=>K a S
 | some o=>
  match sp i with
  | none=> ∃v,YF P ops W o v a/\K (a.put o.dst v) S
  | some (ob,mk)=>LF P ops W sp (dp i) o ob mk a S/\ ∀b,Fresh W S b->K (a.put o.dst (mk b)) (putL S i b)
theorem bZ{i:Nat}{K K':Act->(Nat->Option Ix)->Prop}{a:Act}{S:Nat->Option Ix}(h: ∀a S,K a S->K' a S)(hh:fOp P ops W sp dp i K a S):fOp P ops W sp dp i K' a S:=by
 unfold fOp at*
 cases ho:ops[i]? with
 | none=>simp only[ho]at hh ⊢;exact h _ _ hh
 | some o=>
  cases hs:sp i with
  | none=>
   simp only[ho,hs]at hh ⊢
   obtain⟨v,h1,h2⟩:=hh
   exact⟨v,h1,h _ _ h2⟩
  | some x=>
   simp only[ho,hs]at hh ⊢
   exact⟨hh.1,fun b hb=>h _ _ (hh.2 b hb)⟩
def wpAnyF(P:Program)(md:Region.Mode)(ops:Array Oper)(W:World)(sp:Sp)(dp:Nat->List Nat)(Q:Act->(Nat->Option Ix)->Prop):Nat->Array Bool->Act->(Nat->Option Ix)->Prop
 | 0,listed,a,S=>Region.ready md ops listed=[]/\Q a S
 | fuel+1,listed,a,S=>
  (Region.ready md ops listed=[]->Q a S)/\
  ∀i ∈ Region.ready md ops listed,fOp P ops W sp dp i (wpAnyF P md ops W sp dp Q fuel (listed.setIfInBounds i true)) a S
def Tidy(listed:Array Bool)(S:Nat->Option Ix):Prop:= ∀k,listed.getD k true=false->S k=none
theorem kU(W:World)(S:Nat->Option Ix): ∃x,Fresh W S x:=⟨(none,0),fun b e=>by cases e⟩
theorem Tidy.set{listed:Array Bool}{S:Nat->Option Ix}(h:Tidy listed S)(j:Nat):Tidy (listed.setIfInBounds j true) S:=
 fun k hk=>by
  by_cases e:j=k
  ·subst e
   by_cases l:j<listed.size
   ·simp[l]at hk
   ·exact h j (by rw[Array.setIfInBounds_eq_of_size_le (by omega)]at hk;exact hk)
  ·rw[getD_set_ne true e]at hk;exact h k hk
theorem Tidy.lay{listed:Array Bool}{S:Nat->Option Ix}(h:Tidy listed S){j:Nat}(hj:listed.getD j true=false)(b:Ix):Tidy (listed.setIfInBounds j true) (putL S j b):=by
 refine fun k hk=> ?_
 by_cases e:j=k
 ·subst e
  by_cases l:j<listed.size
  ·simp[l]at hk
  ·simp[l]at hj
 ·rw[getD_set_ne true e]at hk
  unfold putL
  rw[if_neg (Ne.symm e)]
  exact h k hk
theorem eM{j:Nat}{oi oj:Oper}{v:Value}(hj:ops[j]? =some oj)(hap:oi.apart ops oj=true)(hsi: ∀cs b,oi.op≠ .select cs b)(hsj: ∀cs b,oj.op≠ .select cs b)
  {K:Act->(Nat->Option Ix)->Prop} {a:Act} {S:Nat->Option Ix} (hy:YF P ops W oi v a) (h:fOp P ops W sp dp j K (a.put oi.dst v) S):
  fOp P ops W sp dp j (fun a' S'=>YF P ops W oi v a'/\K (a'.put oi.dst v) S') a S:=by
 obtain⟨h1,h2,h3⟩:=Oper.apart_spec hap
 have keep: ∀u,YF P ops W oi v (a.put oj.dst u):=fun u=>hy.same (execOp_put oi hsi a oj.dst u h3) (wanted_put oi a oj.dst u h3)
 unfold fOp at*
 cases hs:sp j with
 | none=>
  simp only[hj,hs]at h ⊢
  obtain⟨u,hu,hk⟩:=h
  exact⟨u,hu.same (execOp_put oj hsj a oi.dst v h1).symm (wanted_put oj a oi.dst v h1).symm,keep u,by rw[<- Act.put_comm a v u h2];exact hk⟩
 | some x=>
  simp only[hj,hs]at h ⊢
  exact⟨h.1.same (execOp_put oj hsj a oi.dst v h1).symm (wanted_put oj a oi.dst v h1).symm,fun b hb=>⟨keep _,by rw[<- Act.put_comm a v _ h2];exact h.2 b hb⟩⟩
theorem eP{i j:Nat}{oi oj:Oper}{ob:Ix->World->Prop}{mk:Ix->Value}(hij:i≠j)(hd1:i ∉ dp j)(hd2:j ∉ dp i)(hj:ops[j]? =some oj)(hap:oi.apart ops oj=true)(hsi: ∀cs b,oi.op≠ .select cs b)(hsj: ∀cs b,oj.op≠ .select cs b)
  {K:Act->(Nat->Option Ix)->Prop} {a:Act} {S:Nat->Option Ix} (hSj:S j=none) (hy:LF P ops W sp (dp i) oi ob mk a S) (h: ∀b,Fresh W S b->fOp P ops W sp dp j K (a.put oi.dst (mk b)) (putL S i b)):
  fOp P ops W sp dp j (fun a' S'=>LF P ops W sp (dp i) oi ob mk a' S'/\ ∀b,Fresh W S' b->K (a'.put oi.dst (mk b)) (putL S' i b)) a S:=by
 obtain⟨h1,h2,h3⟩:=Oper.apart_spec hap
 have keep: ∀u,LF P ops W sp (dp i) oi ob mk (a.put oj.dst u) S:=fun u=>hy.same (execOp_put oi hsi a oj.dst u h3) (wanted_put oi a oj.dst u h3)
 obtain⟨b0,hb0⟩:=kU W S
 unfold fOp at*
 cases hs:sp j with
 | none=>
  simp only[hj,hs]at h ⊢
  obtain⟨u,hu,_⟩:=h b0 hb0
  have hu':YF P ops W oj u a:=hu.same (execOp_put oj hsj a oi.dst _ h1).symm (wanted_put oj a oi.dst _ h1).symm
  refine⟨u,hu',keep u,fun b hb=> ?_⟩
  obtain⟨u2,hu2,hk⟩:=h b hb
  have e:u2=u:=YF.one (hu2.same (execOp_put oj hsj a oi.dst _ h1).symm (wanted_put oj a oi.dst _ h1).symm) hu'
  subst e
  rw[<- Act.put_comm a (mk b) u2 h2]
  exact hk
 | some x=>
  simp only[hj,hs]at h ⊢
  refine⟨((h b0 hb0).1.same (execOp_put oj hsj a oi.dst _ h1).symm (wanted_put oj a oi.dst _ h1).symm).less hd1,fun c hc=>⟨(keep _).more hd2,fun b hb=> ?_⟩⟩
  obtain⟨q1,q2⟩:=hb.of_put hSj
  have:=(h b q1).2 c (hc.put (fun d e e2=>q2 d e2 e))
  rw[dR S b c hij,Act.put_comm a (mk b) _ h2]at this
  exact this
theorem firstY{Q:Act->(Nat->Option Ix)->Prop}{i:Nat}{oi:Oper}{v:Value}(hi:ops[i]? =some oi)(hsp:sp i=none)(hsel: ∀(j:Nat) (o:Oper) cs b,ops[j]? =some o->o.op≠ .select cs b):
  ∀(fuel:Nat) (listed:Array Bool) (a:Act) (S:Nat->Option Ix),
   (∀j oj,ops[j]? =some oj->j≠i->listed.getD j true=false->(∀e ∈ oj.after,Region.binds md e=true->e.on≠i)->oi.apart ops oj=true)->
   i ∈ Region.ready md ops listed->YF P ops W oi v a->
   wpAnyF P md ops W sp dp Q fuel (listed.setIfInBounds i true) (a.put oi.dst v) S->wpAnyF P md ops W sp dp Q (fuel+1) listed a S:=by
 have go: ∀(K:Act->(Nat->Option Ix)->Prop) (a:Act) (S:Nat->Option Ix),YF P ops W oi v a->K (a.put oi.dst v) S->fOp P ops W sp dp i K a S:=fun K a S hy h=>by
  unfold fOp;simp only[hi,hsp];exact⟨v,hy,h⟩
 intro fuel
 induction fuel with
 | zero=>
  intro listed a S _ hr hy H
  refine⟨fun h=>(by rw[h]at hr;cases hr),fun j hj=> ?_⟩
  by_cases hji:j=i
  ·subst hji;exact go _ _ _ hy H
  ·have:=ready_mono hj hji
   rw[H.1]at this
   cases this
 | succ fuel ih=>
  intro listed a S hfree hr hy H
  refine⟨fun h=>(by rw[h]at hr;cases hr),fun j hj=> ?_⟩
  by_cases hji:j=i
  ·subst hji;exact go _ _ _ hy H
  ·have h1:=H.2 j (ready_mono hj hji)
   obtain⟨hjun,oj,hoj,hall⟩:=mem_ready.1 hj
   have hnot: ∀e ∈ oj.after,Region.binds md e=true->e.on≠i:=fun e he hb heq=>by
    have h1:=hall e he hb
    have h0:=(mem_ready.1 hr).1
    rw[heq]at h1
    rcases Nat.lt_or_ge i listed.size with h' | h'
    ·simp[h']at h0 h1;rw[h0]at h1;cases h1
    ·simp[Array.getElem?_eq_none h']at h1
   have h2:=eM hoj (hfree j oj hoj hji hjun hnot) (fun cs b=>hsel i oi cs b hi) (fun cs b=>hsel j oj cs b hoj) hy h1
   have hfree': ∀k ok,ops[k]? =some ok->k≠i->(listed.setIfInBounds j true).getD k true=false->
     (∀e ∈ ok.after,Region.binds md e=true->e.on≠i)->oi.apart ops ok=true:=fun k ok hk hki hun hno=>by
    refine hfree k ok hk hki ?_ hno
    by_cases hjk:j=k
    ·subst hjk;exact hjun
    ·rw[getD_set_ne true hjk]at hun;exact hun
   refine bZ (fun a' S' h3=>ih (listed.setIfInBounds j true) a' S' hfree' (ready_mono hr (Ne.symm hji)) h3.1 ?_) h2
   rw[Array.setIfInBounds_comm _ _ hji]
   exact h3.2
theorem firstL(hD:Waits md ops dp){Q:Act->(Nat->Option Ix)->Prop}{i:Nat}{oi:Oper}{ob:Ix->World->Prop}{mk:Ix->Value}(hi:ops[i]? =some oi)(hsp:sp i=some (ob,mk))(hsel: ∀(j:Nat) (o:Oper) cs b,ops[j]? =some o->o.op≠ .select cs b):
  ∀(fuel:Nat) (listed:Array Bool) (a:Act) (S:Nat->Option Ix),Tidy listed S->
   (∀j oj,ops[j]? =some oj->j≠i->listed.getD j true=false->(∀e ∈ oj.after,Region.binds md e=true->e.on≠i)->oi.apart ops oj=true)->
   i ∈ Region.ready md ops listed->LF P ops W sp (dp i) oi ob mk a S->
   (∀b,Fresh W S b->wpAnyF P md ops W sp dp Q fuel (listed.setIfInBounds i true) (a.put oi.dst (mk b)) (putL S i b))->wpAnyF P md ops W sp dp Q (fuel+1) listed a S:=by
 have go: ∀(K:Act->(Nat->Option Ix)->Prop) (a:Act) (S:Nat->Option Ix),LF P ops W sp (dp i) oi ob mk a S->(∀b,Fresh W S b->K (a.put oi.dst (mk b)) (putL S i b))->fOp P ops W sp dp i K a S:=fun K a S hy h=>by
  unfold fOp;simp only[hi,hsp];exact⟨hy,h⟩
 intro fuel
 induction fuel with
 | zero=>
  intro listed a S ty _ hr hy H
  refine⟨fun h=>(by rw[h]at hr;cases hr),fun j hj=> ?_⟩
  by_cases hji:j=i
  ·subst hji;exact go _ _ _ hy H
  ·obtain⟨b,hb⟩:=kU W S
   have:=ready_mono hj hji
   rw[(H b hb).1]at this
   cases this
 | succ fuel ih=>
  intro listed a S ty hfree hr hy H
  refine⟨fun h=>(by rw[h]at hr;cases hr),fun j hj=> ?_⟩
  by_cases hji:j=i
  ·subst hji;exact go _ _ _ hy H
  ·have h1:=fun b hb=>(H b hb).2 j (ready_mono hj hji)
   obtain⟨hjun,oj,hoj,hall⟩:=mem_ready.1 hj
   have hnot: ∀e ∈ oj.after,Region.binds md e=true->e.on≠i:=fun e he hb heq=>by
    have h1:=hall e he hb
    have h0:=(mem_ready.1 hr).1
    rw[heq]at h1
    rcases Nat.lt_or_ge i listed.size with h' | h'
    ·simp[h']at h0 h1;rw[h0]at h1;cases h1
    ·simp[Array.getElem?_eq_none h']at h1
   have hap:=hfree j oj hoj hji hjun hnot
   have hfree': ∀k ok,ops[k]? =some ok->k≠i->(listed.setIfInBounds j true).getD k true=false->
     (∀e ∈ ok.after,Region.binds md e=true->e.on≠i)->oi.apart ops ok=true:=fun k ok hk hki hun hno=>by
    refine hfree k ok hk hki ?_ hno
    by_cases hjk:j=k
    ·subst hjk;exact hjun
    ·rw[getD_set_ne true hjk]at hun;exact hun
   have hd1:i ∉ dp j:=fun q=>by
    obtain⟨e,h5,h6,h7⟩:=hD j oj hoj i q
    exact hnot e h5 h6 h7
   have hd2:j ∉ dp i:=fun q=>by
    obtain⟨e,h5,h6,h7⟩:=hD i oi hi j q
    obtain⟨_,o2,ho2,hall2⟩:=mem_ready.1 hr
    rw[hi]at ho2
    injection ho2 with ho2
    subst ho2
    have h8:=hall2 e h5 h6
    rw[h7]at h8
    rcases Nat.lt_or_ge j listed.size with h' | h'
    ·simp[h']at hjun h8;rw[hjun]at h8;cases h8
    ·simp[Array.getElem?_eq_none h']at h8
   have h2:=eP (Ne.symm hji) hd1 hd2 hoj hap (fun cs b=>hsel i oi cs b hi) (fun cs b=>hsel j oj cs b hoj) (ty j hjun) hy h1
   -- what j leaves is tidy
   have h4:fOp P ops W sp dp j (fun a' S'=>Tidy (listed.setIfInBounds j true) S'/\LF P ops W sp (dp i) oi ob mk a' S'/\ ∀b,Fresh W S' b->wpAnyF P md ops W sp dp Q fuel ((listed.setIfInBounds i true).setIfInBounds j true) (a'.put oi.dst (mk b)) (putL S' i b)) a S:=by
    unfold fOp at h2 ⊢
    cases hs:sp j with
    | none=>
     simp only[hoj,hs]at h2 ⊢
     obtain⟨u,hu,hk⟩:=h2
     exact⟨u,hu,ty.set j,hk⟩
    | some x=>
     simp only[hoj,hs]at h2 ⊢
     exact⟨h2.1,fun b hb=>⟨ty.lay hjun b,h2.2 b hb⟩⟩
   refine bZ (fun a' S' h3=>ih (listed.setIfInBounds j true) a' S' h3.1 hfree' (ready_mono hr (Ne.symm hji)) h3.2.1 (fun b hb=> ?_)) h4
   rw[Array.setIfInBounds_comm _ _ hji]
   exact h3.2.2 b hb
def wpFree(P:Program)(ops:Array Oper)(W:World)(sp:Sp)(dp:Nat->List Nat)(Q:Act->(Nat->Option Ix)->Prop):List Oper->Nat->Act->(Nat->Option Ix)->Prop
 | [],_,a,S=>Q a S
 | o :: rest,k,a,S=>
  match sp k with
  | none=> ∃v,YF P ops W o v a/\wpFree P ops W sp dp Q rest (k+1) (a.put o.dst v) S
  | some (ob,mk)=>LF P ops W sp (dp k) o ob mk a S/\ ∀b,Fresh W S b->wpFree P ops W sp dp Q rest (k+1) (a.put o.dst (mk b)) (putL S k b)
theorem aZ(hD:Waits md ops dp){Q:Act->(Nat->Option Ix)->Prop}(hs:Region.noSelect ops=true): ∀(l:List Oper) (k:Nat) (listed:Array Bool) (a:Act) (S:Nat->Option Ix),(∀j,l[j]? =ops[k+j]?)->Tidy listed S->
  Region.lexFrom md ops l.length k listed=true->wpFree P ops W sp dp Q l k a S->wpAnyF P md ops W sp dp Q l.length listed a S
 | [],_,_,_,_,_,_,hB,h=>⟨by simpa [Region.lexFrom]using hB,h⟩
 | o :: l,k,listed,a,S,hl,ty,hB,h=>by
  have h0:ops[k]? =some o:=by simpa using(hl 0).symm
  simp only[List.length_cons,Region.lexFrom,Bool.and_eq_true]at hB
  obtain⟨⟨hr,hf⟩,hB'⟩:=hB
  have hr':k ∈ Region.ready md ops listed:=by simpa using hr
  have hl': ∀j,l[j]? =ops[k+1+j]? :=fun j=>by have:=hl (j+1);simpa [Nat.add_assoc,Nat.add_comm 1 j]using this
  cases hsp:sp k with
  | none=>
   simp only[wpFree,hsp]at h
   obtain⟨v,hy,hK⟩:=h
   exact firstY h0 hsp (Region.noSelect_spec hs) l.length listed a S (Region.free_spec h0 hf) hr' hy
    (aZ hD hs l (k+1) _ _ _ hl' (ty.set k) hB' hK)
  | some x=>
   obtain⟨ob,mk⟩:=x
   simp only[wpFree,hsp]at h
   exact firstL hD h0 hsp (Region.noSelect_spec hs) l.length listed a S ty (Region.free_spec h0 hf) hr' h.1
    (fun b hb=>aZ hD hs l (k+1) _ _ _ hl' (ty.lay (mem_ready.1 hr').1 b) hB' (h.2 b hb))
theorem cA(stb:Stable sp){i:Nat}{a:Act}{S:Nat->Option Ix}{K:Act->(Nat->Option Ix)->Prop}{K':Act->World->Prop}{Q':Exit->Act->World->Prop}{w:World}(hC:Has W sp S w)(h: ∀a S w',Has W sp S w'->K a S->K' a w')(hh:fOp P ops W sp dp i K a S):wpOp P ops Q' i K' a w:=by
 unfold fOp at hh
 unfold wpOp
 cases ho:ops[i]? with
 | none=>simp only[ho]at hh ⊢;exact h _ _ _ hC hh
 | some o=>
  cases hs:sp i with
  | none=>
   simp only[ho,hs]at hh ⊢
   obtain⟨v,hy,hk⟩:=hh
   rcases hy with⟨w1,hv⟩ | ⟨w1,rfl⟩
   ·rw[if_pos w1]
    refine .inl ?_
    unfold Oper.wp
    rw[hv w hC.1]
    exact h _ _ _ hC hk
   ·rw[if_neg (by rw[w1];exact Bool.false_ne_true)]
    exact h _ _ _ hC hk
  | some x=>
   obtain⟨ob,mk⟩:=x
   simp only[ho,hs]at hh ⊢
   obtain⟨⟨w1,hv⟩,hk⟩:=hh
   rw[if_pos w1]
   refine .inl ?_
   unfold Oper.wp
   have q:=hv w (hC.rst _)
   generalize(execOp a.eval o).run P w=r at q
   match r,q with
   | .ok (.value u) w2,⟨b,hu,ha,hb,ho2⟩=>
    subst hu
    exact h _ _ _ (hC.lay stb hs ha hb ho2) (hk b (hC.freshb (fun d e=>(hb d e).1)))
   | .ok (.enter f args) w2,⟨e,hc⟩=>
    subst e
    refine Calls.mono hc ?_
    rintro e2 w3 ⟨b,rfl,ha,hb,ho2⟩
    exact h _ _ _ (hC.lay stb hs ha hb ho2) (hk b (hC.freshb (fun d e=>(hb d e).1)))
end
theorem eR{P:Program}{md:Region.Mode}{ops hd:Array Oper}{W:World}{sp:Sp}{dp:Nat->List Nat}{n:Nat}(hhd: ∀i,i<n->hd[i]? =ops[i]?)(hb:backB md ops n=true){i:Nat}(hi:i<n){K:Act->(Nat->Option Ix)->Prop}{a:Act}{S:Nat->Option Ix}(h:fOp P hd W sp dp i K a S):fOp P ops W sp dp i K a S:=by
 unfold fOp at*
 rw[hhd i hi]at h
 cases ho:ops[i]? with
 | none=>rw[ho]at h;exact h
 | some o=>
  have e:Region.wanted o (yielded hd a.tmps)=Region.wanted o (yielded ops a.tmps):=by
   unfold Region.wanted
   cases hg:o.guard with
   | none=>rfl
   | some jb=>
    obtain⟨j,b⟩:=jb
    have lt:=(cV hb hi ho).2 j b hg
    show(yielded hd a.tmps j==some b)=(yielded ops a.tmps j==some b)
    unfold yielded
    rw[hhd j lt]
  simp only[ho]at h ⊢
  cases hs:sp i with
  | none=>
   simp only[hs]at h ⊢
   unfold YF at*
   rw[e]at h
   exact h
  | some x=>
   simp only[hs]at h ⊢
   unfold LF at*
   rw[e]at h
   exact h
theorem bK{P:Program}{md:Region.Mode}{ops hd:Array Oper}{W:World}{sp:Sp}{dp:Nat->List Nat}(stb:Stable sp){n:Nat}{g:Nat}{Q1:Act->(Nat->Option Ix)->Prop}{Q':Exit->Act->World->Prop}(hhd: ∀i,i<n->hd[i]? =ops[i]?)(hsz:hd.size=n)(hn:n<ops.size)(hb:backB md ops n=true)(hs:Region.sinkB md ops n=true)(hc:Region.chainB md ops n=true)
  (hL: ∀a S w,Has W sp S w->Q1 a S->wpAny P md ops Q' g (finA ops.size n) a w):
  ∀(fuel:Nat) (listed lh:Array Bool) (a:Act) (S:Nat->Option Ix) (w:World),Has W sp S w->HeadInv md ops n listed->lh.size=n->(∀i,i<n->lh.getD i true=listed.getD i true)->
   wpAnyF P md hd W sp dp Q1 fuel lh a S->wpAny P md ops Q' (fuel+g) listed a w:=by
 intro fuel
 induction fuel with
 | zero=>
  intro listed lh a S w hC inv hl he h
  have hls:n<=listed.size:=by rw[inv.size];omega
  rcases bJ (by omega) hb hls with all | ⟨i,hi,hr⟩
  ·rw[Nat.zero_add,eL hn inv all]
   exact hL a S w hC h.2
  ·have:=(bI hhd hb hl hls he hi).2 hr
   rw[h.1]at this
   cases this
 | succ fuel ih=>
  intro listed lh a S w hC inv hl he h
  have hls:n<=listed.size:=by rw[inv.size];omega
  rcases bJ (by omega) hb hls with all | ⟨i0,hi0,hr0⟩
  ·have no:Region.ready md hd lh=[]:=by
    rw[List.eq_nil_iff_forall_not_mem]
    intro i hi
    obtain⟨u,o,ho,_⟩:=mem_ready.1 hi
    have lt:i<n:=by rw[<- hsz];exact(Array.getElem?_eq_some_iff.1 ho).1
    rw[he i lt,all i lt]at u
    cases u
   rw[Nat.add_comm (fuel+1) g,eL hn inv all]
   exact cZ g (fuel+1) _ a w (hL a S w hC (h.1 no))
  ·rw[show fuel+1+g=(fuel+g)+1 by omega]
   refine⟨fun h0=>(by rw[h0]at hr0;cases hr0),fun i hi=> ?_⟩
   have lt:i<n:=by
    by_cases c:i<n
    ·exact c
    ·exact absurd hi (tail_waits hs hc hn inv _ i0 rfl hi0 (mem_ready.1 hr0).1 i (by omega))
   have hq:=eR hhd hb lt (h.2 i ((bI hhd hb hl hls he lt).2 hi))
   refine cA stb hC (fun a' S' w' hC' h'=>ih _ _ a' S' w' hC' (inv.set hi lt) (by simp[hl]) (fun j hj=> ?_) h') hq
   by_cases e:i=j
   ·subst e
    simp[hl,lt,show i<listed.size by omega]
   ·rw[getD_set_ne true e,getD_set_ne true e,he j hj]
theorem cB{P:Program}{id:Nat}{Q:Exit->Act->World->Prop}{a:Act}{w:World}{l:List Oper}(n:Nat)(sp:Sp)(dp:Nat->List Nat)(stb:Stable sp)(hm:P.follows .mixedOrders=true)(hB:Region.lexB .any (l.take n).toArray=true)(hT:tailB l.toArray n=true)(hW:waitsB .any (l.take n).toArray dp=true)
  (h:wpFree P (l.take n).toArray w.drew sp dp (fun a' S=> ∀w',Has w.drew sp S w'->wpList P l.toArray Q (l.drop n) a' w') (l.take n) 0 a (fun _=>none)):(Code.region id l.toArray true).wp P Q a w:=by
 simp only[tailB,Bool.and_eq_true,decide_eq_true_eq]at hT
 obtain⟨⟨⟨⟨hn,hb⟩,hs⟩,hc⟩,hq⟩:=hT
 have hn':n<l.length:=by simpa using hn
 have htl:(l.take n).toArray.size=n:=by simp;omega
 have hdl:(l.drop n).length=l.toArray.size - n:=by simp
 refine wp_region_any hm ?_
 simp only[Region.lexB,Bool.and_eq_true]at hB
 have H:=aZ (waits_of hW) (P:=P) (W:=w.drew) (sp:=sp) (md:=.any) hB.1 (l.take n) 0 (Array.replicate (l.take n).toArray.size false) a (fun _=>none) (by simp) (fun _ _=>rfl) (by simpa using hB.2) h
 have inv0:HeadInv .any l.toArray n (Array.replicate l.toArray.size false):=
  ⟨by simp,fun j oj _ hl=>(by rw[getD_replicate_false]at hl;cases hl),fun t _ ht=>getD_in (by simpa using ht) (getD_replicate_false _ _)⟩
 have:=bK (dp:=dp) stb (P:=P) (Q':=Q) (g:=l.toArray.size - n) (hd:=(l.take n).toArray) (ops:=l.toArray) (fun i hi=>by simp[hi]) htl hn hb hs hc
  (fun a' S' w' hC' h'=>by
   have:=wpAny_of_seq (P:=P) (md:=.any) (ops:=l.toArray) (Q':=Q) (l.drop n) n (finA l.toArray.size n) a' w' (fun j=>by simp) (by rw[hdl];exact hq) (h' w' hC')
   rwa [hdl]at this)
  (l.take n).length _ _ a (fun _=>none) w.drew ⟨Ab.refl _,fun i b e=>by cases e⟩ inv0 (by simpa using htl) (fun i hi=>by
   rw[getD_in (listed:=Array.replicate l.toArray.size false) (by simp;omega) (getD_replicate_false _ _)]
   exact getD_in (by rw[Array.size_replicate];omega) (getD_replicate_false _ _)) H
 have e:(l.take n).length+(l.toArray.size - n)=l.toArray.size:=by simp;omega
 rw[e]at this
 exact this
section
variable {P:Program} {ops:Array Oper} {W:World} {sp:Sp} {dp:Nat->List Nat} {Q:Act->(Nat->Option Ix)->Prop} {o:Oper} {rest:List Oper} {k:Nat} {a:Act} {S:Nat->Option Ix}
theorem aD{U:Type}{F:U->World}(HF:Hid (∀w',Ab W w'-> ∃u,w'=F u))(hs:sp k=none)(hp:plainB o.op=true)(h:wpQuiet P ops (fun w'=> ∃u,w'=F u) (fun a'=>wpFree P ops W sp dp Q rest (k+1) a' S) [o] a):wpFree P ops W sp dp Q (o :: rest) k a S:=by
 simp only[wpFree,hs]
 simp only[wpQuiet]at h
 by_cases c:Region.wanted o (yielded ops a.tmps)=true
 ·rw[if_pos c]at h
  obtain⟨v,h1,h2⟩:=h
  refine⟨v,.inl ⟨c,fun w hw=> ?_⟩,h2⟩
  have q:=h1 w (HF.out w hw)
  unfold Oper.quietAt at q
  cases e:(execOp a.eval o).run P w with
  | ok n w'=>
   obtain⟨x,rfl⟩:=eT hp e
   rw[e]at q
   obtain⟨q1,q2⟩:=q
   rw[q1,q2]
  | halt x w'=>rw[e]at q;exact absurd q (by simp[Oper.quietUpon])
 ·rw[if_neg c]at h
  exact⟨undef,.inr ⟨by simpa using c,rfl⟩,h⟩
theorem aQ{ob:Ix->World->Prop}{mk:Ix->Value}(hs:sp k=some (ob,mk))(hw:Region.wanted o (yielded ops a.tmps)=true)(hr: ∀w,Has W sp (rst (dp k) S) w->LayR P w ob mk ((execOp a.eval o).run P w))
  (h: ∀b,Fresh W S b->wpFree P ops W sp dp Q rest (k+1) (a.put o.dst (mk b)) (putL S k b)):wpFree P ops W sp dp Q (o :: rest) k a S:=by
 simp only[wpFree,hs]
 exact⟨⟨hw,hr⟩,h⟩
theorem eC{ob:Ix->World->Prop}{mk:Ix->Value}{O:Obj}{c:Nat}(h: ∀w,Ab W w->(execOp a.eval o).run P w=.ok (.value (mk (some w.heap.size,c))) (w.alloc O))(hR: ∀w,Ab W w->ob (some w.heap.size,c) (w.alloc O)): ∀w,Has W sp S w->LayR P w ob mk ((execOp a.eval o).run P w):=fun w hw0=>by
 have hw:=hw0.1
 rw[h w hw]
 refine⟨(some w.heap.size,c),rfl,bl1 _ _,fun b e=> ?_,hR w hw⟩
 injection e with e
 subst e
 refine⟨Nat.le_refl _,?_⟩
 show _<(w.heap.push O).size
 simp
theorem gH{ob:Ix->World->Prop}{mk:Ix->Value}{f:FuncId}{args:Array Value}(h1: ∀w,(execOp a.eval o).run P w=.ok (.enter f args) w)(h2: ∀w,Has W sp S w->Calls P f args w (fun e w2=> ∃x,e=.returned (mk x)/\Ab w w2/\(∀b,x.1=some b->w.heap.size<=b/\b<w2.heap.size)/\ob x w2)): ∀w,Has W sp S w->LayR P w ob mk ((execOp a.eval o).run P w):=fun w hw0=>by
 have hw:=hw0.1
 rw[h1 w]
 exact⟨rfl,h2 w hw0⟩
theorem run_val{s:Sem Value}{w w':World}{x:Value}(h:s.run P w=.ok x w'):(do pure (Next.value (<- s)):Sem Next).run P w=.ok (.value x) w':=by
 rw[Sem.run_bind,h]
 rfl
theorem run_alloc{t:TypeId}{u:Value}{w w':World}(ho:o.op=.alloc t)(M:(Instr.alloc t true (.tuple #[])).run P w=.ok u w'):(execOp a.eval o).run P w=.ok (.value u) w':=by
 unfold execOp
 rw[ho]
 exact run_val M
theorem dA(h:Q a S):wpFree P ops W sp dp Q [] k a S:=h
end
theorem Has.at{W:World}{sp:Sp}{S:Nat->Option Ix}{w:World}(h:Has W sp S w){i:Nat}{x:Ix}{R:Ix->World->Prop}{mk:Ix->Value}(e:S i=some x)(s:sp i=some (R,mk)):R x w/\ ∀b,x.1=some b->W.heap.size<=b/\b<w.heap.size:=by
 obtain⟨h1,o,m,h2,h3⟩:=h.2 i x e
 rw[s]at h2
 injection h2 with h2
 injection h2 with h2
 subst h2
 exact⟨h3,h1⟩
end Ch
end
section
open Go.RowKit Tf Cu Go.Deep
attribute [local go_sem] aE
namespace Spl
theorem qO(p q:Option Addr)(n m c d:Nat)(w:World):(Instr.buildSlice 83 2 #[(0,.slice p n c),(1,.slice q m d)]).run prog w=.ok (.slice (some ⟨w.heap.size,0,none⟩) 2 2) (w.alloc (.cells #[.slice p n c,.slice q m d] 32)):=by
 simp[go_sem,Instr.buildSlice,run_underlying underlying83]
theorem bs_one(p:Option Addr)(n c:Nat)(w:World):(Instr.buildSlice 83 1 #[(0,.slice p n c)]).run prog w=.ok (.slice (some ⟨w.heap.size,0,none⟩) 1 1) (w.alloc (.cells #[.slice p n c] 32)):=by
 simp[go_sem,Instr.buildSlice,run_underlying underlying83]
theorem jU{P:Program}{a:Act}{o:Oper}{t:TypeId}{n:Nat}{ps:Array (Nat × Operand)}{vs:Array (Nat × Value)}{u:Value}{w w':World}(ho:o.op=.buildSlice t n ps)(hv:(ps.map fun(i,x)=>(i,a.eval x))=vs)(M:(Instr.buildSlice t n vs).run P w=.ok u w'):(execOp a.eval o).run P w=.ok (.value u) w':=by
 unfold execOp
 rw[ho]
 simp only[hv]
 exact Ch.run_val M
theorem fE{P:Program}{a:Act}{o:Oper}{x y:Operand}{f:FuncId}{fn:Func}{ats:Array TypeId}{v u:Value}(ho:o.op=.call {callee:=.value (.func f),args:= #[x,y],argTypes:=ats})(hx:a.eval x=v)(hy:a.eval y=u)(hf:P.funcs[f]? =some fn)(hn:(fn.name== "runtime.NumGoroutine")=false)(hb:fn.body.isNone=false)(w:World):(execOp a.eval o).run P w=.ok (.enter f #[v,u]) w:=by
 have h1:fn.name≠ "runtime.NumGoroutine" :=by simpa using hn
 have ef:a.eval (.func f)=.func (.func f) #[] #[]:=rfl
 have e:execOp a.eval o=callFunc f #[v,u]:=by
  unfold execOp
  simp[ho,resolve,Deferred.ofValue,invoke,ef,hx,hy]
 obtain⟨c,hc⟩: ∃c,fn.body=some c:=by
  cases h:fn.body with
  | none=>simp[h]at hb
  | some c=>exact⟨c,rfl⟩
 rw[e]
 simp[callFunc,hf,h1,hc]
theorem oP{B g n:Nat}{t:TypeId}{F:Nat->Value}{w:World}(h:w.rowIs g t n F)(hB:B<=g)(hc:n<=maxLen):w.ownsRow B t 1 (.slice (some ⟨g,0,none⟩) n n) n ((List.range n).map F):=by
 obtain⟨c,hb,hs,hf⟩:=h
 refine⟨by simp,.inr ⟨g,n,c,rfl,hB,hb,Nat.le_refl _,hc,by omega,?_⟩⟩
 apply List.ext_getElem?
 intro i
 by_cases hi:i<n
 ·have:=hf i hi
  simp[hi,this]
 ·simp[hi,hs]
theorem oQ{B g n:Nat}{f:Nat->Nat}{w:World}(h:w.rowIs g 45 n (fun i=>.float .f64 (f i)))(hB:B<=g)(hc:n<=maxLen):OwnG B (.slice (some ⟨g,0,none⟩) n n) ((List.range n).map f) w:=by
 have q:=oP h hB hc
 unfold OwnG
 simpa [Function.comp_def]using q
theorem oS{B g n:Nat}{f:Nat->Int}{w:World}(h:w.rowIs g 2 n (fun i=>.int .i64 (f i)))(hB:B<=g)(hc:n<=maxLen):Sh.Own B (.slice (some ⟨g,0,none⟩) n n) ((List.range n).map f) w:=by
 have q:=oP h hB hc
 unfold Sh.Own
 simpa [Function.comp_def]using q
def mkS(n:Nat)(x:Ch.Ix):Value:=match x.1 with
 | some b=>.slice (some ⟨b,0,none⟩) n x.2
 | none=>.slice none 0 0
theorem bG{w:World}{g b:Nat}{x y z p q r:Value}(h:b≠g):((((((w.setCell ⟨g,0,none⟩ x).setCell ⟨g,1,none⟩ y).setCell ⟨g,2,none⟩ z).setCell ⟨g,3,none⟩ p).setCell ⟨g,4,none⟩ q).setCell ⟨g,5,none⟩ r).heap[b]? =w.heap[b]? :=by
 rw[aH h,aH h,aH h,aH h,aH h,aH h]
theorem mF(n:Nat)(x:Ch.Ix): ∃p m c,mkS n x=.slice p m c:=by
 obtain⟨x1,x2⟩:=x
 cases x1
 ·exact⟨_,_,_,rfl⟩
 ·exact⟨_,_,_,rfl⟩
def mkP(x:Ch.Ix):Value:=.pointer (x.1.map fun b=>⟨b,0,none⟩)
theorem local_0(gb:Nat)(pc:Option Addr)(lc cc:Nat)(pe:Option Addr)(le ce:Nat)(ph:Option Addr)(lh ch:Nat)(pb:Option Addr)(lb cb:Nat)(pw:Option Addr)(lw cw:Nat)(pt:Option Addr)(lt ct:Nat)(ps:Option Addr)(ls cs:Nat)(sky st:Int)(w:World)
  (CF:Hid (∀v,Ab w v->Calls prog 37 #[.pointer (some ⟨gb,0,none⟩),.agg #[.slice pb lb cb,.slice pw lw cw,.slice pt lt ct,.slice ps ls cs,.int .i64 sky,.int .i64 st]] v fun e w'=>e=.returned (.bool false)/\Below v.heap.size v w')):
  Calls prog 13 #[.pointer (some ⟨gb,0,none⟩),.agg #[.slice pc lc cc,.slice pe le ce,.slice ph lh ch],.agg #[.slice pb lb cb,.slice pw lw cw,.slice pt lt ct,.slice ps ls cs,.int .i64 sky,.int .i64 st]] w fun e w'=>e=.returned (.tuple #[.agg #[.slice none 0 0,.slice none 0 0,.slice none 0 0,.slice none 0 0,.int .i64 0,.int .i64 0],.int .i64 1])/\Below w.heap.size w w':=by
 have A0:Hid (Ab w (((w.alloc (.cells #[.slice pc lc cc,.slice pe le ce,.slice ph lh ch] 34)).alloc (.cells #[.slice pb lb cb,.slice pw lw cw,.slice pt lt ct,.slice ps ls cs,.int .i64 sky,.int .i64 st] 41)).alloc (.cells #[.slice none 0 0,.slice none 0 0,.slice none 0 0,.slice none 0 0,.int .i64 0,.int .i64 0] 41))):=Ab.trans (bl2 _ _ _) (bl1 _ _)
 have P0:Hid ((((w.alloc (.cells #[.slice pc lc cc,.slice pe le ce,.slice ph lh ch] 34)).alloc (.cells #[.slice pb lb cb,.slice pw lw cw,.slice pt lt ct,.slice ps ls cs,.int .i64 sky,.int .i64 st] 41)).alloc (.cells #[.slice none 0 0,.slice none 0 0,.slice none 0 0,.slice none 0 0,.int .i64 0,.int .i64 0] 41)).heap[w.heap.size]? =some (.cells #[.slice pc lc cc,.slice pe le ce,.slice ph lh ch] 34)):=Ab.heap (bl1 _ _) (heap_alloc2_old _ _ _)
 have S0:Hid ((((w.alloc (.cells #[.slice pc lc cc,.slice pe le ce,.slice ph lh ch] 34)).alloc (.cells #[.slice pb lb cb,.slice pw lw cw,.slice pt lt ct,.slice ps ls cs,.int .i64 sky,.int .i64 st] 41)).alloc (.cells #[.slice none 0 0,.slice none 0 0,.slice none 0 0,.slice none 0 0,.int .i64 0,.int .i64 0] 41)).heap[w.heap.size+1]? =some (.cells #[.slice pb lb cb,.slice pw lw cw,.slice pt lt ct,.slice ps ls cs,.int .i64 sky,.int .i64 st] 41)):=Ab.heap (bl1 _ _) (heap_alloc2_new _ _ _)
 have Q0:Hid ((((w.alloc (.cells #[.slice pc lc cc,.slice pe le ce,.slice ph lh ch] 34)).alloc (.cells #[.slice pb lb cb,.slice pw lw cw,.slice pt lt ct,.slice ps ls cs,.int .i64 sky,.int .i64 st] 41)).alloc (.cells #[.slice none 0 0,.slice none 0 0,.slice none 0 0,.slice none 0 0,.int .i64 0,.int .i64 0] 41)).heap[w.heap.size+1+1]? =some (.cells #[.slice none 0 0,.slice none 0 0,.slice none 0 0,.slice none 0 0,.int .i64 0,.int .i64 0] 41)):=by
  have h:=heap_alloc_new ((w.alloc (.cells #[.slice pc lc cc,.slice pe le ce,.slice ph lh ch] 34)).alloc (.cells #[.slice pb lb cb,.slice pw lw cw,.slice pt lt ct,.slice ps ls cs,.int .i64 sky,.int .i64 st] 41)) (.cells #[.slice none 0 0,.slice none 0 0,.slice none 0 0,.slice none 0 0,.int .i64 0,.int .i64 0] 41)
  have e:((w.alloc (.cells #[.slice pc lc cc,.slice pe le ce,.slice ph lh ch] 34)).alloc (.cells #[.slice pb lb cb,.slice pw lw cw,.slice pt lt ct,.slice ps ls cs,.int .i64 sky,.int .i64 st] 41)).heap.size=w.heap.size+1+1:=by rw[cY,cY]
  rw[e]at h
  exact h
 go_enter func13,ntmps13
 go_upto_region 1 with fail
 generalize hW:World.alloc (World.alloc (World.alloc w _) _) _=V0 at*
 obtain⟨gp,hgp⟩:=aB w.heap.size
 obtain⟨gs,hgs⟩:=aB (w.heap.size+1)
 obtain⟨gr,hgr⟩:=aB (w.heap.size+1+1)
 have HG:Hid (w.heap.size<=gr):=by show _<=_;omega
 rw[hgr]at Q0 ⊢
 rw[hgs]at S0 ⊢
 rw[hgp]at P0 ⊢
 clear hgp hgs hgr hW
 go_upto_region 3 with fail
 obtain⟨UU,E,hF1,hF2⟩:=cls V0
 have HU:=hid hF2
 have HU1:=hid hF1
 have HX:Hid (∀u,Ab w (E u)):=fun u=>Ab.trans A0.out (hF1 u)
 have p0: ∀u,(E u).cell? ⟨gp,0,none⟩=some (.slice pc lc cc):=fun u=>aA 0 ((hF1 u).heap P0.out)
 have p1: ∀u,(E u).cell? ⟨gp,1,none⟩=some (.slice pe le ce):=fun u=>aA 1 ((hF1 u).heap P0.out)
 have p2: ∀u,(E u).cell? ⟨gp,2,none⟩=some (.slice ph lh ch):=fun u=>aA 2 ((hF1 u).heap P0.out)
 have s0: ∀u,(E u).cell? ⟨gs,0,none⟩=some (.slice pb lb cb):=fun u=>aA 0 ((hF1 u).heap S0.out)
 have s1: ∀u,(E u).cell? ⟨gs,1,none⟩=some (.slice pw lw cw):=fun u=>aA 1 ((hF1 u).heap S0.out)
 have s2: ∀u,(E u).cell? ⟨gs,2,none⟩=some (.slice pt lt ct):=fun u=>aA 2 ((hF1 u).heap S0.out)
 have s3: ∀u,(E u).cell? ⟨gs,3,none⟩=some (.slice ps ls cs):=fun u=>aA 3 ((hF1 u).heap S0.out)
 have s4: ∀u,(E u).cell? ⟨gs,4,none⟩=some (.int .i64 sky):=fun u=>aA 4 ((hF1 u).heap S0.out)
 have s5: ∀u,(E u).cell? ⟨gs,5,none⟩=some (.int .i64 st):=fun u=>aA 5 ((hF1 u).heap S0.out)
 have DD0:=HU.out _ (Ab.refl V0).drew
 clear hF1 hF2
 refine aJ E (by kernel_rfl) (by kernel_rfl) DD0 ?_
 repeat(go_big_quiet_step (first
  | (with_reducible rfl)
  | (go_at_call 37;exact aF HU HU1 (CF.out _ (HX.out _)))))
 refine wpQuiet_nil ?_
 intro z hwz
 obtain⟨u0,hu⟩:=hwz
 have AZ:Hid (Ab V0 z):=by rw[hu];exact HU1.out u0
 clear hu u0
 clear HU HU1 HX DD0 p0 p1 p2 s0 s1 s2 s3 s4 s5
 clear E UU
 have A1:Hid (Ab w z):=A0.out.trans AZ.out
 have Q1:=hid (AZ.out.heap Q0.out)
 have t0:=aG Q1.out
 have f0:=bU Q1.out
 go_wp2_with fail
 (try simp only[Exit.inBlock,Exit.then])
 refine bodyPost_ret (v:=.tuple #[.agg #[.slice none 0 0,.slice none 0 0,.slice none 0 0,.slice none 0 0,.int .i64 0,.int .i64 0],.int .i64 1]) ?_ rfl ?_
 ·exact cM results13 _ _ gr _ _ (0,0) _ _ rfl rfl (row6 Q1.out) underlying41 rfl (by kernel_rfl)
 ·exact⟨rfl,(((((A1.out.setk HG.out _).setk HG.out _).setk HG.out _).setk HG.out _).setk HG.out _).setk HG.out _⟩
theorem local_1(gb:Nat)(pc:Option Addr)(lc cc:Nat)(pe:Option Addr)(le ce:Nat)(ph:Option Addr)(lh ch:Nat)(pb:Option Addr)(lb cb:Nat)(pw:Option Addr)(lw cw:Nat)(pt:Option Addr)(lt ct:Nat)(ps:Option Addr)(ls cs:Nat)(sky st:Int)(N:Nat)(w:World)
  (CF:Hid (∀v,Ab w v->Calls prog 37 #[.pointer (some ⟨gb,0,none⟩),.agg #[.slice pb lb cb,.slice pw lw cw,.slice pt lt ct,.slice ps ls cs,.int .i64 sky,.int .i64 st]] v fun e w'=>e=.returned (.bool true)/\Below v.heap.size v w'))
  (CC:Hid (∀v,Ab w v->Calls prog 9 #[.pointer (some ⟨gb,0,none⟩)] v fun e w'=>e=.returned (.int .i64 (N:Nat))/\Below v.heap.size v w'))
  (C1:Hid (∀v,Ab w v->Calls prog 38 #[.slice pc lc cc,.int .i64 (N:Nat)] v fun e w'=>e=.returned (.bool false)/\Below v.heap.size v w')):
  Calls prog 13 #[.pointer (some ⟨gb,0,none⟩),.agg #[.slice pc lc cc,.slice pe le ce,.slice ph lh ch],.agg #[.slice pb lb cb,.slice pw lw cw,.slice pt lt ct,.slice ps ls cs,.int .i64 sky,.int .i64 st]] w fun e w'=>e=.returned (.tuple #[.agg #[.slice none 0 0,.slice none 0 0,.slice none 0 0,.slice none 0 0,.int .i64 0,.int .i64 0],.int .i64 1])/\Below w.heap.size w w':=by
 have A0:Hid (Ab w (((w.alloc (.cells #[.slice pc lc cc,.slice pe le ce,.slice ph lh ch] 34)).alloc (.cells #[.slice pb lb cb,.slice pw lw cw,.slice pt lt ct,.slice ps ls cs,.int .i64 sky,.int .i64 st] 41)).alloc (.cells #[.slice none 0 0,.slice none 0 0,.slice none 0 0,.slice none 0 0,.int .i64 0,.int .i64 0] 41))):=Ab.trans (bl2 _ _ _) (bl1 _ _)
 have P0:Hid ((((w.alloc (.cells #[.slice pc lc cc,.slice pe le ce,.slice ph lh ch] 34)).alloc (.cells #[.slice pb lb cb,.slice pw lw cw,.slice pt lt ct,.slice ps ls cs,.int .i64 sky,.int .i64 st] 41)).alloc (.cells #[.slice none 0 0,.slice none 0 0,.slice none 0 0,.slice none 0 0,.int .i64 0,.int .i64 0] 41)).heap[w.heap.size]? =some (.cells #[.slice pc lc cc,.slice pe le ce,.slice ph lh ch] 34)):=Ab.heap (bl1 _ _) (heap_alloc2_old _ _ _)
 have S0:Hid ((((w.alloc (.cells #[.slice pc lc cc,.slice pe le ce,.slice ph lh ch] 34)).alloc (.cells #[.slice pb lb cb,.slice pw lw cw,.slice pt lt ct,.slice ps ls cs,.int .i64 sky,.int .i64 st] 41)).alloc (.cells #[.slice none 0 0,.slice none 0 0,.slice none 0 0,.slice none 0 0,.int .i64 0,.int .i64 0] 41)).heap[w.heap.size+1]? =some (.cells #[.slice pb lb cb,.slice pw lw cw,.slice pt lt ct,.slice ps ls cs,.int .i64 sky,.int .i64 st] 41)):=Ab.heap (bl1 _ _) (heap_alloc2_new _ _ _)
 have Q0:Hid ((((w.alloc (.cells #[.slice pc lc cc,.slice pe le ce,.slice ph lh ch] 34)).alloc (.cells #[.slice pb lb cb,.slice pw lw cw,.slice pt lt ct,.slice ps ls cs,.int .i64 sky,.int .i64 st] 41)).alloc (.cells #[.slice none 0 0,.slice none 0 0,.slice none 0 0,.slice none 0 0,.int .i64 0,.int .i64 0] 41)).heap[w.heap.size+1+1]? =some (.cells #[.slice none 0 0,.slice none 0 0,.slice none 0 0,.slice none 0 0,.int .i64 0,.int .i64 0] 41)):=by
  have h:=heap_alloc_new ((w.alloc (.cells #[.slice pc lc cc,.slice pe le ce,.slice ph lh ch] 34)).alloc (.cells #[.slice pb lb cb,.slice pw lw cw,.slice pt lt ct,.slice ps ls cs,.int .i64 sky,.int .i64 st] 41)) (.cells #[.slice none 0 0,.slice none 0 0,.slice none 0 0,.slice none 0 0,.int .i64 0,.int .i64 0] 41)
  have e:((w.alloc (.cells #[.slice pc lc cc,.slice pe le ce,.slice ph lh ch] 34)).alloc (.cells #[.slice pb lb cb,.slice pw lw cw,.slice pt lt ct,.slice ps ls cs,.int .i64 sky,.int .i64 st] 41)).heap.size=w.heap.size+1+1:=by rw[cY,cY]
  rw[e]at h
  exact h
 go_enter func13,ntmps13
 go_upto_region 1 with fail
 generalize hW:World.alloc (World.alloc (World.alloc w _) _) _=V0 at*
 obtain⟨gp,hgp⟩:=aB w.heap.size
 obtain⟨gs,hgs⟩:=aB (w.heap.size+1)
 obtain⟨gr,hgr⟩:=aB (w.heap.size+1+1)
 have HG:Hid (w.heap.size<=gr):=by show _<=_;omega
 rw[hgr]at Q0 ⊢
 rw[hgs]at S0 ⊢
 rw[hgp]at P0 ⊢
 clear hgp hgs hgr hW
 go_upto_region 3 with fail
 obtain⟨UU,E,hF1,hF2⟩:=cls V0
 have HU:=hid hF2
 have HU1:=hid hF1
 have HX:Hid (∀u,Ab w (E u)):=fun u=>Ab.trans A0.out (hF1 u)
 have p0: ∀u,(E u).cell? ⟨gp,0,none⟩=some (.slice pc lc cc):=fun u=>aA 0 ((hF1 u).heap P0.out)
 have p1: ∀u,(E u).cell? ⟨gp,1,none⟩=some (.slice pe le ce):=fun u=>aA 1 ((hF1 u).heap P0.out)
 have p2: ∀u,(E u).cell? ⟨gp,2,none⟩=some (.slice ph lh ch):=fun u=>aA 2 ((hF1 u).heap P0.out)
 have s0: ∀u,(E u).cell? ⟨gs,0,none⟩=some (.slice pb lb cb):=fun u=>aA 0 ((hF1 u).heap S0.out)
 have s1: ∀u,(E u).cell? ⟨gs,1,none⟩=some (.slice pw lw cw):=fun u=>aA 1 ((hF1 u).heap S0.out)
 have s2: ∀u,(E u).cell? ⟨gs,2,none⟩=some (.slice pt lt ct):=fun u=>aA 2 ((hF1 u).heap S0.out)
 have s3: ∀u,(E u).cell? ⟨gs,3,none⟩=some (.slice ps ls cs):=fun u=>aA 3 ((hF1 u).heap S0.out)
 have s4: ∀u,(E u).cell? ⟨gs,4,none⟩=some (.int .i64 sky):=fun u=>aA 4 ((hF1 u).heap S0.out)
 have s5: ∀u,(E u).cell? ⟨gs,5,none⟩=some (.int .i64 st):=fun u=>aA 5 ((hF1 u).heap S0.out)
 have DD0:=HU.out _ (Ab.refl V0).drew
 clear hF1 hF2
 refine aJ E (by kernel_rfl) (by kernel_rfl) DD0 ?_
 repeat(go_big_quiet_step (first
  | (with_reducible rfl)
  | (go_at_call 37;exact aF HU HU1 (CF.out _ (HX.out _)))
  | (go_at_call 9;exact aF HU HU1 (CC.out _ (HX.out _)))
  | (go_at_call_of 38 lc;exact aF HU HU1 (C1.out _ (HX.out _)))))
 refine wpQuiet_nil ?_
 intro z hwz
 obtain⟨u0,hu⟩:=hwz
 have AZ:Hid (Ab V0 z):=by rw[hu];exact HU1.out u0
 clear hu u0
 clear HU HU1 HX DD0 p0 p1 p2 s0 s1 s2 s3 s4 s5
 clear E UU
 have A1:Hid (Ab w z):=A0.out.trans AZ.out
 have Q1:=hid (AZ.out.heap Q0.out)
 have t0:=aG Q1.out
 have f0:=bU Q1.out
 go_wp2_with fail
 (try simp only[Exit.inBlock,Exit.then])
 refine bodyPost_ret (v:=.tuple #[.agg #[.slice none 0 0,.slice none 0 0,.slice none 0 0,.slice none 0 0,.int .i64 0,.int .i64 0],.int .i64 1]) ?_ rfl ?_
 ·exact cM results13 _ _ gr _ _ (0,0) _ _ rfl rfl (row6 Q1.out) underlying41 rfl (by kernel_rfl)
 ·exact⟨rfl,(((((A1.out.setk HG.out _).setk HG.out _).setk HG.out _).setk HG.out _).setk HG.out _).setk HG.out _⟩
theorem local_2(gb:Nat)(pc:Option Addr)(lc cc:Nat)(pe:Option Addr)(le ce:Nat)(ph:Option Addr)(lh ch:Nat)(pb:Option Addr)(lb cb:Nat)(pw:Option Addr)(lw cw:Nat)(pt:Option Addr)(lt ct:Nat)(ps:Option Addr)(ls cs:Nat)(sky st:Int)(N:Nat)(w:World)
  (CF:Hid (∀v,Ab w v->Calls prog 37 #[.pointer (some ⟨gb,0,none⟩),.agg #[.slice pb lb cb,.slice pw lw cw,.slice pt lt ct,.slice ps ls cs,.int .i64 sky,.int .i64 st]] v fun e w'=>e=.returned (.bool true)/\Below v.heap.size v w'))
  (CC:Hid (∀v,Ab w v->Calls prog 9 #[.pointer (some ⟨gb,0,none⟩)] v fun e w'=>e=.returned (.int .i64 (N:Nat))/\Below v.heap.size v w'))
  (C1:Hid (∀v,Ab w v->Calls prog 38 #[.slice pc lc cc,.int .i64 (N:Nat)] v fun e w'=>e=.returned (.bool true)/\Below v.heap.size v w'))
  (C2:Hid (∀v,Ab w v->Calls prog 38 #[.slice ph lh ch,.int .i64 (N:Nat)] v fun e w'=>e=.returned (.bool false)/\Below v.heap.size v w')):
  Calls prog 13 #[.pointer (some ⟨gb,0,none⟩),.agg #[.slice pc lc cc,.slice pe le ce,.slice ph lh ch],.agg #[.slice pb lb cb,.slice pw lw cw,.slice pt lt ct,.slice ps ls cs,.int .i64 sky,.int .i64 st]] w fun e w'=>e=.returned (.tuple #[.agg #[.slice none 0 0,.slice none 0 0,.slice none 0 0,.slice none 0 0,.int .i64 0,.int .i64 0],.int .i64 1])/\Below w.heap.size w w':=by
 have A0:Hid (Ab w (((w.alloc (.cells #[.slice pc lc cc,.slice pe le ce,.slice ph lh ch] 34)).alloc (.cells #[.slice pb lb cb,.slice pw lw cw,.slice pt lt ct,.slice ps ls cs,.int .i64 sky,.int .i64 st] 41)).alloc (.cells #[.slice none 0 0,.slice none 0 0,.slice none 0 0,.slice none 0 0,.int .i64 0,.int .i64 0] 41))):=Ab.trans (bl2 _ _ _) (bl1 _ _)
 have P0:Hid ((((w.alloc (.cells #[.slice pc lc cc,.slice pe le ce,.slice ph lh ch] 34)).alloc (.cells #[.slice pb lb cb,.slice pw lw cw,.slice pt lt ct,.slice ps ls cs,.int .i64 sky,.int .i64 st] 41)).alloc (.cells #[.slice none 0 0,.slice none 0 0,.slice none 0 0,.slice none 0 0,.int .i64 0,.int .i64 0] 41)).heap[w.heap.size]? =some (.cells #[.slice pc lc cc,.slice pe le ce,.slice ph lh ch] 34)):=Ab.heap (bl1 _ _) (heap_alloc2_old _ _ _)
 have S0:Hid ((((w.alloc (.cells #[.slice pc lc cc,.slice pe le ce,.slice ph lh ch] 34)).alloc (.cells #[.slice pb lb cb,.slice pw lw cw,.slice pt lt ct,.slice ps ls cs,.int .i64 sky,.int .i64 st] 41)).alloc (.cells #[.slice none 0 0,.slice none 0 0,.slice none 0 0,.slice none 0 0,.int .i64 0,.int .i64 0] 41)).heap[w.heap.size+1]? =some (.cells #[.slice pb lb cb,.slice pw lw cw,.slice pt lt ct,.slice ps ls cs,.int .i64 sky,.int .i64 st] 41)):=Ab.heap (bl1 _ _) (heap_alloc2_new _ _ _)
 have Q0:Hid ((((w.alloc (.cells #[.slice pc lc cc,.slice pe le ce,.slice ph lh ch] 34)).alloc (.cells #[.slice pb lb cb,.slice pw lw cw,.slice pt lt ct,.slice ps ls cs,.int .i64 sky,.int .i64 st] 41)).alloc (.cells #[.slice none 0 0,.slice none 0 0,.slice none 0 0,.slice none 0 0,.int .i64 0,.int .i64 0] 41)).heap[w.heap.size+1+1]? =some (.cells #[.slice none 0 0,.slice none 0 0,.slice none 0 0,.slice none 0 0,.int .i64 0,.int .i64 0] 41)):=by
  have h:=heap_alloc_new ((w.alloc (.cells #[.slice pc lc cc,.slice pe le ce,.slice ph lh ch] 34)).alloc (.cells #[.slice pb lb cb,.slice pw lw cw,.slice pt lt ct,.slice ps ls cs,.int .i64 sky,.int .i64 st] 41)) (.cells #[.slice none 0 0,.slice none 0 0,.slice none 0 0,.slice none 0 0,.int .i64 0,.int .i64 0] 41)
  have e:((w.alloc (.cells #[.slice pc lc cc,.slice pe le ce,.slice ph lh ch] 34)).alloc (.cells #[.slice pb lb cb,.slice pw lw cw,.slice pt lt ct,.slice ps ls cs,.int .i64 sky,.int .i64 st] 41)).heap.size=w.heap.size+1+1:=by rw[cY,cY]
  rw[e]at h
  exact h
 go_enter func13,ntmps13
 go_upto_region 1 with fail
 generalize hW:World.alloc (World.alloc (World.alloc w _) _) _=V0 at*
 obtain⟨gp,hgp⟩:=aB w.heap.size
 obtain⟨gs,hgs⟩:=aB (w.heap.size+1)
 obtain⟨gr,hgr⟩:=aB (w.heap.size+1+1)
 have HG:Hid (w.heap.size<=gr):=by show _<=_;omega
 rw[hgr]at Q0 ⊢
 rw[hgs]at S0 ⊢
 rw[hgp]at P0 ⊢
 clear hgp hgs hgr hW
 go_upto_region 3 with fail
 obtain⟨UU,E,hF1,hF2⟩:=cls V0
 have HU:=hid hF2
 have HU1:=hid hF1
 have HX:Hid (∀u,Ab w (E u)):=fun u=>Ab.trans A0.out (hF1 u)
 have p0: ∀u,(E u).cell? ⟨gp,0,none⟩=some (.slice pc lc cc):=fun u=>aA 0 ((hF1 u).heap P0.out)
 have p1: ∀u,(E u).cell? ⟨gp,1,none⟩=some (.slice pe le ce):=fun u=>aA 1 ((hF1 u).heap P0.out)
 have p2: ∀u,(E u).cell? ⟨gp,2,none⟩=some (.slice ph lh ch):=fun u=>aA 2 ((hF1 u).heap P0.out)
 have s0: ∀u,(E u).cell? ⟨gs,0,none⟩=some (.slice pb lb cb):=fun u=>aA 0 ((hF1 u).heap S0.out)
 have s1: ∀u,(E u).cell? ⟨gs,1,none⟩=some (.slice pw lw cw):=fun u=>aA 1 ((hF1 u).heap S0.out)
 have s2: ∀u,(E u).cell? ⟨gs,2,none⟩=some (.slice pt lt ct):=fun u=>aA 2 ((hF1 u).heap S0.out)
 have s3: ∀u,(E u).cell? ⟨gs,3,none⟩=some (.slice ps ls cs):=fun u=>aA 3 ((hF1 u).heap S0.out)
 have s4: ∀u,(E u).cell? ⟨gs,4,none⟩=some (.int .i64 sky):=fun u=>aA 4 ((hF1 u).heap S0.out)
 have s5: ∀u,(E u).cell? ⟨gs,5,none⟩=some (.int .i64 st):=fun u=>aA 5 ((hF1 u).heap S0.out)
 have DD0:=HU.out _ (Ab.refl V0).drew
 clear hF1 hF2
 refine aJ E (by kernel_rfl) (by kernel_rfl) DD0 ?_
 repeat(go_big_quiet_step (first
  | (with_reducible rfl)
  | (go_at_call 37;exact aF HU HU1 (CF.out _ (HX.out _)))
  | (go_at_call 9;exact aF HU HU1 (CC.out _ (HX.out _)))
  | (go_at_call_of 38 lc;exact aF HU HU1 (C1.out _ (HX.out _)))
  | (go_at_call_of 38 lh;exact aF HU HU1 (C2.out _ (HX.out _)))))
 refine wpQuiet_nil ?_
 intro z hwz
 obtain⟨u0,hu⟩:=hwz
 have AZ:Hid (Ab V0 z):=by rw[hu];exact HU1.out u0
 clear hu u0
 clear HU HU1 HX DD0 p0 p1 p2 s0 s1 s2 s3 s4 s5
 clear E UU
 have A1:Hid (Ab w z):=A0.out.trans AZ.out
 have Q1:=hid (AZ.out.heap Q0.out)
 have t0:=aG Q1.out
 have f0:=bU Q1.out
 go_wp2_with fail
 (try simp only[Exit.inBlock,Exit.then])
 refine bodyPost_ret (v:=.tuple #[.agg #[.slice none 0 0,.slice none 0 0,.slice none 0 0,.slice none 0 0,.int .i64 0,.int .i64 0],.int .i64 1]) ?_ rfl ?_
 ·exact cM results13 _ _ gr _ _ (0,0) _ _ rfl rfl (row6 Q1.out) underlying41 rfl (by kernel_rfl)
 ·exact⟨rfl,(((((A1.out.setk HG.out _).setk HG.out _).setk HG.out _).setk HG.out _).setk HG.out _).setk HG.out _⟩
theorem local_3(gb:Nat)(pc:Option Addr)(lc cc:Nat)(pe:Option Addr)(le ce:Nat)(ph:Option Addr)(lh ch:Nat)(pb:Option Addr)(lb cb:Nat)(pw:Option Addr)(lw cw:Nat)(pt:Option Addr)(lt ct:Nat)(ps:Option Addr)(ls cs:Nat)(sky st:Int)(N:Nat)(M:Nat)(w:World)
  (CF:Hid (∀v,Ab w v->Calls prog 37 #[.pointer (some ⟨gb,0,none⟩),.agg #[.slice pb lb cb,.slice pw lw cw,.slice pt lt ct,.slice ps ls cs,.int .i64 sky,.int .i64 st]] v fun e w'=>e=.returned (.bool true)/\Below v.heap.size v w'))
  (CC:Hid (∀v,Ab w v->Calls prog 9 #[.pointer (some ⟨gb,0,none⟩)] v fun e w'=>e=.returned (.int .i64 (N:Nat))/\Below v.heap.size v w'))
  (C1:Hid (∀v,Ab w v->Calls prog 38 #[.slice pc lc cc,.int .i64 (N:Nat)] v fun e w'=>e=.returned (.bool true)/\Below v.heap.size v w'))
  (C2:Hid (∀v,Ab w v->Calls prog 38 #[.slice ph lh ch,.int .i64 (N:Nat)] v fun e w'=>e=.returned (.bool true)/\Below v.heap.size v w'))
  (CE:Hid (∀v,Ab w v->Calls prog 32 #[.pointer (some ⟨gb,0,none⟩)] v fun e w'=>e=.returned (.int .i64 (M:Nat))/\Below v.heap.size v w'))
  (C3:Hid (∀v,Ab w v->Calls prog 38 #[.slice pe le ce,.int .i64 (M:Nat)] v fun e w'=>e=.returned (.bool false)/\Below v.heap.size v w')):
  Calls prog 13 #[.pointer (some ⟨gb,0,none⟩),.agg #[.slice pc lc cc,.slice pe le ce,.slice ph lh ch],.agg #[.slice pb lb cb,.slice pw lw cw,.slice pt lt ct,.slice ps ls cs,.int .i64 sky,.int .i64 st]] w fun e w'=>e=.returned (.tuple #[.agg #[.slice none 0 0,.slice none 0 0,.slice none 0 0,.slice none 0 0,.int .i64 0,.int .i64 0],.int .i64 1])/\Below w.heap.size w w':=by
 have A0:Hid (Ab w (((w.alloc (.cells #[.slice pc lc cc,.slice pe le ce,.slice ph lh ch] 34)).alloc (.cells #[.slice pb lb cb,.slice pw lw cw,.slice pt lt ct,.slice ps ls cs,.int .i64 sky,.int .i64 st] 41)).alloc (.cells #[.slice none 0 0,.slice none 0 0,.slice none 0 0,.slice none 0 0,.int .i64 0,.int .i64 0] 41))):=Ab.trans (bl2 _ _ _) (bl1 _ _)
 have P0:Hid ((((w.alloc (.cells #[.slice pc lc cc,.slice pe le ce,.slice ph lh ch] 34)).alloc (.cells #[.slice pb lb cb,.slice pw lw cw,.slice pt lt ct,.slice ps ls cs,.int .i64 sky,.int .i64 st] 41)).alloc (.cells #[.slice none 0 0,.slice none 0 0,.slice none 0 0,.slice none 0 0,.int .i64 0,.int .i64 0] 41)).heap[w.heap.size]? =some (.cells #[.slice pc lc cc,.slice pe le ce,.slice ph lh ch] 34)):=Ab.heap (bl1 _ _) (heap_alloc2_old _ _ _)
 have S0:Hid ((((w.alloc (.cells #[.slice pc lc cc,.slice pe le ce,.slice ph lh ch] 34)).alloc (.cells #[.slice pb lb cb,.slice pw lw cw,.slice pt lt ct,.slice ps ls cs,.int .i64 sky,.int .i64 st] 41)).alloc (.cells #[.slice none 0 0,.slice none 0 0,.slice none 0 0,.slice none 0 0,.int .i64 0,.int .i64 0] 41)).heap[w.heap.size+1]? =some (.cells #[.slice pb lb cb,.slice pw lw cw,.slice pt lt ct,.slice ps ls cs,.int .i64 sky,.int .i64 st] 41)):=Ab.heap (bl1 _ _) (heap_alloc2_new _ _ _)
 have Q0:Hid ((((w.alloc (.cells #[.slice pc lc cc,.slice pe le ce,.slice ph lh ch] 34)).alloc (.cells #[.slice pb lb cb,.slice pw lw cw,.slice pt lt ct,.slice ps ls cs,.int .i64 sky,.int .i64 st] 41)).alloc (.cells #[.slice none 0 0,.slice none 0 0,.slice none 0 0,.slice none 0 0,.int .i64 0,.int .i64 0] 41)).heap[w.heap.size+1+1]? =some (.cells #[.slice none 0 0,.slice none 0 0,.slice none 0 0,.slice none 0 0,.int .i64 0,.int .i64 0] 41)):=by
  have h:=heap_alloc_new ((w.alloc (.cells #[.slice pc lc cc,.slice pe le ce,.slice ph lh ch] 34)).alloc (.cells #[.slice pb lb cb,.slice pw lw cw,.slice pt lt ct,.slice ps ls cs,.int .i64 sky,.int .i64 st] 41)) (.cells #[.slice none 0 0,.slice none 0 0,.slice none 0 0,.slice none 0 0,.int .i64 0,.int .i64 0] 41)
  have e:((w.alloc (.cells #[.slice pc lc cc,.slice pe le ce,.slice ph lh ch] 34)).alloc (.cells #[.slice pb lb cb,.slice pw lw cw,.slice pt lt ct,.slice ps ls cs,.int .i64 sky,.int .i64 st] 41)).heap.size=w.heap.size+1+1:=by rw[cY,cY]
  rw[e]at h
  exact h
 go_enter func13,ntmps13
 go_upto_region 1 with fail
 generalize hW:World.alloc (World.alloc (World.alloc w _) _) _=V0 at*
 obtain⟨gp,hgp⟩:=aB w.heap.size
 obtain⟨gs,hgs⟩:=aB (w.heap.size+1)
 obtain⟨gr,hgr⟩:=aB (w.heap.size+1+1)
 have HG:Hid (w.heap.size<=gr):=by show _<=_;omega
 rw[hgr]at Q0 ⊢
 rw[hgs]at S0 ⊢
 rw[hgp]at P0 ⊢
 clear hgp hgs hgr hW
 go_upto_region 3 with fail
 obtain⟨UU,E,hF1,hF2⟩:=cls V0
 have HU:=hid hF2
 have HU1:=hid hF1
 have HX:Hid (∀u,Ab w (E u)):=fun u=>Ab.trans A0.out (hF1 u)
 have p0: ∀u,(E u).cell? ⟨gp,0,none⟩=some (.slice pc lc cc):=fun u=>aA 0 ((hF1 u).heap P0.out)
 have p1: ∀u,(E u).cell? ⟨gp,1,none⟩=some (.slice pe le ce):=fun u=>aA 1 ((hF1 u).heap P0.out)
 have p2: ∀u,(E u).cell? ⟨gp,2,none⟩=some (.slice ph lh ch):=fun u=>aA 2 ((hF1 u).heap P0.out)
 have s0: ∀u,(E u).cell? ⟨gs,0,none⟩=some (.slice pb lb cb):=fun u=>aA 0 ((hF1 u).heap S0.out)
 have s1: ∀u,(E u).cell? ⟨gs,1,none⟩=some (.slice pw lw cw):=fun u=>aA 1 ((hF1 u).heap S0.out)
 have s2: ∀u,(E u).cell? ⟨gs,2,none⟩=some (.slice pt lt ct):=fun u=>aA 2 ((hF1 u).heap S0.out)
 have s3: ∀u,(E u).cell? ⟨gs,3,none⟩=some (.slice ps ls cs):=fun u=>aA 3 ((hF1 u).heap S0.out)
 have s4: ∀u,(E u).cell? ⟨gs,4,none⟩=some (.int .i64 sky):=fun u=>aA 4 ((hF1 u).heap S0.out)
 have s5: ∀u,(E u).cell? ⟨gs,5,none⟩=some (.int .i64 st):=fun u=>aA 5 ((hF1 u).heap S0.out)
 have DD0:=HU.out _ (Ab.refl V0).drew
 clear hF1 hF2
 refine aJ E (by kernel_rfl) (by kernel_rfl) DD0 ?_
 repeat(go_big_quiet_step (first
  | (with_reducible rfl)
  | (go_at_call 37;exact aF HU HU1 (CF.out _ (HX.out _)))
  | (go_at_call 9;exact aF HU HU1 (CC.out _ (HX.out _)))
  | (go_at_call_of 38 lc;exact aF HU HU1 (C1.out _ (HX.out _)))
  | (go_at_call_of 38 lh;exact aF HU HU1 (C2.out _ (HX.out _)))
  | (go_at_call 32;exact aF HU HU1 (CE.out _ (HX.out _)))
  | (go_at_call_of 38 le;exact aF HU HU1 (C3.out _ (HX.out _)))))
 refine wpQuiet_nil ?_
 intro z hwz
 obtain⟨u0,hu⟩:=hwz
 have AZ:Hid (Ab V0 z):=by rw[hu];exact HU1.out u0
 clear hu u0
 clear HU HU1 HX DD0 p0 p1 p2 s0 s1 s2 s3 s4 s5
 clear E UU
 have A1:Hid (Ab w z):=A0.out.trans AZ.out
 have Q1:=hid (AZ.out.heap Q0.out)
 have t0:=aG Q1.out
 have f0:=bU Q1.out
 go_wp2_with fail
 (try simp only[Exit.inBlock,Exit.then])
 refine bodyPost_ret (v:=.tuple #[.agg #[.slice none 0 0,.slice none 0 0,.slice none 0 0,.slice none 0 0,.int .i64 0,.int .i64 0],.int .i64 1]) ?_ rfl ?_
 ·exact cM results13 _ _ gr _ _ (0,0) _ _ rfl rfl (row6 Q1.out) underlying41 rfl (by kernel_rfl)
 ·exact⟨rfl,(((((A1.out.setk HG.out _).setk HG.out _).setk HG.out _).setk HG.out _).setk HG.out _).setk HG.out _⟩
end Spl
end
section
open Go.RowKit Tf Cu Go.Deep
namespace Spl
theorem dS{B:Nat}{t:TypeId}{v:Value}{n:Nat}{f:Nat->Value}{w:World}(h:w.ownsRow B t 1 v n ((List.range n).map f))(h0:0<n): ∃g cap F,v=.slice (some ⟨g,0,none⟩) n cap/\B<=g/\n<=cap/\w.rowIs g t cap F/\ ∀i,i<n->F i=f i:=by
 rcases h.2 with⟨rfl,hz⟩ | ⟨g,cap,cur,e,hb,hg,h1,h2,h3,h4⟩
 ·omega
 ·refine⟨g,cap,fun i=>(cur[i]?).getD (.bool false),e,hb,h1,⟨cur,hg,by omega,fun i hi=> ?_⟩,fun i hi=> ?_⟩
  ·have:i<cur.size:=by omega
   simp[this]
  ·have q:(cur.toList.take n)[i]? =((List.range n).map f)[i]? :=by
    have h4':cur.toList.take n=(List.range n).map f:=by simpa using h4
    rw[h4']
   rw[List.getElem?_take,if_pos hi,Array.getElem?_toList]at q
   dsimp only
   rw[q]
   simp[hi]
def Rw4(M:Nat)(p1 p2 p3 p4:Option Addr)(n m:Nat)(A:Nat->Nat)(B C:Nat->Int)(D:Nat->Nat)(v:World):Prop:=
 ∃g1 k1 F1 g2 k2 F2 g3 k3 F3 g4 k4 F4,(p1=some ⟨g1,0,none⟩/\p2=some ⟨g2,0,none⟩/\p3=some ⟨g3,0,none⟩/\p4=some ⟨g4,0,none⟩)/\
  (v.rowIs g1 45 k1 F1/\v.rowIs g2 2 k2 F2/\v.rowIs g3 2 k3 F3/\v.rowIs g4 45 k4 F4)/\
  (n<=k1/\n<=k2/\n<=k3/\m<=k4)/\(M<=g1/\M<=g2/\M<=g3/\M<=g4)/\
  ((∀i,i<n->F1 i=.float .f64 (A i))/\(∀i,i<n->F2 i=.int .i64 (B i))/\(∀i,i<n->F3 i=.int .i64 (C i))/\ ∀i,i<m->F4 i=.float .f64 (D i))/\(g1≠g4/\g2≠g3)
theorem Rw4.eq{M:Nat}{p1 p2 p3 p4:Option Addr}{n m:Nat}{A:Nat->Nat}{B C:Nat->Int}{D:Nat->Nat}{v v':World}(h:Rw4 M p1 p2 p3 p4 n m A B C D v)(e: ∀b,M<=b->b<v.heap.size->v'.heap[b]? =v.heap[b]?):Rw4 M p1 p2 p3 p4 n m A B C D v':=by
 obtain⟨g1,k1,F1,g2,k2,F2,g3,k3,F3,g4,k4,F4,h1,⟨r1,r2,r3,r4⟩,h3,⟨m1,m2,m3,m4⟩,h5⟩:=h
 exact⟨g1,k1,F1,g2,k2,F2,g3,k3,F3,g4,k4,F4,h1,⟨r1.of_block (e _ m1 r1.lt),r2.of_block (e _ m2 r2.lt),r3.of_block (e _ m3 r3.lt),r4.of_block (e _ m4 r4.lt)⟩,h3,⟨m1,m2,m3,m4⟩,h5⟩
theorem Rw4.low{M M':Nat}{p1 p2 p3 p4:Option Addr}{n m:Nat}{A:Nat->Nat}{B C:Nat->Int}{D:Nat->Nat}{v:World}(h:Rw4 M p1 p2 p3 p4 n m A B C D v)(l:M'<=M):Rw4 M' p1 p2 p3 p4 n m A B C D v:=by
 obtain⟨g1,k1,F1,g2,k2,F2,g3,k3,F3,g4,k4,F4,h1,h2,h3,⟨m1,m2,m3,m4⟩,h5⟩:=h
 exact⟨g1,k1,F1,g2,k2,F2,g3,k3,F3,g4,k4,F4,h1,h2,h3,⟨Nat.le_trans l m1,Nat.le_trans l m2,Nat.le_trans l m3,Nat.le_trans l m4⟩,h5⟩
theorem OwnS.rw4{M:Nat}{p1 p2 p3 p4:Option Addr}{n m c1 c2 c3 c4:Nat}{A:Nat->Nat}{B C:Nat->Int}{D:Nat->Nat}{sk st:Int}{w:World}(h:OwnS M (.agg #[.slice p1 n c1,.slice p2 n c2,.slice p3 n c3,.slice p4 m c4,.int .i64 sk,.int .i64 st]) n n n m A B C D sk st w)(hn:0<n)(hm:0<m):Rw4 M p1 p2 p3 p4 n m A B C D w:=by
 obtain⟨v1,v2,v3,v4,e,h1,h2,h3,h4,d1,d2⟩:=h
 simp only[Value.agg.injEq,List.toArray_eq_iff,List.cons.injEq,and_true]at e
 obtain⟨rfl,rfl,rfl,rfl⟩:=e
 unfold OwnG at h1 h4
 unfold Sh.Own at h2 h3
 simp only[List.length_map,List.length_range,List.map_map]at h1 h2 h3 h4
 obtain⟨g1,k1,F1,e1,b1,l1,r1,f1⟩:=dS h1 hn
 obtain⟨g2,k2,F2,e2,b2,l2,r2,f2⟩:=dS h2 hn
 obtain⟨g3,k3,F3,e3,b3,l3,r3,f3⟩:=dS h3 hn
 obtain⟨g4,k4,F4,e4,b4,l4,r4,f4⟩:=dS h4 hm
 injection e1 with e1 _ _
 injection e2 with e2 _ _
 injection e3 with e3 _ _
 injection e4 with e4 _ _
 subst e1 e2 e3 e4
 refine⟨g1,k1,F1,g2,k2,F2,g3,k3,F3,g4,k4,F4,⟨rfl,rfl,rfl,rfl⟩,⟨r1,r2,r3,r4⟩,⟨l1,l2,l3,l4⟩,⟨b1,b2,b3,b4⟩,⟨fun i hi=>f1 i hi,fun i hi=>f2 i hi,fun i hi=>f3 i hi,fun i hi=>f4 i hi⟩,fun q=>d1 g1 rfl ?_,fun q=>d2 g2 rfl ?_⟩
 ·rw[q];rfl
 ·rw[q];rfl
end Spl
end
end Go.Proofs.YtjheiemgfibgpaaDoor
