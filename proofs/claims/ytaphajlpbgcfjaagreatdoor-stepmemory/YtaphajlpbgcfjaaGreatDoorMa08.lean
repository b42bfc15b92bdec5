/-
  Some of the texts of this proof, one behind the other.
-/
import Derived.Deep.OwnRows
import Derived.StillTail
import Derived.BigQuiet
import Derived.Deep.QuietTactic
import Derived.Deep.AppendLies
import Derived.OwnWalk
import Derived.Test.YtaphajlpbgcfjaaGreatDoorRows
import Derived.Deep.Cut
import Derived.Deep.CutRange
import Derived.Deep.AppendSrc
import Derived.Test.YtaphajlpbgcfjaaGreatDoorMa07
set_option maxRecDepth 100000
set_option maxHeartbeats 400000000
namespace Go.Proofs.YtaphajlpbgcfjaaGreatDoor
open _root_.Go.Proofs.Tryz
section
open Tf Cu
namespace Ss
theorem Eo{x lo hi:Nat}(hx:x<18446744073709551616)(hl:lo<18446744073709551616)(hh:hi<18446744073709551616)(nl:isN lo=false)(nh:isN hi=false):btw x lo hi=true ↔ isN x=false/\(rk lo<=rk x/\rk x<=rk hi)/\x≠9223372036854775808:=by
 unfold btw
 cases n:isN x with
 | true=>
  have e1:fgt x lo=false:=by rw[fT x lo hx hl,n];rfl
  have e2:feq x lo=false:=by rw[gK x lo hx hl,n];rfl
  rw[e1,e2]
  simp
 | false=>
  rw[fge_of hx hl n nl,fle_of hx hh n nh]
  simp only[Bool.and_eq_true,decide_eq_true_eq,true_and]
theorem bS_iff{S:Nat->Nat}{i:Nat}(h:S i<18446744073709551616):bS S i=false ↔ isN (S i)=false/\(-4652218415073722368<=rk (S i)/\rk (S i)<=4652218415073722368)/\S i≠9223372036854775808:=by
 have e1:rk 13875590451928498176= -4652218415073722368:=by decide+kernel
 have e2:rk 4652218415073722368=4652218415073722368:=by decide+kernel
 unfold bS
 rw[Bool.not_eq_false',Eo h (by decide) (by decide) (by decide+kernel) (by decide+kernel),e1,e2]
theorem bB_iff{B:Nat->Nat}{i:Nat}(h:B i<18446744073709551616):bB B i=false ↔ isN (B i)=false/\(-4697254411347427328<=rk (B i)/\rk (B i)<=4697254411347427328)/\B i≠9223372036854775808:=by
 have e1:rk 13920626448202203136= -4697254411347427328:=by decide+kernel
 have e2:rk 4697254411347427328=4697254411347427328:=by decide+kernel
 unfold bB
 rw[Bool.not_eq_false',Eo h (by decide) (by decide) (by decide+kernel) (by decide+kernel),e1,e2]
theorem bS_cn{S:Nat->Nat}{i:Nat}(h:S i<18446744073709551616)(k:bS S i=false):cnF (S i):=by
 have:=(bS_iff h).1 k
 exact⟨h,this.1,this.2.2⟩
section
variable {n r:Nat}
end
end Ss
end
section
open Go.RowKit Go.Deep
theorem kG{v:World}{g n:Nat}{z:Value}{T:TypeId}(h:v.heap[g]? =some (Obj.cells (madeCells #[z] n) T)):v.rowIs g T n (fun _=>z):=by
 have e:=World.rowIs_made v z n T
 have l:=heap_alloc_new v (Obj.cells (madeCells #[z] n) T)
 obtain⟨c,h1,h2⟩:=e
 rw[l]at h1
 exact⟨c,h.trans h1,h2⟩
theorem row6{w:World}{g:Nat}{a b c d e f x y z p q r:Value}{T:TypeId}(h:w.heap[g]? =some (.cells #[a,b,c,d,e,f] T)):
  ((((((w.setCell ⟨g,0,none⟩ x).setCell ⟨g,1,none⟩ y).setCell ⟨g,2,none⟩ z).setCell ⟨g,3,none⟩ p).setCell ⟨g,4,none⟩ q).setCell ⟨g,5,none⟩ r).heap[g]? =some (.cells #[x,y,z,p,q,r] T):=by
 have h1:=aM (v:=x) (k:=0) h
 have h2:=aM (v:=y) (k:=1) h1
 have h3:=aM (v:=z) (k:=2) h2
 have h4:=aM (v:=p) (k:=3) h3
 have h5:=aM (v:=q) (k:=4) h4
 have h6:=aM (v:=r) (k:=5) h5
 simpa using h6
theorem bH{v:World}{b k g:Nat}{x:Value}(h:g≠b):(v.setCell ⟨b,k,none⟩ x).heap[g]? =v.heap[g]? :=blk_setCell_other _ _ _ _ h
end
section
open Go.RowKit
def backB(md:Region.Mode)(ops:Array Oper)(n:Nat):Bool:=
 (List.range n).all fun i=>match ops[i]? with
  | some o=>o.after.all (fun e=> !Region.binds md e||decide (e.on<i))&&(match o.guard with | none=>true | some (j,_)=>decide (j<n))
  | none=>true
def finA(m n:Nat):Array Bool:=Array.replicate n true++Array.replicate (m - n) false
theorem iR{md:Region.Mode}{ops:Array Oper}{n:Nat}(h:backB md ops n=true){i:Nat}{o:Oper}(hi:i<n)(ho:ops[i]? =some o):
  (∀e ∈ o.after,Region.binds md e=true->e.on<i)/\(∀j b,o.guard=some (j,b)->j<n):=by
 have a:=List.all_eq_true.1 h i (List.mem_range.2 hi)
 simp only[ho,Bool.and_eq_true]at a
 refine⟨fun e he hb=> ?_,fun j b hg=> ?_⟩
 ·have:=Array.all_eq_true_iff_forall_mem.1 a.1 e he
  simpa [hb]using this
 ·have:=a.2
  rw[hg]at this
  simpa using this
theorem nG{l:Array Bool}{i:Nat}(h:i<l.size)(d d':Bool):l.getD i d=l.getD i d':=by simp[h]
theorem jD{P:Program}{md:Region.Mode}{ops:Array Oper}{Q:Exit->Act->World->Prop}: ∀(g k:Nat) (listed:Array Bool) (a:Act) (w:World),wpAny P md ops Q g listed a w->wpAny P md ops Q (g+k) listed a w
 | 0,0,_,_,_,h=>h
 | 0,k+1,listed,a,w,h=>by
  rw[Nat.zero_add]
  exact⟨fun _=>h.2,fun i hi=>by rw[h.1]at hi;cases hi⟩
 | g+1,k,listed,a,w,h=>by
  rw[show g+1+k=(g+k)+1 by omega]
  exact⟨h.1,fun i hi=>wpOp_mono (fun a' w' h'=>jD g k _ a' w' h') (h.2 i hi)⟩
section
variable {P:Program} {md:Region.Mode} {ops hd:Array Oper} {C:World->Prop} {n:Nat}
theorem fE(hhd: ∀i,i<n->hd[i]? =ops[i]?)(hb:backB md ops n=true){listed lh:Array Bool}(hl:lh.size=n)(hls:n<=listed.size)(he: ∀i,i<n->lh.getD i true=listed.getD i true){i:Nat}(hi:i<n):
  i ∈ Region.ready md hd lh ↔ i ∈ Region.ready md ops listed:=by
 rw[mem_ready,mem_ready,he i hi,hhd i hi]
 refine and_congr Iff.rfl (exists_congr fun o=>and_congr_right fun ho=>forall_congr' fun e=>forall_congr' fun hm=>forall_congr' fun hbd=> ?_)
 have lt:=(iR hb hi ho).1 e hm hbd
 rw[nG (d:=false) (d':=true) (by omega),nG (l:=listed) (d:=false) (d':=true) (by omega),he _ (by omega)]
theorem eD(hsz:n<=ops.size)(hb:backB md ops n=true){listed:Array Bool}(hls:n<=listed.size):
  (∀i,i<n->listed.getD i true=true)\/ ∃i,i<n/\i ∈ Region.ready md ops listed:=by
 have key: ∀k,k<=n->(∀i,i<k->listed.getD i true=true)\/ ∃i,i<n/\i ∈ Region.ready md ops listed:=by
  intro k
  induction k with
  | zero=>exact fun _=>.inl (fun i hi=>by omega)
  | succ k ih=>
   intro hk
   rcases ih (by omega)with h | h
   ·cases c:listed.getD k true
    ·right
     refine⟨k,by omega,mem_ready.2 ⟨c,ops[k]'(by omega),by simp,fun e he hbd=> ?_⟩⟩
     have lt:=(iR hb (i:=k) (o:=ops[k]'(by omega)) (by omega) (by simp)).1 e he hbd
     rw[nG (d:=false) (d':=true) (by omega)]
     exact h _ lt
    ·left
     intro i hi
     by_cases e:i=k
     ·rw[e];exact c
     ·exact h i (by omega)
   ·exact .inr h
 exact key n (Nat.le_refl _)
theorem qOp_head(hhd: ∀i,i<n->hd[i]? =ops[i]?)(hb:backB md ops n=true){i:Nat}(hi:i<n){K:Act->Prop}{a:Act}(h:qOp P hd C i K a):qOp P ops C i K a:=by
 unfold qOp at*
 rw[hhd i hi]at h
 cases ho:ops[i]? with
 | none=>rw[ho]at h;exact h
 | some o=>
  rw[ho]at h
  have e:Region.wanted o (yielded hd a.tmps)=Region.wanted o (yielded ops a.tmps):=by
   unfold Region.wanted
   cases hg:o.guard with
   | none=>rfl
   | some jb=>
    obtain⟨j,b⟩:=jb
    have lt:=(iR hb hi ho).2 j b hg
    show(yielded hd a.tmps j==some b)=(yielded ops a.tmps j==some b)
    unfold yielded
    rw[hhd j lt]
  simp only[e]at h
  exact h
theorem oM{listed:Array Bool}(hn:n<ops.size)(inv:HeadInv md ops n listed)(h: ∀i,i<n->listed.getD i true=true):listed=finA ops.size n:=by
 have s:=inv.size
 unfold finA
 refine Array.ext (by simp;omega) fun i h1 h2=> ?_
 by_cases c:i<n
 ·have:=h i c
  rw[Array.getElem_append_left (by simpa using c)]
  simp[h1]at this
  simpa using this
 ·have:=inv.tail i (by omega) (by omega)
  rw[Array.getElem_append_right (by simp;omega)]
  simp[h1]at this
  simpa using this
theorem sB{g:Nat}{Q1:Act->Prop}{Q':Exit->Act->World->Prop}(hhd: ∀i,i<n->hd[i]? =ops[i]?)(hsz:hd.size=n)(hn:n<ops.size)(hb:backB md ops n=true)(hs:Region.sinkB md ops n=true)(hc:Region.chainB md ops n=true)
  (hL: ∀a w,C w->Q1 a->wpAny P md ops Q' g (finA ops.size n) a w):
  ∀(fuel:Nat) (listed lh:Array Bool) (a:Act) (w:World),C w->HeadInv md ops n listed->lh.size=n->(∀i,i<n->lh.getD i true=listed.getD i true)->
   wpAnyQ P md hd C Q1 fuel lh a->wpAny P md ops Q' (fuel+g) listed a w:=by
 intro fuel
 induction fuel with
 | zero=>
  intro listed lh a w hC inv hl he h
  have hls:n<=listed.size:=by rw[inv.size];omega
  rcases eD (by omega) hb hls with all | ⟨i,hi,hr⟩
  ·rw[Nat.zero_add,oM hn inv all]
   exact hL a w hC h.2
  ·have:=(fE hhd hb hl hls he hi).2 hr
   rw[h.1]at this
   cases this
 | succ fuel ih=>
  intro listed lh a w hC inv hl he h
  have hls:n<=listed.size:=by rw[inv.size];omega
  rcases eD (by omega) hb hls with all | ⟨i0,hi0,hr0⟩
  ·have no:Region.ready md hd lh=[]:=by
    rw[List.eq_nil_iff_forall_not_mem]
    intro i hi
    obtain⟨u,o,ho,_⟩:=mem_ready.1 hi
    have lt:i<n:=by rw[<- hsz];exact(Array.getElem?_eq_some_iff.1 ho).1
    rw[he i lt,all i lt]at u
    cases u
   rw[Nat.add_comm (fuel+1) g,oM hn inv all]
   exact jD g (fuel+1) _ a w (hL a w hC (h.1 no))
  ·rw[show fuel+1+g=(fuel+g)+1 by omega]
   refine⟨fun h0=>(by rw[h0]at hr0;cases hr0),fun i hi=> ?_⟩
   have lt:i<n:=by
    by_cases c:i<n
    ·exact c
    ·exact absurd hi (tail_waits hs hc hn inv _ i0 rfl hi0 (mem_ready.1 hr0).1 i (by omega))
   have hq:=qOp_head hhd hb lt (h.2 i ((fE hhd hb hl hls he lt).2 hi))
   refine wpOp_of_qOp hC (fun a' w' hC' h'=>ih _ _ a' w' hC' (inv.set hi lt) (by simp[hl]) (fun j hj=> ?_) h') hq
   by_cases e:i=j
   ·subst e
    simp[hl,lt,show i<listed.size by omega]
   ·rw[getD_set_ne true e,getD_set_ne true e,he j hj]
end
def tailB(ops:Array Oper)(n:Nat):Bool:=
 decide (n<ops.size)&&backB .any ops n&&Region.sinkB .any ops n&&Region.chainB .any ops n&&Region.seqB .any ops (ops.size - n) n (finA ops.size n)
theorem cM{P:Program}{id:Nat}{Q:Exit->Act->World->Prop}{a:Act}{w:World}{l:List Oper}{U:Type}(n:Nat)(F:U->World)(hm:P.follows .mixedOrders=true)(hB:Region.lexB .any (l.take n).toArray=true)(hT:tailB l.toArray n=true)
  (hC: ∃u,w.drew=F u)
  (h:wpQuiet P (l.take n).toArray (fun w'=> ∃u,w'=F u) (fun a'=> ∀w',(∃u,w'=F u)->wpList P l.toArray Q (l.drop n) a' w') (l.take n) a):(Code.region id l.toArray true).wp P Q a w:=by
 simp only[tailB,Bool.and_eq_true,decide_eq_true_eq]at hT
 obtain⟨⟨⟨⟨hn,hb⟩,hs⟩,hc⟩,hq⟩:=hT
 have hn':n<l.length:=by simpa using hn
 have htl:(l.take n).toArray.size=n:=by simp;omega
 have hdl:(l.drop n).length=l.toArray.size - n:=by simp
 refine wp_region_any hm ?_
 simp only[Region.lexB,Bool.and_eq_true]at hB
 have H:=wpAnyQ_lex (P:=P) (C:=fun w'=> ∃u,w'=F u) (md:=.any) hB.1 (l.take n) 0 (Array.replicate (l.take n).toArray.size false) a (by simp) (by simpa using hB.2) h
 have inv0:HeadInv .any l.toArray n (Array.replicate l.toArray.size false):=
  ⟨by simp,fun j oj _ hl=>(by rw[getD_replicate_false]at hl;cases hl),fun t _ ht=>getD_in (by simpa using ht) (getD_replicate_false _ _)⟩
 have:=sB (P:=P) (Q':=Q) (g:=l.toArray.size - n) (hd:=(l.take n).toArray) (ops:=l.toArray) (fun i hi=>by simp[hi]) htl hn hb hs hc
  (fun a' w' hC' h'=>by
   have:=wpAny_of_seq (P:=P) (md:=.any) (ops:=l.toArray) (Q':=Q) (l.drop n) n (finA l.toArray.size n) a' w' (fun j=>by simp) (by rw[hdl];exact hq) (h' w' hC')
   rwa [hdl]at this)
  (l.take n).length _ _ a w.drew hC inv0 (by simpa using htl) (fun i hi=>by
   rw[getD_in (listed:=Array.replicate l.toArray.size false) (by simp;omega) (getD_replicate_false _ _)]
   exact getD_in (by rw[Array.size_replicate];omega) (getD_replicate_false _ _)) H
 have e:(l.take n).length+(l.toArray.size - n)=l.toArray.size:=by simp;omega
 rw[e]at this
 exact this
end
section
open Go.RowKit
def Fresh(W:World)(S:Nat->Option Nat)(b:Nat):Prop:=W.heap.size<=b/\ ∀i c,S i=some c->c≠b
def putL(S:Nat->Option Nat)(i b:Nat):Nat->Option Nat:=fun k=>if k=i then some b else S k
def Has(W:World)(sp:Nat->Option (Obj × (Nat->Value)))(S:Nat->Option Nat)(w:World):Prop:=Ab W w/\ ∀i b,S i=some b->W.heap.size<=b/\ ∃o mk,sp i=some (o,mk)/\w.heap[b]? =some o
section
variable {P:Program} {ops:Array Oper} {md:Region.Mode} {W:World} {sp:Nat->Option (Obj × (Nat->Value))}
def YF(P:Program)(ops:Array Oper)(W:World)(o:Oper)(v:Value)(a:Act):Prop:=
 (Region.wanted o (yielded ops a.tmps)=true/\ ∀w,Ab W w->(execOp a.eval o).run P w=.ok (.value v) w)\/(Region.wanted o (yielded ops a.tmps)=false/\v=undef)
def LF(P:Program)(ops:Array Oper)(W:World)(o:Oper)(ob:Obj)(mk:Nat->Value)(a:Act):Prop:=
 Region.wanted o (yielded ops a.tmps)=true/\ ∀w,Ab W w->(execOp a.eval o).run P w=.ok (.value (mk w.heap.size)) (w.alloc ob)
def fOp(P:Program)(ops:Array Oper)(W:World)(sp:Nat->Option (Obj × (Nat->Value)))(i:Nat)(K:Act->(Nat->Option Nat)->Prop)(a:Act)(S:Nat->Option Nat):Prop:=
 match ops[i]? with
 | none=>K a S
 | some o=>
  match sp i with
  | none=> ∃v,YF P ops W o v a/\K (a.put o.dst v) S
  | some (ob,mk)=>LF P ops W o ob mk a/\ ∀b,Fresh W S b->K (a.put o.dst (mk b)) (putL S i b)
def wpAnyF(P:Program)(md:Region.Mode)(ops:Array Oper)(W:World)(sp:Nat->Option (Obj × (Nat->Value)))(Q:Act->(Nat->Option Nat)->Prop):Nat->Array Bool->Act->(Nat->Option Nat)->Prop
 | 0,listed,a,S=>Region.ready md ops listed=[]/\Q a S
 | fuel+1,listed,a,S=>
  (Region.ready md ops listed=[]->Q a S)/\
  ∀i ∈ Region.ready md ops listed,fOp P ops W sp i (wpAnyF P md ops W sp Q fuel (listed.setIfInBounds i true)) a S
def Tidy(W:World)(listed:Array Bool)(S:Nat->Option Nat):Prop:=(∀k,listed.getD k true=false->S k=none)/\ ∃n,W.heap.size<=n/\ ∀i c,S i=some c->c<n
def wpFree(P:Program)(ops:Array Oper)(W:World)(sp:Nat->Option (Obj × (Nat->Value)))(Q:Act->(Nat->Option Nat)->Prop):List Oper->Nat->Act->(Nat->Option Nat)->Prop
 | [],_,a,S=>Q a S
 | o :: rest,k,a,S=>
  match sp k with
  | none=> ∃v,YF P ops W o v a/\wpFree P ops W sp Q rest (k+1) (a.put o.dst v) S
  | some (ob,mk)=>LF P ops W o ob mk a/\ ∀b,Fresh W S b->wpFree P ops W sp Q rest (k+1) (a.put o.dst (mk b)) (putL S k b)
end
end
section
open Go.RowKit
def plainB:Op->Bool
 | .move _ | .assign _ | .pick _ _ _ | .build _ _ | .load _ _ | .binOp _ _ _ _ _ | .unOp _ _ _ | .convert _ _ _ | .slice _ _ _ _ _ | .fieldAddr _ _ _ | .field _ _ _ | .indexAddr _ _ _ | .index _ _ _ | .extract _ _=>true
 | _=>false
theorem val_only{P:Program}{s:Sem Value}{w w':World}{n:Next}(e:(do pure (Next.value (<- s)):Sem Next).run P w=.ok n w'): ∃x,n=.value x:=by
 rw[Sem.run_bind]at e
 cases h:s.run P w with
 | ok x w1=>
  rw[h]at e
  simp at e
  exact⟨x,e.1.symm⟩
 | halt x w1=>rw[h]at e;simp at e
theorem FV{P:Program}{α:Type}{s:Sem α}{f:α->Value}{w w':World}{n:Next}(e:((s.run P w).andThen fun x w=>Result.ok (Next.value (f x)) w)=.ok n w'): ∃x,n=.value x:=by
 cases h:s.run P w with
 | ok x w1=>
  rw[h]at e
  simp at e
  exact⟨f x,e.1.symm⟩
 | halt x w1=>rw[h]at e;simp at e
theorem pR{P:Program}{ρ:Operand->Value}{o:Oper}{w w':World}{n:Next}(h:plainB o.op=true)(e:(execOp ρ o).run P w=.ok n w'): ∃x,n=.value x:=by
 unfold execOp at e
 cases ho:o.op<;>rw[ho]at h e<;>first | (simp[plainB]at h;done) | exact val_only e | (simp at e;first | exact⟨_,e.1.symm⟩ | exact FV (f:=fun b=>if b=true then ρ _ else ρ _) e)
section
variable {P:Program} {ops:Array Oper} {W:World} {sp:Nat->Option (Obj × (Nat->Value))} {Q:Act->(Nat->Option Nat)->Prop} {o:Oper} {rest:List Oper} {k:Nat} {a:Act} {S:Nat->Option Nat}
theorem run_val{s:Sem Value}{w w':World}{x:Value}(h:s.run P w=.ok x w'):(do pure (Next.value (<- s)):Sem Next).run P w=.ok (.value x) w':=by
 rw[Sem.run_bind,h]
 rfl
theorem nH{t:TypeId}{x y:Operand}{vx vy:Value}{mk:Nat->Value}{ob:Obj}(ho:o.op=.makeSlice t x y)(hx:a.eval x=vx)(hy:a.eval y=vy)(M: ∀w:World,(Instr.makeSlice t vx vy).run P w=.ok (mk w.heap.size) (w.alloc ob)):
  ∀w,Ab W w->(execOp a.eval o).run P w=.ok (.value (mk w.heap.size)) (w.alloc ob):=by
 intro w _
 unfold execOp
 rw[ho]
 simp only[hx,hy]
 exact run_val (M w)
theorem FY{t:TypeId}{mk:Nat->Value}{ob:Obj}(ho:o.op=.alloc t)(M: ∀w:World,(Instr.alloc t true (.tuple #[])).run P w=.ok (mk w.heap.size) (w.alloc ob)):
  ∀w,Ab W w->(execOp a.eval o).run P w=.ok (.value (mk w.heap.size)) (w.alloc ob):=by
 intro w _
 unfold execOp
 rw[ho]
 exact run_val (M w)
end
end
section
open Go.RowKit Tf Cu Go.Deep
attribute [local go_sem] aK aL aP aQ aR aV aW aF
def LkR(w:World)(gd g4 b1 b2 b3 b4:Nat)(f:Nat->Int)(v:World):Prop:=
 Ab w v/\v.heap[g4]? =some (.cells #[.slice (some ⟨b1,0,none⟩) 6 6,.slice (some ⟨b2,0,none⟩) 6 6,.slice (some ⟨b3,0,none⟩) 6 6,.slice (some ⟨b4,0,none⟩) 12 12,.int .i64 0,.int .i64 0] 29)/\v.heap[gd]? =some (.cells #[.slice none 0 0,.slice none 0 0,.slice none 0 0,.slice none 0 0,.int .i64 0,.int .i64 0] 29)/\v.rowIs b1 22 6 (fun _=>.float .f64 0)/\v.rowIs b2 2 6 (fun i=>.int .i64 (f i))/\v.rowIs b3 2 6 (fun _=>.int .i64 0)/\v.rowIs b4 22 12 (fun _=>.float .f64 0)
end
section
open Go.RowKit Go.Deep
theorem rowIs.fl{w:World}{b n:Nat}{f:Nat->Nat}(h:w.rowIs b 22 n (fun i=>.float .f64 (f i)))(hf: ∀i,i<n->f i<18446744073709551616):IsFl w (some ⟨b,0,none⟩) n f:=fun k hk=>⟨hf k hk,b,0,rfl,h.lt,by rw[Nat.zero_add];exact h.cell hk⟩
end
section
open Tf Ieee
namespace Fc
theorem kH{y l:Nat}(hl:isN l=true):dvB y l=quiet:=by
 refine gO ?_
 rw[bT]at hl
 have ei:=cF
 show((double.read y).quotient 54 (double.read l)).map double.write=none
 rw[eC double l fZ (by rw[dD];omega)]
 cases double.read y<;>rfl
theorem eF{x:Nat}(hx:x<18446744073709551616)(h:mg x=0):x=0\/x=9223372036854775808:=by
 unfold mg at h
 omega
theorem dv0{b:Nat}(hb:b<18446744073709551616):dvB 0 b=0\/dvB 0 b=quiet:=by
 by_cases n:isN b=true
 ·exact .inr (kH n)
 ·have n2: ¬9218868437227405312<mg b:=by rw[bT]at n;exact n
  by_cases z:mg b=0
  ·rcases eF hb z with rfl | rfl
   ·exact .inr (by decide+kernel)
   ·exact .inr (by decide+kernel)
  ·by_cases i:mg b=9218868437227405312
   ·have:b=9218868437227405312\/b=18442240474082181120:=by unfold mg at i;omega
    rcases this with rfl | rfl
    ·exact .inl (by decide+kernel)
    ·exact .inl (by decide+kernel)
   ·exact .inl (dvB_z b z (by omega) 0 (by decide))
theorem oO{a b:Nat}(ha:a<18446744073709551616)(hb:b<18446744073709551616):dvB (canonB a) b=dvB a b:=by
 rcases bM ha with⟨h,e⟩ | ⟨h,e⟩ | ⟨h,k,e⟩
 ·rw[e,wA (y:=quiet) (by decide),wA h]
 ·rw[e]
  rcases eF ha h with rfl | rfl
  ·rfl
  ·have k:=dvB_cn (a:=0) (b:=b) (by omega)
   rw[show negB 0=9223372036854775808 by decide]at k
   rw[k]
   rcases dv0 hb with q | q<;>rw[q]<;>decide
 ·rw[e]
def puB(G dt ll lr gap:Nat):Nat:=dvB (mlB (mlB G dt) (sbB lr ll)) gap
def u1B(G dt u ll lr gap:Nat):Nat:=sbB u (puB G dt ll lr gap)
def hB(dl dr:Nat):Nat:=mlB 4602678819172646912 (addB dl dr)
def drB(D dt u1 h:Nat):Nat:=addB 4607182418800017408 (dvB (mlB (mlB D dt) (mg u1)) h)
def cuB(x:Nat):Nat:=if fgt x 4652218415073722368=true then 4652218415073722368 else if flt x 13875590451928498176=true then 13875590451928498176 else if isN x=true then 0 else canonB x
def spB(G dt D u ll lr dl dr gap:Nat):Nat:=if fgt (hB dl dr) 0=true then cuB (dvB (u1B G dt u ll lr gap) (drB D dt (u1B G dt u ll lr gap) (hB dl dr)))else 0
def opB(wl wr:Int)(ll lr bl br:Nat):Bool:= !((!decide (0<wl)&& !decide (0<wr))||(!decide (0<wl)&&(flt lr bl||feq lr bl))||(!decide (0<wr)&&(flt ll br||feq ll br)))
section
variable {G dt D u ll lr dl dr gap:Nat}
theorem puB_lt(G dt ll lr gap:Nat):puB G dt ll lr gap<18446744073709551616:=rO _ _
theorem u1B_lt(hu:u<18446744073709551616):u1B G dt u ll lr gap<18446744073709551616:=cH hu (puB_lt _ _ _ _ _)
theorem hB_lt(h1:dl<18446744073709551616)(h2:dr<18446744073709551616):hB dl dr<18446744073709551616:=dL (by omega) (iZ _ _ h1 h2)
theorem wT(x:Nat):mg x<18446744073709551616:=by unfold mg;omega
theorem drB_lt(D dt u1 h:Nat):drB D dt u1 h<18446744073709551616:=iZ _ _ (by omega) (rO _ _)
theorem qM:rk 4652218415073722368=4652218415073722368/\rk 13875590451928498176= -4652218415073722368/\isN 4652218415073722368=false/\isN 13875590451928498176=false:=by decide
theorem uU{x:Nat}(hx:x<18446744073709551616):(isN x=true/\cuB x=0)\/(isN x=false/\4652218415073722368<rk x/\cuB x=4652218415073722368)\/(isN x=false/\rk x< -4652218415073722368/\cuB x=13875590451928498176)\/(isN x=false/\ -4652218415073722368<=rk x/\rk x<=4652218415073722368/\cuB x=canonB x):=by
 have g:=fT x 4652218415073722368 hx (by omega)
 have l:=lN x 13875590451928498176 hx (by omega)
 rw[qM.1,qM.2.2.1]at g
 rw[qM.2.1,qM.2.2.2]at l
 unfold cuB
 cases n:isN x with
 | true=>
  rw[n]at g l
  simp at g l
  left
  rw[g,l]
  simp
 | false=>
  rw[n]at g l
  simp at g l
  right
  by_cases c1:4652218415073722368<rk x
  ·left
   have:fgt x 4652218415073722368=true:=by rw[g];exact decide_eq_true c1
   rw[this]
   exact⟨rfl,c1,by simp⟩
  ·have e1:fgt x 4652218415073722368=false:=by rw[g];exact decide_eq_false c1
   right
   by_cases c2:rk x< -4652218415073722368
   ·left
    have e2:flt x 13875590451928498176=true:=by rw[l];exact decide_eq_true c2
    rw[e1,e2]
    exact⟨rfl,c2,by simp⟩
   ·right
    have e2:flt x 13875590451928498176=false:=by rw[l];exact decide_eq_false c2
    rw[e1,e2]
    exact⟨rfl,by omega,by omega,by simp⟩
theorem spB_in(G dt D u ll lr dl dr gap:Nat):spB G dt D u ll lr dl dr gap<18446744073709551616/\canonB (spB G dt D u ll lr dl dr gap)=spB G dt D u ll lr dl dr gap/\isN (spB G dt D u ll lr dl dr gap)=false/\ -4652218415073722368<=rk (spB G dt D u ll lr dl dr gap)/\rk (spB G dt D u ll lr dl dr gap)<=4652218415073722368:=by
 unfold spB
 by_cases q:fgt (hB dl dr) 0=true
 ·rw[if_pos q]
  have hx:=rO (u1B G dt u ll lr gap) (drB D dt (u1B G dt u ll lr gap) (hB dl dr))
  have hc:=oC (u1B G dt u ll lr gap) (drB D dt (u1B G dt u ll lr gap) (hB dl dr))
  generalize dvB (u1B G dt u ll lr gap) (drB D dt (u1B G dt u ll lr gap) (hB dl dr))=x at*
  rcases uU hx with⟨_,e⟩ | ⟨_,_,e⟩ | ⟨_,_,e⟩ | ⟨n,h1,h2,e⟩<;>rw[e]
  ·decide
  ·decide
  ·decide
  ·rw[hc]
   exact⟨hx,hc,n,h1,h2⟩
 ·rw[if_neg q]
  decide
end
end Fc
end
section
open Tf Ieee
def Zn(x:Nat):Prop:=isN x=true\/mg x=0
theorem Zn.mul{x b:Nat}(hx:x<18446744073709551616)(hb:b<18446744073709551616)(h:Zn x):Zn (mlB x b):=by
 rcases h with h | h
 ·left;rw[dT (fF x b (.inl h))];decide
 ·rcases three b with k | k | k
  ·right
   have e:mv (mg x)*mv (mg b)=0:=by rw[h,iX,Nat.zero_mul]
   have r:rung 52 1074 0=0:=by decide+kernel
   rw[dR (yB x b hx hb (by omega) k),e,r,Nat.zero_min]
   cases(ng x ^^ ng b)<;>decide
  ·left;rw[dT (by rw[rG x b hx hb (by omega) k,if_pos h])];decide
  ·left;rw[dT (fF x b (.inr k))];decide
theorem clamp_zn{x:Nat}(hx:x<18446744073709551616)(h:Zn x):clampB x 4503599627370496=0:=by
 rcases h with h | h
 ·unfold clampB;rw[if_pos h]
 ·have:x=0\/x=9223372036854775808:=by unfold mg at h;omega
  rcases this with rfl | rfl<;>decide+kernel
theorem FZ{x:Nat}(hx:x<18446744073709551616): -4503599627370496<=clampB x 4503599627370496/\clampB x 4503599627370496<=4503599627370496:=by
 have m:clampM 4503599627370496=4503599627370496:=by decide
 cases n:isN x
 ·rw[BM x _ hx n,m]
  repeat' split
  all_goals omega
 ·unfold clampB;rw[if_pos n];omega
def qt4(u d l t:Nat):Nat:=mlB (mlB (mlB (mlB u d) l) t) 4742290407621132288
def qnB(u d l t:Nat):Int:=clampB (qt4 u d l t) 4503599627370496
section
variable {u d l t:Nat} (hu:u<18446744073709551616) (hd:d<18446744073709551616) (hl:l<18446744073709551616) (ht:t<18446744073709551616)
theorem qt_lt(hu:u<18446744073709551616)(hd:d<18446744073709551616)(hl:l<18446744073709551616)(ht:t<18446744073709551616):mlB u d<18446744073709551616/\mlB (mlB u d) l<18446744073709551616/\mlB (mlB (mlB u d) l) t<18446744073709551616/\qt4 u d l t<18446744073709551616:=by
 have a:=dL hu hd
 have b:=dL a hl
 have c:=dL b ht
 exact⟨a,b,c,dL c (by decide)⟩
theorem qn_in(hu:u<18446744073709551616)(hd:d<18446744073709551616)(hl:l<18446744073709551616)(ht:t<18446744073709551616): -4503599627370496<=qnB u d l t/\qnB u d l t<=4503599627370496:=FZ (qt_lt hu hd hl ht).2.2.2
theorem qn_z1(hu:u<18446744073709551616)(hd:d<18446744073709551616)(hl:l<18446744073709551616)(ht:t<18446744073709551616)(z:mg u=0):qnB u d l t=0:=by
 have a:=qt_lt hu hd hl ht
 have h0:Zn u:=.inr z
 exact clamp_zn a.2.2.2 ((((h0.mul hu hd).mul a.1 hl).mul a.2.1 ht).mul a.2.2.1 (by decide))
end
end
section
open Tf Ieee
namespace Fc
def Zq(x:Nat):Prop:=x=0\/x=quiet
theorem dv_zq{z b:Nat}(hz:z<18446744073709551616)(hb:b<18446744073709551616)(h:Zn z):Zq (dvB z b):=by
 rcases h with h | h
 ·exact .inr (wA h)
 ·have e:=oO (a:=z) (b:=b) hz hb
  have c:canonB z=0:=by
   rcases eF hz h with rfl | rfl<;>decide
  rw[c]at e
  rw[<- e]
  exact dv0 hb
theorem sb_self{a:Nat}(ha:a<18446744073709551616)(f:mg a<9218868437227405312):sbB a a=0:=by
 unfold sbB
 rw[eM a (negB a) ha (cG ha) f (by rw[kU ha];exact f),negB_sv ha,show sv a+ -sv a=0 by omega]
 decide
theorem zq_zn{x:Nat}(h:Zq x):Zn x:=by
 rcases h with rfl | rfl
 ·exact .inr (by decide)
 ·exact .inl (by decide)
theorem sb_zq{u p:Nat}(hu:u<18446744073709551616)(z:mg u=0)(h:Zq p):Zq (sbB u p):=by
 rcases h with rfl | rfl
 ·rw[<- iM hu (by omega)]
  have c:canonB u=0:=by rcases eF hu z with rfl | rfl<;>decide
  rw[c]
  exact .inl (by decide)
 ·rcases eF hu z with rfl | rfl
  ·exact .inr (by decide)
  ·exact .inr (by decide)
theorem cu_zq{x:Nat}(h:Zq x):cuB x=0:=by rcases h with rfl | rfl<;>decide
theorem spB_rest(G dt D dl dr gap:Nat){u a:Nat}(hG:G<18446744073709551616)(ht:dt<18446744073709551616)(hg:gap<18446744073709551616)(hu:u<18446744073709551616)(z:mg u=0)(ha:a<18446744073709551616)(f:mg a<9218868437227405312):spB G dt D u a a dl dr gap=0:=by
 unfold spB
 split
 ·have hk:=dL hG ht
  have z1:Zn (mlB (mlB G dt) (sbB a a)):=by
   rw[sb_self ha f,rK]
   exact Zn.mul (by omega) hk (.inr (by decide))
  have z2:Zq (puB G dt a a gap):=dv_zq (dL hk (cH ha ha)) hg z1
  have z3:Zq (u1B G dt u a a gap):=sb_zq hu z z2
  exact cu_zq (dv_zq (u1B_lt hu) (drB_lt _ _ _ _) (zq_zn z3))
 ·rfl
end Fc
end
section
open Go.RowKit Tf Cu Go.Deep
def OwnG(B:Nat)(v:Value)(l:List Nat)(w:World):Prop:=w.ownsRow B 22 1 v l.length (l.map (Value.float .f64))
theorem OwnG.fl{B:Nat}{v:Value}{l:List Nat}{w:World}(h:OwnG B v l w)(hl: ∀x ∈ l,x<18446744073709551616): ∃a0 cap,v=.slice a0 l.length cap/\IsFl w a0 l.length (fun j=>l.getD j 0):=by
 rcases h.2 with⟨rfl,h0⟩ | ⟨g,cap,cur,rfl,hb,hg,h1,h2,h3,h4⟩
 ·exact⟨none,0,by rw[h0],fun k hk=>by omega⟩
 ·refine⟨some ⟨g,0,none⟩,cap,rfl,fun k hk=> ?_⟩
  have hx:l.getD k 0=l[k]:=by simp[List.getD,hk]
  refine⟨by dsimp only;rw[hx];exact hl _ (List.getElem_mem _),g,0,rfl,lt_of_block hg,?_⟩
  have e:=h.cells (g:=g) rfl k (.float .f64 (l.getD k 0)) (by simp[hk])
  rw[fC]at e
  exact e
theorem OwnG.new(w:World)(B:Nat)(hB:B<=w.heap.size):OwnG B (.slice (some ⟨w.heap.size,0,none⟩) 0 0) [] (w.alloc (.cells #[] 22)):=
 ⟨by simp,.inr ⟨w.heap.size,0,#[],rfl,hB,heap_alloc_new _ _,Nat.le_refl _,by unfold maxLen;omega,by simp,by simp⟩⟩
theorem OwnG.to{B:Nat}{v:Value}{l:List Nat}{w w':World}(h:OwnG B v l w)(hb:Ab w w'):OwnG B v l w':=by
 refine⟨h.1,?_⟩
 rcases h.2 with h0 | ⟨g,cap,cur,e,hb',hg,h1,h2,h3,h4⟩
 ·exact .inl h0
 ·exact .inr ⟨g,cap,cur,e,hb',hb.heap hg,h1,h2,h3,h4⟩
theorem info_g: ∃i,Tryz.prog.info? 22=some i/\i.zero=some (.float .f64 0)/\i.size=1/\i.bytes=8:=by
 have h:=kZ
 cases e:Tryz.prog.info? 22 with
 | none=>rw[e]at h;cases h
 | some i=>
  rw[e]at h
  simp at h
  exact⟨i,rfl,h.1,h.2.1,h.2.2⟩
end
section
open Go.RowKit Tf Cu Go.Deep
namespace Fc
def eL(n i:Nat):Nat:=edT n i/4
def eR(n i:Nat):Nat:=mt n (edT n i)/4
def gpE(n i:Nat):Nat:=GpC n (edT n i/4) (edT n i%4)
def lvC(n:Nat)(B:Nat->Nat)(W:Nat->Int)(c:Nat):Nat:=lvl (B c) (W c) (arC n c)
def dpC(n:Nat)(W:Nat->Int)(c:Nat):Nat:=dpB (W c) (arC n c)
def opE(n:Nat)(B:Nat->Nat)(W:Nat->Int)(i:Nat):Bool:=opB (W (eL n i)) (W (eR n i)) (lvC n B W (eL n i)) (lvC n B W (eR n i)) (B (eL n i)) (B (eR n i))
def spE(n G dt D:Nat)(B:Nat->Nat)(W:Nat->Int)(Sp:Nat->Nat)(i:Nat):Nat:=if opE n B W i=true then spB G dt D (Sp i) (lvC n B W (eL n i)) (lvC n B W (eR n i)) (dpC n W (eL n i)) (dpC n W (eR n i)) (gpE n i)else 0
def fit4(n lb lw lt ls:Nat):Prop:=lb=6*n*n/\lw=6*n*n/\lt=6*n*n/\ls=12*n*n
def has4(n lb lw lt ls:Nat)(e:Int):Prop:=fit4 n lb lw lt ls/\inR e (12*n*n:Nat)=true
def SpeedC:Prop:= ∀(n gb:Nat) (sd:Int) (dt gr dr:Nat) (lim:Int) (rv:Bool) (pr:Option Addr) (lr cr:Nat) (pb:Option Addr) (lb cb:Nat) (B:Nat->Nat) (pw:Option Addr) (lw cw:Nat) (Wt:Nat->Int) (pt:Option Addr) (lt ct:Nat) (ps:Option Addr) (ls cs:Nat) (Sp:Nat->Nat) (sky st e:Int) (w:World),(1<=n/\n<=32)->GridOf n gb w->IsFl w pb lb B->IsIn w pw lw Wt->IsFl w ps ls Sp->(dt<18446744073709551616/\gr<18446744073709551616/\dr<18446744073709551616)->(-9223372036854775808<=e/\e<=9223372036854775807)->
 (has4 n lb lw lt ls e->Calls prog 59 #[.pointer (some ⟨gb,0,none⟩),.agg #[.int .i64 sd,.float .f64 dt,.float .f64 gr,.float .f64 dr,.int .i64 lim,.bool rv,.slice pr lr cr],.agg #[.slice pb lb cb,.slice pw lw cw,.slice pt lt ct,.slice ps ls cs,.int .i64 sky,.int .i64 st],.int .i64 e] w fun x w'=>x=.returned (.float .f64 (spE n gr dt dr B Wt Sp e.toNat))/\Below w.heap.size w w')/\
 (¬has4 n lb lw lt ls e->Calls prog 59 #[.pointer (some ⟨gb,0,none⟩),.agg #[.int .i64 sd,.float .f64 dt,.float .f64 gr,.float .f64 dr,.int .i64 lim,.bool rv,.slice pr lr cr],.agg #[.slice pb lb cb,.slice pw lw cw,.slice pt lt ct,.slice ps ls cs,.int .i64 sky,.int .i64 st],.int .i64 e] w fun x w'=>x=.returned (.float .f64 0)/\Below w.heap.size w w')
def SpeedsC:Prop:= ∀(n gb:Nat) (sd:Int) (dt gr dr:Nat) (lim:Int) (rv:Bool) (pr:Option Addr) (lr cr:Nat) (pb:Option Addr) (lb cb:Nat) (B:Nat->Nat) (pw:Option Addr) (lw cw:Nat) (Wt:Nat->Int) (pt:Option Addr) (lt ct:Nat) (ps:Option Addr) (ls cs:Nat) (Sp:Nat->Nat) (sky st:Int) (w:World),(1<=n/\n<=32)->GridOf n gb w->IsFl w pb lb B->IsIn w pw lw Wt->IsFl w ps ls Sp->(dt<18446744073709551616/\gr<18446744073709551616/\dr<18446744073709551616)->
 (fit4 n lb lw lt ls->Calls prog 18 #[.pointer (some ⟨gb,0,none⟩),.agg #[.int .i64 sd,.float .f64 dt,.float .f64 gr,.float .f64 dr,.int .i64 lim,.bool rv,.slice pr lr cr],.agg #[.slice pb lb cb,.slice pw lw cw,.slice pt lt ct,.slice ps ls cs,.int .i64 sky,.int .i64 st]] w fun e w'=> ∃v,e=.returned (.tuple #[v,.int .i64 0])/\Below w.heap.size w w'/\OwnG w.heap.size v ((List.range (12*n*n)).map (spE n gr dt dr B Wt Sp)) w')/\
 (¬fit4 n lb lw lt ls->Calls prog 18 #[.pointer (some ⟨gb,0,none⟩),.agg #[.int .i64 sd,.float .f64 dt,.float .f64 gr,.float .f64 dr,.int .i64 lim,.bool rv,.slice pr lr cr],.agg #[.slice pb lb cb,.slice pw lw cw,.slice pt lt ct,.slice ps ls cs,.int .i64 sky,.int .i64 st]] w fun e w'=>e=.returned (.tuple #[.slice none 0 0,.int .i64 1])/\Below w.heap.size w w')
theorem oQ(n G dt D:Nat)(B:Nat->Nat)(W:Nat->Int)(Sp:Nat->Nat)(i:Nat):spE n G dt D B W Sp i<18446744073709551616/\canonB (spE n G dt D B W Sp i)=spE n G dt D B W Sp i/\isN (spE n G dt D B W Sp i)=false/\ -4652218415073722368<=rk (spE n G dt D B W Sp i)/\rk (spE n G dt D B W Sp i)<=4652218415073722368:=by
 unfold spE
 split
 ·exact spB_in _ _ _ _ _ _ _ _ _
 ·exact⟨by decide,by decide,by decide,by decide,by decide⟩
end Fc
end
section
open Go.RowKit Tf Cu Go.Deep
attribute [local go_sem] aK aL aP aQ aR aV aW aF
def lnE(n i:Nat):Nat:=LnC n (edT n i/4) (edT n i%4)
def flB(n:Nat)(lim:Int)(B:Nat->Nat)(W:Nat->Int)(Sp:Nat->Nat)(dt i:Nat):Int:=qnB (Sp i) (rdAll n lim (6*n*n) (6*n*n) B W (i:Nat) (Sp i)) (lnE n i) dt
def QuantaC:Prop:= ∀(u d l t:Nat) (w:World),u<18446744073709551616->d<18446744073709551616->l<18446744073709551616->t<18446744073709551616->
 Calls prog 62 #[.float .f64 u,.float .f64 d,.float .f64 l,.float .f64 t] w fun e w'=>e=.returned (.int .i64 (qnB u d l t))/\Below w.heap.size w w'
def AllC:Prop:= ∀(n gb:Nat) (sd:Int) (dt gr dr:Nat) (lim:Int) (rv:Bool) (pr:Option Addr) (lr cr:Nat) (pb:Option Addr) (lb cb:Nat) (B:Nat->Nat) (pw:Option Addr) (lw cw:Nat) (Wt:Nat->Int) (pt:Option Addr) (lt ct:Nat) (ps:Option Addr) (ls cs:Nat) (Sp:Nat->Nat) (sky st:Int) (w:World),(1<=n/\n<=32)->GridOf n gb w->IsFl w pb lb B->IsIn w pw lw Wt->IsFl w ps ls Sp->dt<18446744073709551616->
 ((lb=6*n*n/\lw=6*n*n/\lt=6*n*n/\ls=12*n*n)->Calls prog 19 #[.pointer (some ⟨gb,0,none⟩),.agg #[.int .i64 sd,.float .f64 dt,.float .f64 gr,.float .f64 dr,.int .i64 lim,.bool rv,.slice pr lr cr],.agg #[.slice pb lb cb,.slice pw lw cw,.slice pt lt ct,.slice ps ls cs,.int .i64 sky,.int .i64 st]] w fun e w'=> ∃b,e=.returned (.tuple #[.slice (some ⟨b,0,none⟩) (12*n*n) (12*n*n),.int .i64 0])/\Below w.heap.size w w'/\w'.rowIs b 2 (12*n*n) (fun i=>.int .i64 (flB n lim B Wt Sp dt i))/\w.heap.size<=b)/\
 (¬(lb=6*n*n/\lw=6*n*n/\lt=6*n*n/\ls=12*n*n)->Calls prog 19 #[.pointer (some ⟨gb,0,none⟩),.agg #[.int .i64 sd,.float .f64 dt,.float .f64 gr,.float .f64 dr,.int .i64 lim,.bool rv,.slice pr lr cr],.agg #[.slice pb lb cb,.slice pw lw cw,.slice pt lt ct,.slice ps ls cs,.int .i64 sky,.int .i64 st]] w fun e w'=>e=.returned (.tuple #[.slice none 0 0,.int .i64 1])/\Below w.heap.size w w')
theorem lU{n:Nat}{k:Int}{lb lw:Nat}{B:Nat->Nat}{W:Nat->Int}(hn:1<=n)(hB: ∀i,i<lb->B i<18446744073709551616)(hW: ∀i,i<lw->W i<=9223372036854775807)(e:Int)(u:Nat):rdAll n k lb lw B W e u<18446744073709551616/\ng (rdAll n k lb lw B W e u)=false:=by
 have z:(0:Nat)<18446744073709551616/\ng 0=false:=by decide
 unfold rdAll
 split
 ·rename_i c
  obtain⟨c1,rfl,rfl⟩:=c
  obtain⟨E,rfl,hE⟩:=qL c1
  rw[Int.toNat_natCast]
  obtain⟨t1,t2,t3⟩:=bK hn hE
  generalize edT n E=t at*
  have key: ∀t,t<24*n*n->sdD n k (arC n) B W t<18446744073709551616/\ng (sdD n k (arC n) B W t)=false:=fun t ht=>by
   have cU:=aZ ht
   have cD:=aZ (cV hn ht)
   have wU:=hW _ cU
   have bU:=hB _ cU
   have bD:=hB _ cD
   unfold sdD ovC rcR
   have ml:=wP (rcV_lt (k:=k) (hb:=dpB (W (bkC n t)) (arC n (bkC n t))) (hd:=dpB (W (mt n t/4)) (arC n (mt n t/4))) (show dpB (W (t/4)) (arC n (t/4))<9218868437227405312 by have:=nF wU (cS n (t/4)).2;omega)) (show rcG (lvl (B (t/4)) (W (t/4)) (arC n (t/4))) (B (t/4)) (B (mt n t/4))<18446744073709551616 by
    unfold rcG sbB
    exact iZ _ _ (rW bU wU (cS n _).2) (cG (Em bU bD)))
   refine⟨pos0_lt ml,?_⟩
   unfold pos0
   split
   ·rename_i q
    rw[dE ml]at q
    exact bR (by have:=(cA.1 q).2;omega)
   ·decide
  unfold rdT
  split
  ·exact key _ t1
  ·split
   ·exact key _ (cV hn t1)
   ·exact z
 ·exact z
theorem rt_lt64(x:Nat):rtB x<18446744073709551616:=by
 cases h:Ieee.double.sqrt x with
 | none=>rw[jZ h];decide
 | some r=>rw[jY h];exact dS (sqrt_lt h)
theorem sC(n i:Nat):lnE n i<18446744073709551616:=by unfold lnE LnC gp lnB;exact rt_lt64 _
end
section
open Cu
namespace Sh
def og(n:Nat)(F:Nat->Int)(t:Nat):Int:=if 0<F (eE n t)*eS n t then F (eE n t)*eS n t else 0
def oS(n:Nat)(F:Nat->Int)(c:Nat):Int:=sumN (fun s=>og n F (4*c+s)) 4
def ct(n:Nat)(W F:Nat->Int)(t:Nat):Int:=lS (W (t/4)) (oS n F (t/4)) (og n F t)
def allF(n:Nat)(W F:Nat->Int)(e:Nat):Int:=ct n W F (edT n e) - ct n W F (mt n (edT n e))
theorem uV{n t:Nat}(hn:1<=n)(h:t<24*n*n):eE n (mt n t)=eE n t:=by
 unfold eE
 rw[gJ hn h,gW hn h]
 cases isL n t<;>simp
theorem eS_mt{n t:Nat}(hn:1<=n)(h:t<24*n*n):eS n (mt n t)= -eS n t:=by
 unfold eS
 rw[gJ hn h]
 cases isL n t<;>simp
theorem zF(n:Nat)(F:Nat->Int)(t:Nat):0<=og n F t:=by unfold og;split<;>omega
theorem oT{n:Nat}{F:Nat->Int}{t:Nat}(hn:1<=n)(h:t<24*n*n):og n F t=0\/og n F (mt n t)=0:=by
 unfold og
 rw[uV hn h,eS_mt hn h,Int.mul_neg]
 by_cases c:0<F (eE n t)*eS n t
 ·right;rw[if_neg (by omega)]
 ·left;rw[if_neg c]
theorem nJ{n:Nat}{F:Nat->Int}{t:Nat}{m:Int}(hm:0<=m)(h: -m<=F (eE n t)/\F (eE n t)<=m):og n F t<=m:=by
 unfold og eS
 generalize F (eE n t)=x at*
 cases isL n t
 ·simp only[Bool.false_eq_true,if_false]
  split<;>omega
 ·simp only[if_true]
  split<;>omega
theorem oS_le{n:Nat}{F:Nat->Int}{c:Nat}{m:Int}(hm:0<=m)(h: ∀s,s<4-> -m<=F (eE n (4*c+s))/\F (eE n (4*c+s))<=m):oS n F c<=4*m:=by
 have h0:=nJ (n:=n) hm (h 0 (by omega))
 have h1:=nJ (n:=n) hm (h 1 (by omega))
 have h2:=nJ (n:=n) hm (h 2 (by omega))
 have h3:=nJ (n:=n) hm (h 3 (by omega))
 show 0+og n F (4*c+0)+og n F (4*c+1)+og n F (4*c+2)+og n F (4*c+3)<=4*m
 omega
theorem sD{n:Nat}{W F:Nat->Int}{t:Nat}(hW:0<=W (t/4))(h:og n F t<=9223372036854775807):0<=ct n W F t/\ct n W F t<=og n F t:=Ef hW (zF n F t) h
theorem jE{n:Nat}{W F:Nat->Int}{t:Nat}(hW:0<=W (t/4))(h:og n F t=0):ct n W F t=0:=by unfold ct;rw[h];exact FM hW
theorem oU{n t:Nat}(hn:1<=n)(h:t<24*n*n):edT n (eE n t)=if isL n t=true then t else mt n t:=by
 unfold eE
 by_cases c:isL n t=true
 ·rw[if_pos c,if_pos c,lP hn h c]
 ·have c':isL n (mt n t)=true:=by rw[gJ hn h];simpa using c
  rw[if_neg c,if_neg c,lP hn (cV hn h) c']
theorem F5{n:Nat}{W F:Nat->Int}{t:Nat}(hn:1<=n)(h:t<24*n*n):allF n W F (eE n t)*eS n t=ct n W F t - ct n W F (mt n t):=by
 unfold allF
 rw[oU hn h]
 unfold eS
 by_cases c:isL n t=true
 ·rw[if_pos c,if_pos c];omega
 ·rw[if_neg c,if_neg c,gW hn h];omega
theorem BQ{n:Nat}{W F:Nat->Int}{t:Nat}{m:Int}(hn:1<=n)(h:t<24*n*n)(hW: ∀c,c<6*n*n->0<=W c)(hm:0<=m/\m<=9223372036854775807)(hF: ∀e,e<12*n*n-> -m<=F e/\F e<=m):
  (if 0<allF n W F (eE n t)*eS n t then allF n W F (eE n t)*eS n t else 0)=ct n W F t:=by
 have c1:=sD (hW _ (aZ h)) (show og n F t<=9223372036854775807 by have:=nJ (n:=n) hm.1 (hF _ (eV hn h));omega)
 have h2:=cV hn h
 have c2:=sD (hW _ (aZ h2)) (show og n F (mt n t)<=9223372036854775807 by have:=nJ (n:=n) hm.1 (hF _ (eV hn h2));omega)
 rw[F5 hn h]
 rcases oT (F:=F) hn h with o | o
 ·have z:=jE (hW _ (aZ h)) o
  rw[if_neg (by omega)]
  omega
 ·have z:=jE (hW _ (aZ h2)) o
  by_cases q:0<ct n W F t
  ·rw[if_pos (by omega)];omega
  ·rw[if_neg (by omega)];omega
theorem F7{n:Nat}{W F:Nat->Int}{e:Nat}{m:Int}(hn:1<=n)(he:e<12*n*n)(hW: ∀c,c<6*n*n->0<=W c)(hm:0<=m/\m<=9223372036854775807)(hF: ∀e,e<12*n*n-> -m<=F e/\F e<=m):
  (0<=F e->0<=allF n W F e/\allF n W F e<=F e)/\(F e<=0->F e<=allF n W F e/\allF n W F e<=0):=by
 obtain⟨t1,t2,t3⟩:=bK hn he
 have m1:=cV hn t1
 have eE1:eE n (edT n e)=e:=by unfold eE;rw[if_pos t2,t3]
 have eS1:eS n (edT n e)=1:=by unfold eS;rw[if_pos t2]
 have o1:og n F (edT n e)=if 0<F e then F e else 0:=by unfold og;rw[eE1,eS1,Int.mul_one]
 have o2:og n F (mt n (edT n e))=if 0< -F e then -F e else 0:=by unfold og;rw[uV hn t1,eS_mt hn t1,eE1,eS1,Int.mul_neg,Int.mul_one]
 have hFe:=hF e he
 have c1:=sD (n:=n) (F:=F) (hW _ (aZ t1)) (by rw[o1];split<;>omega)
 have c2:=sD (n:=n) (F:=F) (hW _ (aZ m1)) (by rw[o2];split<;>omega)
 unfold allF
 rw[o1]at c1
 rw[o2]at c2
 generalize ct n W F (edT n e)=a at*
 generalize ct n W F (mt n (edT n e))=b at*
 constructor
 ·intro h
  rw[if_neg (by omega)]at c2
  split at c1<;>omega
 ·intro h
  rw[if_neg (by omega)]at c1
  split at c2<;>omega
theorem BR{n:Nat}{W F:Nat->Int}{c:Nat}{m:Int}(hc:c<6*n*n)(hn:1<=n)(hW:0<=W c)(hm:0<=m/\m<=2305843009213693951)(hF: ∀e,e<12*n*n-> -m<=F e/\F e<=m):
  (oS n F c<=W c->sumN (fun s=>ct n W F (4*c+s)) 4=oS n F c)/\(W c<oS n F c->sumN (fun s=>ct n W F (4*c+s)) 4<=W c/\W c - 4<sumN (fun s=>ct n W F (4*c+s)) 4):=by
 have b:=oS_le (n:=n) (F:=F) (c:=c) hm.1 (fun s hs=>hF _ (eV hn (eU hc hs)))
 have k:=cut_sum (f:=fun s=>og n F (4*c+s)) (W:=W c) (n:=4) hW (fun _ _=>zF _ _ _) (by have:sumN (fun s=>og n F (4*c+s)) 4=oS n F c:=rfl;omega)
 have e:sumN (fun s=>ct n W F (4*c+s)) 4=sumN (fun i=>lS (W c) (sumN (fun s=>og n F (4*c+s)) 4) (og n F (4*c+i))) 4:=by
  refine cQ (fun s hs=> ?_)
  unfold ct
  rw[(lZ hs).1]
  rfl
 rw[e]
 exact k
end Sh
end
section
open Cu
namespace Ms
open Sh
def tk(n:Nat)(F:Nat->Int)(t:Nat):Int:=eS n t*F (eE n t)
def mv(n:Nat)(W F:Nat->Int)(c:Nat):Int:=W c - sumN (fun s=>tk n F (4*c+s)) 4
theorem zG(f g:Nat->Int): ∀n,sumN (fun i=>f i+g i) n=sumN f n+sumN g n
 | 0=>rfl
 | n+1=>by
  show sumN (fun i=>f i+g i) n+(f n+g n)=sumN f n+f n+(sumN g n+g n)
  rw[zG f g n]
  omega
theorem zH(f g:Nat->Int): ∀n,sumN (fun i=>f i - g i) n=sumN f n - sumN g n
 | 0=>rfl
 | n+1=>by
  show sumN (fun i=>f i - g i) n+(f n - g n)=sumN f n+f n - (sumN g n+g n)
  rw[zH f g n]
  omega
theorem sE(f:Nat->Int): ∀n,sumN (fun i=> -f i) n= -sumN f n
 | 0=>rfl
 | n+1=>by
  show sumN (fun i=> -f i) n+ -f n= -(sumN f n+f n)
  rw[sE f n]
  omega
theorem uW(h:Nat->Int): ∀m,sumN (fun c=>sumN (fun s=>h (4*c+s)) 4) m=sumN h (4*m)
 | 0=>rfl
 | m+1=>by
  show sumN (fun c=>sumN (fun s=>h (4*c+s)) 4) m+(0+h (4*m+0)+h (4*m+1)+h (4*m+2)+h (4*m+3))=sumN h (4*m+4)
  rw[uW h m]
  show _=sumN h (4*m)+h (4*m)+h (4*m+1)+h (4*m+2)+h (4*m+3)
  rw[Nat.add_zero]
  omega
theorem oV(h:Nat->Int): ∀n,sumN h n=((List.range n).map h).sum
 | 0=>rfl
 | n+1=>by
  show sumN h n+h n=_
  rw[oV h n,List.range_succ,List.map_append,List.sum_append]
  simp
theorem perm_sum{l m:List Int}(h:l.Perm m):l.sum=m.sum:=by
 induction h with
 | nil=>rfl
 | cons x _ ih=>rw[List.sum_cons,List.sum_cons,ih]
 | swap x y l=>rw[List.sum_cons,List.sum_cons,List.sum_cons,List.sum_cons];omega
 | trans _ _ ih1 ih2=>rw[ih1,ih2]
theorem tk_mt{n:Nat}{F:Nat->Int}{t:Nat}(hn:1<=n)(h:t<24*n*n):tk n F (mt n t)= -tk n F t:=by
 unfold tk
 rw[uV hn h,eS_mt hn h,Int.neg_mul]
theorem tk_all{n:Nat}(F:Nat->Int)(hn:1<=n):sumN (tk n F) (24*n*n)=0:=by
 have h1:=perm_sum ((Du hn).map (tk n F))
 rw[List.map_map]at h1
 have h2:(List.range (24*n*n)).map (tk n F ∘ mt n)=(List.range (24*n*n)).map (fun t=> -tk n F t):=List.map_congr_left fun t ht=>tk_mt hn (List.mem_range.1 ht)
 rw[h2,<- oV,<- oV,sE]at h1
 omega
theorem kept{n:Nat}(W F:Nat->Int)(hn:1<=n):sumN (mv n W F) (6*n*n)=sumN W (6*n*n):=by
 have e:sumN (mv n W F) (6*n*n)=sumN W (6*n*n) - sumN (fun c=>sumN (fun s=>tk n F (4*c+s)) 4) (6*n*n):=zH W _ _
 have f:=uW (tk n F) (6*n*n)
 rw[show 4*(6*n*n)=24*n*n by rw[Nat.mul_assoc,Nat.mul_assoc];omega,tk_all F hn]at f
 rw[e,f]
 omega
theorem tk_add(n:Nat)(F G:Nat->Int)(t:Nat):tk n (fun i=>F i+G i) t=tk n F t+tk n G t:=Int.mul_add _ _ _
theorem tk_neg(n:Nat)(F:Nat->Int)(t:Nat):tk n (fun i=> -F i) t= -tk n F t:=Int.mul_neg _ _
theorem mv_two(n:Nat)(W F G:Nat->Int)(c:Nat):mv n (mv n W F) G c=mv n W (fun i=>F i+G i) c:=by
 unfold mv
 have e:sumN (fun s=>tk n (fun i=>F i+G i) (4*c+s)) 4=sumN (fun s=>tk n F (4*c+s)+tk n G (4*c+s)) 4:=cQ fun s _=>tk_add n F G _
 rw[e,zG]
 omega
theorem mv_back(n:Nat)(W F:Nat->Int)(c:Nat):mv n (mv n W F) (fun i=> -F i) c=W c:=by
 unfold mv
 have e:sumN (fun s=>tk n (fun i=> -F i) (4*c+s)) 4=sumN (fun s=> -tk n F (4*c+s)) 4:=cQ fun s _=>tk_neg n F _
 rw[e,sE]
 omega
theorem tk_congr{n:Nat}{F G:Nat->Int}{t:Nat}(hn:1<=n)(h:t<24*n*n)(e: ∀i,i<12*n*n->F i=G i):tk n F t=tk n G t:=by
 unfold tk
 rw[e _ (eV hn h)]
theorem nK{n:Nat}{W V F G:Nat->Int}{c:Nat}(hn:1<=n)(hc:c<6*n*n)(e:W c=V c)(f: ∀i,i<12*n*n->F i=G i):mv n W F c=mv n V G c:=by
 unfold mv
 rw[e,cQ (fun s hs=>tk_congr hn (eU hc hs) f)]
theorem eE_iff{n k t:Nat}(hn:1<=n)(hk:k<12*n*n)(h:t<24*n*n):eE n t=k ↔ t=edT n k\/t=mt n (edT n k):=by
 obtain⟨t1,t2,t3⟩:=bK hn hk
 constructor
 ·intro e
  unfold eE at e
  by_cases l:isL n t=true
  ·rw[if_pos l]at e
   left
   rw[<- e,lP hn h l]
  ·rw[if_neg l]at e
   right
   have l2:isL n (mt n t)=true:=by rw[gJ hn h];simpa using l
   have:=lP hn (cV hn h) l2
   rw[e]at this
   rw[this,gW hn h]
 ·rintro(rfl | rfl)
  ·unfold eE;rw[if_pos t2,t3]
  ·rw[uV hn t1];unfold eE;rw[if_pos t2,t3]
theorem Er{n k:Nat}(hn:1<=n)(hk:k<12*n*n):edT n k/4<mt n (edT n k)/4:=by
 obtain⟨t1,t2,t3⟩:=bK hn hk
 have h:=(fQ hn t1).1
 rw[h]
 exact of_decide_eq_true t2
def oneF(k:Nat)(q:Int)(i:Nat):Int:=if i=k then q else 0
theorem tk_one{n k t:Nat}{q:Int}(hn:1<=n)(hk:k<12*n*n)(h:t<24*n*n):tk n (oneF k q) t=if t=edT n k then q else if t=mt n (edT n k)then -q else 0:=by
 obtain⟨t1,t2,t3⟩:=bK hn hk
 have i:=eE_iff hn hk h
 unfold tk oneF
 by_cases a:t=edT n k
 ·rw[if_pos (i.2 (Or.inl a)),if_pos a]
  unfold eS
  rw[a,if_pos t2]
  omega
 ·by_cases b:t=mt n (edT n k)
  ·rw[if_pos (i.2 (Or.inr b)),if_neg a,if_pos b,b,eS_mt hn t1]
   unfold eS
   rw[if_pos t2]
   omega
  ·rw[if_neg (fun e=>(i.1 e).elim a b),if_neg a,if_neg b]
   omega
theorem mv_one{n k c:Nat}{q:Int}(W:Nat->Int)(hn:1<=n)(hk:k<12*n*n)(hc:c<6*n*n):mv n W (oneF k q) c=if c=edT n k/4 then W c - q else if c=mt n (edT n k)/4 then W c+q else W c:=by
 have ne:=Er hn hk
 have e:sumN (fun s=>tk n (oneF k q) (4*c+s)) 4=sumN (fun s=>if 4*c+s=edT n k then q else if 4*c+s=mt n (edT n k)then -q else 0) 4:=cQ fun s hs=>tk_one hn hk (eU hc hs)
 unfold mv
 rw[e]
 generalize edT n k=a at*
 generalize mt n a=b at*
 show W c - (0+(if 4*c+0=a then q else if 4*c+0=b then -q else 0)+(if 4*c+1=a then q else if 4*c+1=b then -q else 0)+(if 4*c+2=a then q else if 4*c+2=b then -q else 0)+(if 4*c+3=a then q else if 4*c+3=b then -q else 0))=_
 by_cases ca:c=a/4
 ·rw[if_pos ca]
  have h4:a%4=0\/a%4=1\/a%4=2\/a%4=3:=by omega
  rcases h4 with h | h | h | h
  ·rw[if_pos (show 4*c+0=a by omega),if_neg (show¬4*c+1=a by omega),if_neg (show¬4*c+1=b by omega),if_neg (show¬4*c+2=a by omega),if_neg (show¬4*c+2=b by omega),if_neg (show¬4*c+3=a by omega),if_neg (show¬4*c+3=b by omega)];omega
  ·rw[if_neg (show¬4*c+0=a by omega),if_neg (show¬4*c+0=b by omega),if_pos (show 4*c+1=a by omega),if_neg (show¬4*c+2=a by omega),if_neg (show¬4*c+2=b by omega),if_neg (show¬4*c+3=a by omega),if_neg (show¬4*c+3=b by omega)];omega
  ·rw[if_neg (show¬4*c+0=a by omega),if_neg (show¬4*c+0=b by omega),if_neg (show¬4*c+1=a by omega),if_neg (show¬4*c+1=b by omega),if_pos (show 4*c+2=a by omega),if_neg (show¬4*c+3=a by omega),if_neg (show¬4*c+3=b by omega)];omega
  ·rw[if_neg (show¬4*c+0=a by omega),if_neg (show¬4*c+0=b by omega),if_neg (show¬4*c+1=a by omega),if_neg (show¬4*c+1=b by omega),if_neg (show¬4*c+2=a by omega),if_neg (show¬4*c+2=b by omega),if_pos (show 4*c+3=a by omega)];omega
 ·rw[if_neg ca]
  rw[if_neg (show¬4*c+0=a by omega),if_neg (show¬4*c+1=a by omega),if_neg (show¬4*c+2=a by omega),if_neg (show¬4*c+3=a by omega)]
  by_cases cb:c=b/4
  ·rw[if_pos cb]
   have h4:b%4=0\/b%4=1\/b%4=2\/b%4=3:=by omega
   rcases h4 with h | h | h | h
   ·rw[if_pos (show 4*c+0=b by omega),if_neg (show¬4*c+1=b by omega),if_neg (show¬4*c+2=b by omega),if_neg (show¬4*c+3=b by omega)];omega
   ·rw[if_neg (show¬4*c+0=b by omega),if_pos (show 4*c+1=b by omega),if_neg (show¬4*c+2=b by omega),if_neg (show¬4*c+3=b by omega)];omega
   ·rw[if_neg (show¬4*c+0=b by omega),if_neg (show¬4*c+1=b by omega),if_pos (show 4*c+2=b by omega),if_neg (show¬4*c+3=b by omega)];omega
   ·rw[if_neg (show¬4*c+0=b by omega),if_neg (show¬4*c+1=b by omega),if_neg (show¬4*c+2=b by omega),if_pos (show 4*c+3=b by omega)];omega
  ·rw[if_neg cb,if_neg (show¬4*c+0=b by omega),if_neg (show¬4*c+1=b by omega),if_neg (show¬4*c+2=b by omega),if_neg (show¬4*c+3=b by omega)];omega
end Ms
end
section
open Tf Cu
namespace St
open Ss Fc
theorem rt_lt(x:Nat):rtB x<18446744073709551616:=by
 cases h:Ieee.double.sqrt x with
 | none=>rw[jZ h];decide
 | some r=>rw[jY h];exact dS (sqrt_lt h)
theorem GpC_lt(n c s:Nat):GpC n c s<18446744073709551616:=by unfold GpC gp lnB;exact rt_lt _
section
variable {n r:Nat}
def okB(n:Nat)(B:Nat->Nat)(W:Nat->Int)(S:Nat->Nat):Prop:=(∀c,c<6*n*n->B c<18446744073709551616/\W c<=9223372036854775807)/\ ∀e,e<12*n*n->cnF (S e)
theorem lv_lt{B:Nat->Nat}{W:Nat->Int}{c:Nat}(h:B c<18446744073709551616/\W c<=9223372036854775807):lvC n B W c<18446744073709551616:=rW h.1 h.2 (cS n _).2
theorem spE_cn{G dt D:Nat}{B:Nat->Nat}{W:Nat->Int}{S:Nat->Nat}(e:Nat):cnF (spE n G dt D B W S e):=by
 obtain⟨h1,h2,h3,-⟩:=oQ n G dt D B W S e
 exact⟨h1,h3,fun q=>by rw[q]at h2;revert h2;decide+kernel⟩
theorem og_tk(F:Nat->Int)(t:Nat):Sh.og n F t=if 0<Ms.tk n F t then Ms.tk n F t else 0:=by
 unfold Sh.og Ms.tk
 rw[Int.mul_comm]
end
end St
end
section
open Go.RowKit Go.Deep
namespace Sh
def IsI(w:World)(a0:Option Addr)(len:Nat)(xs:Nat->Int):Prop:= ∀k,k<len->(-9223372036854775808<=xs k/\xs k<=9223372036854775807)/\ ∃b o,a0=some ⟨b,o,none⟩/\b<w.heap.size/\w.cell? ⟨b,o+k,none⟩=some (.int .i64 (xs k))
theorem IsI.below{w w':World}{a0:Option Addr}{len:Nat}{xs:Nat->Int}(h:IsI w a0 len xs)(hb:Below w.heap.size w w'):IsI w' a0 len xs:=by
 intro k hk
 obtain⟨h1,b,o,h2,h3,h4⟩:=h k hk
 exact⟨h1,b,o,h2,Nat.lt_of_lt_of_le h3 hb.size,(Below.cell hb h3).trans h4⟩
theorem IsI.some0{w:World}{a0:Option Addr}{len:Nat}{xs:Nat->Int}(h:IsI w a0 len xs)(h0:0<len): ∃b o,a0=some ⟨b,o,none⟩:=by
 obtain⟨_,b,o,h2,_⟩:=h 0 h0
 exact⟨b,o,h2⟩
theorem IsI.at0{w:World}{b o len k:Nat}{xs:Nat->Int}(h:IsI w (some ⟨b,o,none⟩) len xs)(hk:k<len):(-9223372036854775808<=xs k/\xs k<=9223372036854775807)/\b<w.heap.size/\w.cell? ⟨b,o+k,none⟩=some (.int .i64 (xs k)):=by
 obtain⟨h1,b',o',h2,h3,h4⟩:=h k hk
 cases h2
 exact⟨h1,h3,h4⟩
theorem IsI.nil(w:World)(a0:Option Addr)(xs:Nat->Int):IsI w a0 0 xs:=fun k hk=>absurd hk (Nat.not_lt_zero k)
theorem IsI.congr{w:World}{a0:Option Addr}{len:Nat}{xs ys:Nat->Int}(h:IsI w a0 len xs)(e: ∀k,k<len->xs k=ys k):IsI w a0 len ys:=fun k hk=>by rw[<- e k hk];exact h k hk
theorem jF(b off j:Nat):(⟨b,off,none⟩:Addr).add j=⟨b,off+j,none⟩:=by unfold Addr.add;split<;>simp_all
theorem jG{w:World}{b n:Nat}{f:Nat->Int}(h:w.rowIs b 2 n (fun i=>.int .i64 (f i)))(hf: ∀i,i<n-> -9223372036854775808<=f i/\f i<=9223372036854775807):IsI w (some ⟨b,0,none⟩) n f:=fun k hk=>⟨hf k hk,b,0,rfl,h.lt,by rw[Nat.zero_add];exact h.cell hk⟩
theorem cW{w w':World}{b:Nat}{t:TypeId}{n:Nat}{f:Nat->Value}(h:w.rowIs b t n f)(a:Ab w w'):w'.rowIs b t n f:=h.of_block (Below.block a _ h.lt)
theorem dV:(Tryz.prog.info? 2).map (fun i=>(i.zero,i.size,i.bytes))=some (some (.int .i64 0),1,8):=by kernel_rfl
def Own(B:Nat)(v:Value)(l:List Int)(w:World):Prop:=w.ownsRow B 2 1 v l.length (l.map (Value.int .i64))
theorem Own.in{B:Nat}{v:Value}{l:List Int}{w:World}(h:Own B v l w)(hl: ∀x ∈ l,-9223372036854775808<=x/\x<=9223372036854775807): ∃a0 cap,v=.slice a0 l.length cap/\IsI w a0 l.length (fun j=>l.getD j 0):=by
 rcases h.2 with⟨rfl,h0⟩ | ⟨g,cap,cur,rfl,hb,hg,h1,h2,h3,h4⟩
 ·exact⟨none,0,by rw[h0],fun k hk=>by omega⟩
 ·refine⟨some ⟨g,0,none⟩,cap,rfl,fun k hk=> ?_⟩
  have hx:l.getD k 0=l[k]:=by simp[List.getD,hk]
  refine⟨by dsimp only;rw[hx];exact hl _ (List.getElem_mem _),g,0,rfl,lt_of_block hg,?_⟩
  have e:=h.cells (g:=g) rfl k (.int .i64 (l.getD k 0)) (by simp[hk])
  rw[jF]at e
  exact e
theorem Own.new(w:World)(B:Nat):Own B (.slice none 0 0) [] w:=⟨by simp,.inl ⟨rfl,rfl⟩⟩
theorem Own.to{B:Nat}{v:Value}{l:List Int}{w w':World}(h:Own B v l w)(hb:Ab w w'):Own B v l w':=by
 refine⟨h.1,?_⟩
 rcases h.2 with h0 | ⟨g,cap,cur,e,hb',hg,h1,h2,h3,h4⟩
 ·exact .inl h0
 ·exact .inr ⟨g,cap,cur,e,hb',hb.heap hg,h1,h2,h3,h4⟩
theorem wV: ∃i,Tryz.prog.info? 2=some i/\i.zero=some (.int .i64 0)/\i.size=1/\i.bytes=8:=by
 have h:=dV
 cases e:Tryz.prog.info? 2 with
 | none=>rw[e]at h;cases h
 | some i=>
  rw[e]at h
  simp at h
  exact⟨i,rfl,h.1,h.2.1,h.2.2⟩
theorem qN(w:World)(B:Nat)(hB:B<=w.heap.size):Own B (.slice (some ⟨w.heap.size,0,none⟩) 0 0) [] (w.alloc (.cells #[] 2)):=
 ⟨by simp,.inr ⟨w.heap.size,0,#[],rfl,hB,heap_alloc_new _ _,Nat.le_refl _,by unfold maxLen;omega,by simp,by simp⟩⟩
theorem BU{ops:Array Oper}{rest:List Oper}{o:Oper}{a:Act}{w:World}{Q:Exit->Act->World->Prop}(hgd:o.guard=none)(s x:Operand)
  (ho:o.op=.call {callee:=.builtin .append,args:= #[s,x],argTypes:= #[27,27]})
  (B:Nat) (v:Value) (l:List Int) (hs:a.eval s=v) (hown:Own B v l w)
  (ad:Addr) (m c:Nat) (news:List Int) (hx:a.eval x=.slice (some ad) m c) (hl:news.length=m) (hnews: ∀j u,(news.map (Value.int .i64))[j]? =some u->w.cell? (ad.add j)=some u)
  (hm:0<m) (hlen:l.length+m<=1048576) (hB:B<=w.heap.size) (nm:Nat) (hnm:l.length+m=nm)
  (h: ∀g cap w',Own B (.slice (some ⟨g,0,none⟩) nm cap) (l++news) w'->w.grownBy w' v.ownBlock->(v.ownBlock=some g\/g=w.heap.size)->B<=g->wpList prog ops Q rest (a.put o.dst (.slice (some ⟨g,0,none⟩) nm cap)) w'):wpList prog ops Q (o :: rest) a w:=by
 subst hnm
 obtain⟨i0,hi,hz0,hz1,hz2⟩:=wV
 refine wpList_append_lies w hgd s x _ ho B 2 i0 (.int .i64 0) 1 8 underlying27 hi hz0 hz1 hz2 rfl (by decide) v l.length (l.map (Value.int .i64)) hs hown ad m c (news.map (Value.int .i64)) hx (by simpa using hl) hnews (fun u hu=>by
  obtain⟨y,_,rfl⟩:=List.mem_map.1 hu
  rfl) hm (by unfold maxLen;omega) (by omega) hB _ rfl ?_
 intro g cap w' o1 g1 e1 _
 have hb:B<=g:=by
  rcases o1.2 with⟨q,_⟩ | ⟨g2,_,_,q,hb,_⟩
  ·cases q
  ·injection q with q1 q2 q3
   injection q1 with q4
   injection q4 with q5
   omega
 refine h g cap w' ?_ g1 e1 hb
 unfold Own
 rw[List.length_append,List.map_append,hl]
 exact o1
theorem sG{w:World}{pb:Option Addr}{L:Nat}{B:Nat->Int}(h:IsI w pb L B)(cb:Nat):Src prog 1 27 (.slice pb L cb) L ((List.range L).map fun k=>Value.int .i64 (B k)) w:=by
 have one: ∀u ∈ (List.range L).map (fun k=>Value.int .i64 (B k)),u.oneCell'=true:=fun u hu=>by
  obtain⟨k,_,rfl⟩:=List.mem_map.1 hu
  rfl
 cases pb with
 | none=>
  have:L=0:=by
   rcases Nat.eq_zero_or_pos L with h0 | h0
   ·exact h0
   ·obtain⟨_,b,o,h2,_⟩:=h 0 h0
    cases h2
  subst this
  exact Src.ofNil w underlying27 cb
 | some a=>
  refine Src.ofSlice w underlying27 a L cb _ (by simp) (fun j u hu=> ?_) one
  have hj:j<L:=by
   rcases Nat.lt_or_ge j L with h1 | h1
   ·exact h1
   ·rw[List.getElem?_eq_none (by simpa using h1)]at hu;cases hu
  obtain⟨_,b,o,h2,_,h4⟩:=h j hj
  cases h2
  simp[hj]at hu
  rw[jF,<- hu]
  exact h4
end Sh
end
section
open Go.RowKit
namespace Sh
theorem wrapu(v:Int):IntKind.u64.wrap v=v%18446744073709551616:=by rw[IntKind.wrap_u64]
theorem sH{a b m:Int}(ha:0<=a)(hb:0<=b)(ha2:a<=m)(hb2:b<=m):0<=a*b/\a*b<=m*m:=⟨Int.mul_nonneg ha hb,Int.mul_le_mul ha2 hb2 hb (by omega)⟩
end Sh
end
section
open Go.RowKit
namespace Sh
theorem zI(k:Nat):(0:Int)<2 ^ k:=Int.pow_pos (by decide)
end Sh
end
section
open Go.RowKit Go.Deep
namespace Sh
def W64(x:Int):Prop:= -9223372036854775808<=x/\x<=9223372036854775807
def PartC:Prop:= ∀(x y z:Int) (w:World),W64 x->W64 y->W64 z->Calls prog 89 #[.int .i64 x,.int .i64 y,.int .i64 z] w fun e w'=>e=.returned (.int .i64 (part x y z))/\Below w.heap.size w w'
def good(W:Int)(n:Nat)(f:Nat->Int):Prop:=0<=W/\(∀i,i<n->0<=f i)/\sumN f n<=9223372036854775807
def cutL(W:Int)(n:Nat)(f:Nat->Int):List Int:=(List.range n).map fun i=>lS W (sumN f n) (f i)
def CutC:Prop:= ∀(W:Int) (p:Option Addr) (n c:Nat) (f:Nat->Int) (w:World),W64 W->n<=65536->IsI w p n f->
 (good W n f->Calls prog 123 #[.int .i64 W,.slice p n c] w fun e w'=> ∃v,e=.returned (.tuple #[v,.int .i64 0])/\Below w.heap.size w w'/\Own w.heap.size v (cutL W n f) w')/\
 (¬good W n f->Calls prog 123 #[.int .i64 W,.slice p n c] w fun e w'=>e=.returned (.tuple #[.slice none 0 0,.int .i64 1])/\Below w.heap.size w w')
end Sh
end
section
open Go.RowKit Go.Deep Cu
namespace Sh
def fits(n lw:Nat)(W:Nat->Int)(lf:Nat)(F:Nat->Int):Prop:=lw=6*n*n/\lf=12*n*n/\(∀c,c<lw->0<=W c)/\(∀e,e<lf-> -4503599627370496<=F e/\F e<=4503599627370496)
def AllC:Prop:= ∀(n gb:Nat) (pw:Option Addr) (lw cw:Nat) (W:Nat->Int) (pf:Option Addr) (lf cf:Nat) (F:Nat->Int) (w:World),(1<=n/\n<=32)->GridOf n gb w->lw<=65536->lf<=65536->IsI w pw lw W->IsI w pf lf F->
 (fits n lw W lf F->Calls prog 20 #[.pointer (some ⟨gb,0,none⟩),.slice pw lw cw,.slice pf lf cf] w fun e w'=> ∃v,e=.returned (.tuple #[v,.int .i64 0])/\Below w.heap.size w w'/\Own w.heap.size v ((List.range (12*n*n)).map (allF n W F)) w')/\
 (¬fits n lw W lf F->Calls prog 20 #[.pointer (some ⟨gb,0,none⟩),.slice pw lw cw,.slice pf lf cf] w fun e w'=>e=.returned (.tuple #[.slice none 0 0,.int .i64 1])/\Below w.heap.size w w')
theorem allF_in{n:Nat}{W F:Nat->Int}{e:Nat}(hn:1<=n)(he:e<12*n*n)(hW: ∀c,c<6*n*n->0<=W c)(hF: ∀e,e<12*n*n-> -4503599627370496<=F e/\F e<=4503599627370496): -4503599627370496<=allF n W F e/\allF n W F e<=4503599627370496:=by
 have s:=F7 hn he hW (m:=4503599627370496) ⟨by omega,by omega⟩ hF
 have b:=hF e he
 rcases Int.le_total 0 (F e)with h | h
 ·have:=s.1 h;omega
 ·have:=s.2 h;omega
end Sh
end
section
namespace Tr
open Sh
def tkA(h w:Int)(f:Nat->Int)(k:Nat):Int:=Sh.part h (sumN f (k+1)) w - Sh.part h (sumN f k) w
def okA(w:Int)(f:Nat->Int)(n:Nat):Prop:=(∀i,i<n->0<=f i)/\sumN f n<=w
theorem wW(h w:Int):Sh.part h 0 w=0:=by
 unfold Sh.part
 split
 ·rfl
 ·rw[Int.mul_zero,Int.zero_ediv]
  rfl
theorem tk_dry(h:Int)(f:Nat->Int)(k:Nat):tkA h 0 f k=0:=by
 have e: ∀y,Sh.part h y 0=0:=fun y=>by unfold Sh.part;rw[if_pos (by omega)]
 unfold tkA
 rw[e,e]
 rfl
section
variable {h w:Int} {f:Nat->Int} {n:Nat}
theorem okA.sum(o:okA w f n){k:Nat}(hk:k<=n):0<=sumN f k/\sumN f k<=w:=by
 have a:=eI o.1 hk
 have b:=fH (f:=f) (n:=k) (fun i hi=>o.1 i (by omega))
 have:=o.2
 exact⟨b,by omega⟩
theorem wX(h w:Int)(f:Nat->Int): ∀n,sumN (tkA h w f) n=Sh.part h (sumN f n) w
 | 0=>(wW h w).symm
 | n+1=>by
  show sumN (tkA h w f) n+tkA h w f n=_
  rw[wX h w f n]
  unfold tkA
  omega
theorem tk_own(h0:0<=h)(h1:h<=9223372036854775807)(o:okA w f n){k:Nat}(hk:k<n):tkA h w f k=Sh.part h (f k) w\/tkA h w f k=Sh.part h (f k) w+1:=by
 obtain⟨s0,s1⟩:=o.sum (k:=k) (by omega)
 obtain⟨t0,t1⟩:=o.sum (k:=k+1) (by omega)
 have fk:=o.1 k hk
 have st:sumN f (k+1)=sumN f k+f k:=rfl
 rcases Int.lt_or_le 0 w with hw | hw
 ·have a:=(jA h0 h1 s0 hw s1).1
  have b:=(jA h0 h1 t0 hw t1).1
  have c:=(jA h0 h1 fk hw (by omega)).1
  unfold tkA
  rw[a,b,c,st,Int.mul_add]
  have d1:=nC (a:=h*sumN f k) hw
  have d2:=nC (a:=h*f k) hw
  have d3:=nC (a:=h*sumN f k+h*f k) hw
  generalize h*sumN f k=x at*
  generalize h*f k=y at*
  generalize x/w=p at*
  generalize y/w=q at*
  generalize(x+y)/w=r at*
  have l1:w*(p+q)<=w*r+(w - 1):=by rw[Int.mul_add];omega
  have l2:w*r<=w*(p+q)+(2*w - 2):=by rw[Int.mul_add];omega
  have m1:p+q<=r:=by
   rcases Int.lt_or_le r (p+q)with g | g
   ·have:w*(r+1)<=w*(p+q):=Int.mul_le_mul_of_nonneg_left (by omega) (by omega)
    rw[Int.mul_add]at this
    omega
   ·exact g
  have m2:r<=p+q+1:=by
   rcases Int.lt_or_le (p+q+1) r with g | g
   ·have:w*(p+q+2)<=w*r:=Int.mul_le_mul_of_nonneg_left (by omega) (by omega)
    rw[Int.mul_add]at this
    omega
   ·exact g
  omega
 ·left
  have e:w=0:=by omega
  have g:f k=0:=by omega
  rw[e,g,tk_dry,wW]
theorem tk_nn(h0:0<=h)(h1:h<=9223372036854775807)(o:okA w f n){k:Nat}(hk:k<n):0<=tkA h w f k:=by
 have a:=gC h (f k) w
 rcases tk_own h0 h1 o hk with e | e<;>omega
theorem tk_zero{k:Nat}(e:f k=0):tkA h w f k=0:=by
 have st:sumN f (k+1)=sumN f k+f k:=rfl
 unfold tkA
 rw[st,e,Int.add_zero]
 omega
theorem Es(h0:0<=h)(h1:h<=9223372036854775807)(o:okA w f n):sumN (tkA h w f) n<=h/\(0<w->sumN f n=w->sumN (tkA h w f) n=h):=by
 obtain⟨s0,s1⟩:=o.sum (k:=n) (by omega)
 rw[wX]
 rcases Int.lt_or_le 0 w with hw | hw
 ·obtain⟨a,b,c⟩:=jA h0 h1 s0 hw s1
  refine⟨c,fun _ e=> ?_⟩
  rw[a,e,Int.mul_ediv_cancel _ (by omega)]
 ·have e:Sh.part h (sumN f n) w=0:=by unfold Sh.part;rw[if_pos (by omega)]
  rw[e]
  exact⟨h0,fun h=>by omega⟩
theorem tk_in(h0:0<=h)(h1:h<=9223372036854775807)(o:okA w f n){k:Nat}(hk:k<n):tkA h w f k<=h:=by
 have a:=Es h0 h1 o
 have c:=eI (f:=tkA h w f) (n:=n) (fun i hi=>tk_nn h0 h1 o hi) (m:=k+1) (by omega)
 have d:=fH (f:=tkA h w f) (n:=k) (fun i hi=>tk_nn h0 h1 o (by omega))
 have st:sumN (tkA h w f) (k+1)=sumN (tkA h w f) k+tkA h w f k:=rfl
 omega
end
end Tr
end
end Go.Proofs.YtaphajlpbgcfjaaGreatDoor
