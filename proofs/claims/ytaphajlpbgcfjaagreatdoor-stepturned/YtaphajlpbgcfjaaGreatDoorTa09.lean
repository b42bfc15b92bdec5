/-
  Some of the texts of this proof, one behind the other.
-/
import Derived.Deep.OwnRows
import Derived.StillTail
import Derived.BigQuiet
import Derived.Deep.QuietTactic
import Derived.Deep.AppendLies
import Derived.OwnWalk
import Derived.Test.YtaphajlpbgcfjaaGreatDoorTa08
set_option maxRecDepth 100000
set_option maxHeartbeats 400000000
namespace Go.Proofs.YtaphajlpbgcfjaaGreatDoor
open _root_.Go.Proofs.Tryz
section
open Go.RowKit Tf Cu
theorem arI_top(L:Nat):1<=arI L/\arI L<=9223372036854775807:=by
 have h:cI .even (arQ L)<=9223372036854775807:=by
  unfold cI
  split
  ·rename_i c
   unfold cOk at c
   simp only[Bool.and_eq_true,decide_eq_true_eq]at c
   omega
  ·decide
 unfold arI
 omega
def arC(n c:Nat):Int:=arI (ArC n c)
theorem dA(n c:Nat):1<=arC n c/\arC n c<=9223372036854775807:=arI_top _
def rdAll(n:Nat)(k:Int)(lb lw:Nat)(B:Nat->Nat)(W:Nat->Int)(e:Int)(u:Nat):Nat:=
 if inR e (12*n*n:Nat)=true/\lb=6*n*n/\lw=6*n*n then rdT n k (arC n) B W (edT n e.toNat) u else 0
theorem wZ{s:Nat}(hs:s<18446744073709551616)(h:isN s=false):Ieee.double.mul 4602678819172646912 s=some (mlB 4602678819172646912 s):=by
 have k:Ieee.double.mul 4602678819172646912 s≠none:=by
  rcases three s with c | c | c
  ·rw[vY 4602678819172646912 s (by decide) hs (by decide) c];exact Option.some_ne_none _
  ·rw[nD 4602678819172646912 s (by decide) hs (by decide) c,if_neg (by decide)];exact Option.some_ne_none _
  ·rw[h]at c;cases c
 cases e:Ieee.double.mul 4602678819172646912 s with
 | none=>exact absurd e k
 | some r=>rw[dE e]
theorem half_N{s:Nat}(hs:s<18446744073709551616)(h:isN s=false):isN (mlB 4602678819172646912 s)=false/\mlB 4602678819172646912 s<18446744073709551616:=by
 have e:=wZ hs h
 exact⟨(jK e (by decide) hs).2,(jK e (by decide) hs).1⟩
theorem xA{h f:Nat}(hh:h<9218868437227405312)(hf:f<18446744073709551616)(nf:isN f=false):Ieee.double.add h f=some (plB h f):=by
 have mh:mg h<9218868437227405312:=by rw[bO (by omega)];exact hh
 have k:Ieee.double.add h f≠none:=by
  rcases three f with c | c | c
  ·rw[Al h f (by omega) hf mh c];exact Option.some_ne_none _
  ·rw[jA h f hf mh c];exact Option.some_ne_none _
  ·rw[nf]at c;cases c
 cases e:Ieee.double.add h f with
 | none=>exact absurd e k
 | some r=>rw[jJ e]
theorem tR{x y:Nat}(hx:x<9218868437227405312)(hy:y<9218868437227405312):Ieee.double.sub x y=some (sbB x y):=by
 have mx:mg x<9218868437227405312:=by rw[bO (by omega)];exact hx
 have my:mg y<9218868437227405312:=by rw[bO (by omega)];exact hy
 rw[sub_d x y (by omega) (by omega) mx my,sb_nn hx hy,wX (d:=x) (by omega),wX (d:=y) (by omega),bV (x:=x) (by omega)]
 rfl
theorem rcV_lt{k:Int}{h hb hd:Nat}(hh:h<9218868437227405312):rcV k h hb hd<18446744073709551616:=by
 have s:=half_N (slp_lt k (sbB h hb) (sbB hd h)) (slp_N k _ _)
 have e:=xA hh s.2 s.1
 unfold rcV
 exact(IsQ.add (IsQ.self (by omega)) (IsQ.self s.2) e).1
theorem zF{l m g:Nat}(hm:m<18446744073709551616)(e:Ieee.double.sub l m=some g)(hl:l<18446744073709551616):IsC g (sbB l m):=by
 have ea:Ieee.double.add l (negB m)=some g:=by rw[<- rN l m hm];exact e
 exact⟨(mE hl (bG hm) ea).1,by unfold sbB;rw[bM ea]⟩
theorem IsFl.at0{w:World}{b o len:Nat}{xs:Nat->Nat}(h:IsFl w (some ⟨b,o,none⟩) len xs){k:Nat}(hk:k<len):xs k<18446744073709551616/\b<w.heap.size/\w.cell? ⟨b,o+k,none⟩=some (.float .f64 (xs k)):=by
 obtain⟨h1,b',o',e,h2,h3⟩:=h k hk
 injection e with e1
 injection e1 with e2 e3
 subst e2 e3
 exact⟨h1,h2,h3⟩
theorem IsIn.at0{w:World}{b o len:Nat}{xs:Nat->Int}(h:IsIn w (some ⟨b,o,none⟩) len xs){k:Nat}(hk:k<len):xs k<=9223372036854775807/\b<w.heap.size/\w.cell? ⟨b,o+k,none⟩=some (.int .i64 (xs k)):=by
 obtain⟨h1,b',o',e,h2,h3⟩:=h k hk
 injection e with e1
 injection e1 with e2 e3
 subst e2 e3
 exact⟨h1.2,h2,h3⟩
theorem Gj{a b:Nat}(ha:a<18446744073709551616)(hb:b<18446744073709551616):maxB a b<18446744073709551616:=by
 unfold maxB
 split
 ·decide
 ·split<;>assumption
theorem rS{e:Int}{N:Nat}(h:inR e (N:Nat)=true): ∃E:Nat,e=(E:Int)/\E<N:=by
 obtain⟨h1,h2⟩:=dK.1 h
 obtain⟨E,rfl⟩:=Int.eq_ofNat_of_zero_le h1
 exact⟨E,rfl,by omega⟩
theorem Bp{n:Nat}{k:Int}{lb lw:Nat}{B:Nat->Nat}{W:Nat->Int}{e:Int}{u:Nat}(h: ¬(inR e (12*n*n:Nat)=true/\lb=6*n*n/\lw=6*n*n)):rdAll n k lb lw B W e u=0:=by unfold rdAll;rw[if_neg h]
theorem oV{n:Nat}{k:Int}{B:Nat->Nat}{W:Nat->Int}{t u:Nat}(hn:1<=n)(ht:t<24*n*n)(hl:isL n t=true):rdAll n k (6*n*n) (6*n*n) B W (eN n t:Nat) u=rdT n k (arC n) B W t u:=by
 unfold rdAll
 rw[if_pos ⟨dK.2 (by have:=eV hn ht hl;omega),rfl,rfl⟩,Int.toNat_natCast,eI hn ht hl]
theorem IsFl.some0{w:World}{a0:Option Addr}{len:Nat}{xs:Nat->Nat}(h:IsFl w a0 len xs)(h0:0<len): ∃b o,a0=some ⟨b,o,none⟩:=by
 obtain⟨_,b,o,e,_⟩:=h 0 h0
 exact⟨b,o,e⟩
theorem IsIn.some0{w:World}{a0:Option Addr}{len:Nat}{xs:Nat->Int}(h:IsIn w a0 len xs)(h0:0<len): ∃b o,a0=some ⟨b,o,none⟩:=by
 obtain⟨_,b,o,e,_⟩:=h 0 h0
 exact⟨b,o,e⟩
theorem Gk{n:Nat}(hn:1<=n):0<6*n*n:=Nat.mul_pos (Nat.mul_pos (by decide) hn) hn
end
section
open Tf Cu
namespace Ss
theorem Gl{x lo hi:Nat}(hx:x<18446744073709551616)(hl:lo<18446744073709551616)(hh:hi<18446744073709551616)(nl:isN lo=false)(nh:isN hi=false):btw x lo hi=true ↔ isN x=false/\(rk lo<=rk x/\rk x<=rk hi)/\x≠9223372036854775808:=by
 unfold btw
 cases n:isN x with
 | true=>
  have e1:fgt x lo=false:=by rw[eC x lo hx hl,n];rfl
  have e2:feq x lo=false:=by rw[iA x lo hx hl,n];rfl
  rw[e1,e2]
  simp
 | false=>
  rw[fge_of hx hl n nl,fle_of hx hh n nh]
  simp only[Bool.and_eq_true,decide_eq_true_eq,true_and]
theorem zG{S:Nat->Nat}{i:Nat}(h:S i<18446744073709551616):bS S i=false ↔ isN (S i)=false/\(-4652218415073722368<=rk (S i)/\rk (S i)<=4652218415073722368)/\S i≠9223372036854775808:=by
 have e1:rk 13875590451928498176= -4652218415073722368:=by decide+kernel
 have e2:rk 4652218415073722368=4652218415073722368:=by decide+kernel
 unfold bS
 rw[Bool.not_eq_false',Gl h (by decide) (by decide) (by decide+kernel) (by decide+kernel),e1,e2]
theorem bB_iff{B:Nat->Nat}{i:Nat}(h:B i<18446744073709551616):bB B i=false ↔ isN (B i)=false/\(-4697254411347427328<=rk (B i)/\rk (B i)<=4697254411347427328)/\B i≠9223372036854775808:=by
 have e1:rk 13920626448202203136= -4697254411347427328:=by decide+kernel
 have e2:rk 4697254411347427328=4697254411347427328:=by decide+kernel
 unfold bB
 rw[Bool.not_eq_false',Gl h (by decide) (by decide) (by decide+kernel) (by decide+kernel),e1,e2]
theorem bS_cn{S:Nat->Nat}{i:Nat}(h:S i<18446744073709551616)(k:bS S i=false):cnF (S i):=by
 have:=(zG h).1 k
 exact⟨h,this.1,this.2.2⟩
theorem rk_ngC{x:Nat}(h:cnF x):rk (ngC x)= -rk x:=by
 obtain⟨h1,h2,h3⟩:=h
 have e:rk (negB x)= -rk x:=yG x h1
 have n:isN (negB x)=false:=by rw[yH];exact h2
 unfold ngC canonB
 rw[n,if_neg (by decide)]
 by_cases z:mg (negB x)=0
 ·rw[if_pos z,<- e]
  have e0:rk (negB x)=0:=by unfold rk;rw[z];split<;>rfl
  rw[e0]
  decide+kernel
 ·rw[if_neg z,e]
theorem bS_ng{S:Nat->Nat}{Z:Nat->Nat}{i j:Nat}(h:S i<18446744073709551616)(k:bS S i=false)(e:Z j=ngC (S i)):bS Z j=false:=by
 have c:=bS_cn h k
 have d:=(tQ c).1
 have r:=rk_ngC c
 have q:=(zG h).1 k
 rw[zG (by rw[e];exact d.1),e,r]
 exact⟨d.2.1,by omega,d.2.2⟩
theorem bS_eq{S:Nat->Nat}{Z:Nat->Nat}{i j:Nat}(k:bS S i=false)(e:Z j=S i):bS Z j=false:=by
 unfold bS at k ⊢
 rw[e]
 exact k
theorem vF{l m:List Int}(h:l.Perm m):l.sum=m.sum:=by
 induction h with
 | nil=>rfl
 | cons x _ ih=>rw[List.sum_cons,List.sum_cons,ih]
 | swap x y l=>simp only[List.sum_cons];omega
 | trans _ _ i1 i2=>rw[i1,i2]
theorem tT(h:Nat->Int): ∀n,Sh.sumN h n=((List.range n).map h).sum
 | 0=>rfl
 | n+1=>by
  show Sh.sumN h n+h n=_
  rw[tT h n,List.range_succ,List.map_append,List.sum_append]
  simp
section
variable {n r:Nat}
theorem tn_perm(hn:1<=n)(hr:r<24):List.Perm ((List.range (6*n*n)).map (tnC n r)) (List.range (6*n*n)):=by
 have inj: ∀a,a<6*n*n-> ∀b,b<6*n*n->tnC n r a=tnC n r b->a=b:=fun a ha b hb h=>by
  rw[<- (lO hn hr ha).1,<- (lO hn hr hb).1,h]
 have nd:((List.range (6*n*n)).map (tnC n r)).Nodup:=by
  unfold List.Nodup
  rw[List.pairwise_map]
  exact(List.nodup_range (n:=6*n*n)).imp_of_mem (fun ha hb h e=>h (inj _ (List.mem_range.1 ha) _ (List.mem_range.1 hb) e))
 exact(List.perm_ext_iff_of_nodup nd List.nodup_range).2 (fun x=>by
  rw[List.mem_map,List.mem_range]
  constructor
  ·rintro⟨c,hc,rfl⟩
   exact iU hn hr (List.mem_range.1 hc)
  ·intro hx
   exact⟨tnC n (inv r) x,List.mem_range.2 (iU hn (eA r hr).1 hx),(lO hn hr hx).2⟩)
theorem Bq(hn:1<=n)(hr:r<24)(f:Nat->Int):Sh.sumN (tuC n r f) (6*n*n)=Sh.sumN f (6*n*n):=by
 have p:=vF ((tn_perm hn hr).map (tuC n r f))
 rw[List.map_map]at p
 rw[tT,tT,<- p]
 congr 1
 refine List.map_congr_left (fun c hc=> ?_)
 exact fQ hn hr f (List.mem_range.1 hc)
theorem Br(hn:1<=n)(hr:r<24){B:Nat->Nat}{W T:Nat->Int}{S:Nat->Nat}{sky st:Int}(hS: ∀e,e<12*n*n->S e<18446744073709551616)(h:okN (6*n*n) B W T S sky st):okN (6*n*n) (tuC n r B) (tuC n r W) (tuC n r T) (tuS n r S) sky st:=by
 obtain⟨o1,o2,⟨o3,o3'⟩,⟨o4,o4'⟩,o5,o6⟩:=h
 have i:=(eA r hr).1
 have e2:2*(6*n*n)=12*n*n:=by rw[Nat.mul_assoc,Nat.mul_assoc];omega
 refine⟨fun c hc=> ?_,o2,⟨fun c hc=>o3 _ (iU hn i hc),by rw[Bq hn hr];exact o3'⟩,⟨fun c hc=>o4 _ (iU hn i hc),by rw[Bq hn hr];exact o4'⟩,fun e he=> ?_,o6⟩
 ·have k:=o1 _ (iU hn i hc)
  unfold bB at k ⊢
  exact k
 ·rw[e2]at he
  obtain⟨h1,-,-⟩:=bH hn he
  have h2:=iI hn h1 i
  have m:=cY hn h2
  cases l:isL n (tnT n (inv r) (edT n e))with
  | true=>
   have q:=eV hn h2 l
   exact bS_eq (o5 _ (by rw[e2];exact q)) (by unfold tuS;rw[gP l])
  | false=>
   rw[l]at m
   have q:=eV hn (bZ hn h2) m
   exact bS_ng (hS _ q) (o5 _ (by rw[e2];exact q)) (by unfold tuS;rw[iJ l])
end
end Ss
end
section
open Tf Cu
namespace Ss
def atS(n r i:Nat):Nat:=eE n (tnT n r (edT n i))
section
variable {n r:Nat}
theorem eE_two(hn:1<=n){t u:Nat}(ht:t<24*n*n)(hu:u<24*n*n)(h:eE n u=eE n t):u=t\/u=mt n t:=by
 unfold eE at h
 cases a:isL n u with
 | true=>
  cases b:isL n t with
  | true=>simp[a,b]at h;exact .inl (sE a b h)
  | false=>simp[a,b]at h;exact .inr (sE a (by rw[cY hn ht,b];rfl) h)
 | false=>
  cases b:isL n t with
  | true=>
   simp[a,b]at h
   have e:=sE (by rw[cY hn hu,a];rfl) b h
   right
   rw[<- e,eU hn hu]
  | false=>
   simp[a,b]at h
   have e:=sE (by rw[cY hn hu,a];rfl) (by rw[cY hn ht,b];rfl) h
   left
   rw[<- eU hn hu,e,eU hn ht]
theorem atS_lt(hn:1<=n)(hr:r<24){i:Nat}(hi:i<12*n*n):atS n r i<12*n*n:=fN hn (iI hn (bH hn hi).1 hr)
theorem atS_inj(hn:1<=n)(hr:r<24){i j:Nat}(hi:i<12*n*n)(hj:j<12*n*n)(h:atS n r i=atS n r j):i=j:=by
 obtain⟨h1,h2,h3⟩:=bH hn hi
 obtain⟨k1,k2,k3⟩:=bH hn hj
 rcases eE_two hn (iI hn k1 hr) (iI hn h1 hr) h with q | q
 ·have e:=(lP hn hr h1).1
  rw[q,(lP hn hr k1).1]at e
  rw[<- h3,<- k3,e]
 ·rw[tN hn k1 hr]at q
  have e:=(lP hn hr h1).1
  rw[q,(lP hn hr (bZ hn k1)).1]at e
  rw[<- e,cY hn k1,k2]at h2
  cases h2
theorem atS_ex(hn:1<=n)(hr:r<24)(S:Nat->Nat){e:Nat}(he:e<12*n*n): ∃i,i<12*n*n/\atS n r i=e/\tuS n r S e=if eS n (tnT n r (edT n i))<0 then ngC (S i)else S i:=by
 obtain⟨h1,h2,h3⟩:=bH hn he
 have iv:=(eA r hr).1
 obtain⟨t,ht⟩:=aD (tnT n (inv r) (edT n e))
 have tl:t<24*n*n:=by rw[<- ht];exact iI hn h1 iv
 have tb:tnT n r t=edT n e:=by rw[<- ht];exact(lP hn hr h1).2
 unfold tuS
 rw[ht]
 cases l:isL n t with
 | true=>
  refine⟨eN n t,eV hn tl l,?_,?_⟩
  ·unfold atS eE
   rw[eI hn tl l,tb,if_pos h2,h3]
  ·have es:eS n (edT n e)=1:=by unfold eS;rw[if_pos h2]
   rw[eI hn tl l,tb,gP l,es,if_neg (by decide)]
 | false=>
  have ml:=bZ hn tl
  have m:=cY hn tl
  rw[l]at m
  have q:tnT n r (mt n t)=mt n (edT n e):=by rw[<- tN hn tl hr,tb]
  have qn:isL n (mt n (edT n e))=false:=by rw[cY hn h1,h2];rfl
  refine⟨eN n (mt n t),eV hn ml m,?_,?_⟩
  ·unfold atS eE
   rw[eI hn ml m,q,if_neg (by rw[qn];decide),eU hn h1,h3]
  ·have es:eS n (mt n (edT n e))= -1:=by unfold eS;rw[if_neg (by rw[qn];decide)]
   rw[eI hn ml m,q,iJ l,es,if_pos (by decide)]
theorem tn_inj(hn:1<=n)(hr:r<24){c d:Nat}(hc:c<6*n*n)(hd:d<6*n*n)(h:tnC n r c=tnC n r d):c=d:=by
 have e:=(lO hn hr hc).1
 rw[h,(lO hn hr hd).1]at e
 exact e.symm
end
end Ss
end
section
open Go.RowKit Go.Deep
theorem iK{v:World}{g n:Nat}{z:Value}{T:TypeId}(h:v.heap[g]? =some (Obj.cells (madeCells #[z] n) T)):v.rowIs g T n (fun _=>z):=by
 have e:=World.rowIs_made v z n T
 have l:=heap_alloc_new v (Obj.cells (madeCells #[z] n) T)
 obtain⟨c,h1,h2⟩:=e
 rw[l]at h1
 exact⟨c,h.trans h1,h2⟩
theorem qD{w:World}{g:Nat}{a b c d e f x y z p q r:Value}{T:TypeId}(h:w.heap[g]? =some (.cells #[a,b,c,d,e,f] T)):
  ((((((w.setCell ⟨g,0,none⟩ x).setCell ⟨g,1,none⟩ y).setCell ⟨g,2,none⟩ z).setCell ⟨g,3,none⟩ p).setCell ⟨g,4,none⟩ q).setCell ⟨g,5,none⟩ r).heap[g]? =some (.cells #[x,y,z,p,q,r] T):=by
 have h1:=aJ (v:=x) (k:=0) h
 have h2:=aJ (v:=y) (k:=1) h1
 have h3:=aJ (v:=z) (k:=2) h2
 have h4:=aJ (v:=p) (k:=3) h3
 have h5:=aJ (v:=q) (k:=4) h4
 have h6:=aJ (v:=r) (k:=5) h5
 simpa using h6
theorem aO{v:World}{b k g:Nat}{x:Value}(h:g≠b):(v.setCell ⟨b,k,none⟩ x).heap[g]? =v.heap[g]? :=blk_setCell_other _ _ _ _ h
end
section
open Go.RowKit
def backB(md:Region.Mode)(ops:Array Oper)(n:Nat):Bool:=
 (List.range n).all fun i=>match ops[i]? with
  | some o=>o.after.all (fun e=> !Region.binds md e||decide (e.on<i))&&(match o.guard with | none=>true | some (j,_)=>decide (j<n))
  | none=>true
def finA(m n:Nat):Array Bool:=Array.replicate n true++Array.replicate (m - n) false
theorem jT{md:Region.Mode}{ops:Array Oper}{n:Nat}(h:backB md ops n=true){i:Nat}{o:Oper}(hi:i<n)(ho:ops[i]? =some o):
  (∀e ∈ o.after,Region.binds md e=true->e.on<i)/\(∀j b,o.guard=some (j,b)->j<n):=by
 have a:=List.all_eq_true.1 h i (List.mem_range.2 hi)
 simp only[ho,Bool.and_eq_true]at a
 refine⟨fun e he hb=> ?_,fun j b hg=> ?_⟩
 ·have:=Array.all_eq_true_iff_forall_mem.1 a.1 e he
  simpa [hb]using this
 ·have:=a.2
  rw[hg]at this
  simpa using this
theorem oW{l:Array Bool}{i:Nat}(h:i<l.size)(d d':Bool):l.getD i d=l.getD i d':=by simp[h]
theorem kG{P:Program}{md:Region.Mode}{ops:Array Oper}{Q:Exit->Act->World->Prop}: ∀(g k:Nat) (listed:Array Bool) (a:Act) (w:World),wpAny P md ops Q g listed a w->wpAny P md ops Q (g+k) listed a w
 | 0,0,_,_,_,h=>h
 | 0,k+1,listed,a,w,h=>by
  rw[Nat.zero_add]
  exact⟨fun _=>h.2,fun i hi=>by rw[h.1]at hi;cases hi⟩
 | g+1,k,listed,a,w,h=>by
  rw[show g+1+k=(g+k)+1 by omega]
  exact⟨h.1,fun i hi=>wpOp_mono (fun a' w' h'=>kG g k _ a' w' h') (h.2 i hi)⟩
section
variable {P:Program} {md:Region.Mode} {ops hd:Array Oper} {C:World->Prop} {n:Nat}
theorem gA(hhd: ∀i,i<n->hd[i]? =ops[i]?)(hb:backB md ops n=true){listed lh:Array Bool}(hl:lh.size=n)(hls:n<=listed.size)(he: ∀i,i<n->lh.getD i true=listed.getD i true){i:Nat}(hi:i<n):
  i ∈ Region.ready md hd lh ↔ i ∈ Region.ready md ops listed:=by
 rw[mem_ready,mem_ready,he i hi,hhd i hi]
 refine and_congr Iff.rfl (exists_congr fun o=>and_congr_right fun ho=>forall_congr' fun e=>forall_congr' fun hm=>forall_congr' fun hbd=> ?_)
 have lt:=(jT hb hi ho).1 e hm hbd
 rw[oW (d:=false) (d':=true) (by omega),oW (l:=listed) (d:=false) (d':=true) (by omega),he _ (by omega)]
theorem fE(hsz:n<=ops.size)(hb:backB md ops n=true){listed:Array Bool}(hls:n<=listed.size):
  (∀i,i<n->listed.getD i true=true)\/ ∃i,i<n/\i ∈ Region.ready md ops listed:=by
 have key: ∀k,k<=n->(∀i,i<k->listed.getD i true=true)\/ ∃i,i<n/\i ∈ Region.ready md ops listed:=by
  intro k
  induction k with
  | zero=>exact fun _=>.inl (fun i hi=>by omega)
  | succ k ih=>
   intro hk
   rcases ih (by omega)with h | h
   ·cases c:listed.getD k true
    ·right
     refine⟨k,by omega,mem_ready.2 ⟨c,ops[k]'(by omega),by simp,fun e he hbd=> ?_⟩⟩
     have lt:=(jT hb (i:=k) (o:=ops[k]'(by omega)) (by omega) (by simp)).1 e he hbd
     rw[oW (d:=false) (d':=true) (by omega)]
     exact h _ lt
    ·left
     intro i hi
     by_cases e:i=k
     ·rw[e];exact c
     ·exact h i (by omega)
   ·exact .inr h
 exact key n (Nat.le_refl _)
theorem qOp_head(hhd: ∀i,i<n->hd[i]? =ops[i]?)(hb:backB md ops n=true){i:Nat}(hi:i<n){K:Act->Prop}{a:Act}(h:qOp P hd C i K a):qOp P ops C i K a:=by
 unfold qOp at*
 rw[hhd i hi]at h
 cases ho:ops[i]? with
 | none=>rw[ho]at h;exact h
 | some o=>
  rw[ho]at h
  have e:Region.wanted o (yielded hd a.tmps)=Region.wanted o (yielded ops a.tmps):=by
   unfold Region.wanted
   cases hg:o.guard with
   | none=>rfl
   | some jb=>
    obtain⟨j,b⟩:=jb
    have lt:=(jT hb hi ho).2 j b hg
    show(yielded hd a.tmps j==some b)=(yielded ops a.tmps j==some b)
    unfold yielded
    rw[hhd j lt]
  simp only[e]at h
  exact h
theorem qE{listed:Array Bool}(hn:n<ops.size)(inv:HeadInv md ops n listed)(h: ∀i,i<n->listed.getD i true=true):listed=finA ops.size n:=by
 have s:=inv.size
 unfold finA
 refine Array.ext (by simp;omega) fun i h1 h2=> ?_
 by_cases c:i<n
 ·have:=h i c
  rw[Array.getElem_append_left (by simpa using c)]
  simp[h1]at this
  simpa using this
 ·have:=inv.tail i (by omega) (by omega)
  rw[Array.getElem_append_right (by simp;omega)]
  simp[h1]at this
  simpa using this
theorem tU{g:Nat}{Q1:Act->Prop}{Q':Exit->Act->World->Prop}(hhd: ∀i,i<n->hd[i]? =ops[i]?)(hsz:hd.size=n)(hn:n<ops.size)(hb:backB md ops n=true)(hs:Region.sinkB md ops n=true)(hc:Region.chainB md ops n=true)
  (hL: ∀a w,C w->Q1 a->wpAny P md ops Q' g (finA ops.size n) a w):
  ∀(fuel:Nat) (listed lh:Array Bool) (a:Act) (w:World),C w->HeadInv md ops n listed->lh.size=n->(∀i,i<n->lh.getD i true=listed.getD i true)->
   wpAnyQ P md hd C Q1 fuel lh a->wpAny P md ops Q' (fuel+g) listed a w:=by
 intro fuel
 induction fuel with
 | zero=>
  intro listed lh a w hC inv hl he h
  have hls:n<=listed.size:=by rw[inv.size];omega
  rcases fE (by omega) hb hls with all | ⟨i,hi,hr⟩
  ·rw[Nat.zero_add,qE hn inv all]
   exact hL a w hC h.2
  ·have:=(gA hhd hb hl hls he hi).2 hr
   rw[h.1]at this
   cases this
 | succ fuel ih=>
  intro listed lh a w hC inv hl he h
  have hls:n<=listed.size:=by rw[inv.size];omega
  rcases fE (by omega) hb hls with all | ⟨i0,hi0,hr0⟩
  ·have no:Region.ready md hd lh=[]:=by
    rw[List.eq_nil_iff_forall_not_mem]
    intro i hi
    obtain⟨u,o,ho,_⟩:=mem_ready.1 hi
    have lt:i<n:=by rw[<- hsz];exact(Array.getElem?_eq_some_iff.1 ho).1
    rw[he i lt,all i lt]at u
    cases u
   rw[Nat.add_comm (fuel+1) g,qE hn inv all]
   exact kG g (fuel+1) _ a w (hL a w hC (h.1 no))
  ·rw[show fuel+1+g=(fuel+g)+1 by omega]
   refine⟨fun h0=>(by rw[h0]at hr0;cases hr0),fun i hi=> ?_⟩
   have lt:i<n:=by
    by_cases c:i<n
    ·exact c
    ·exact absurd hi (tail_waits hs hc hn inv _ i0 rfl hi0 (mem_ready.1 hr0).1 i (by omega))
   have hq:=qOp_head hhd hb lt (h.2 i ((gA hhd hb hl hls he lt).2 hi))
   refine wpOp_of_qOp hC (fun a' w' hC' h'=>ih _ _ a' w' hC' (inv.set hi lt) (by simp[hl]) (fun j hj=> ?_) h') hq
   by_cases e:i=j
   ·subst e
    simp[hl,lt,show i<listed.size by omega]
   ·rw[getD_set_ne true e,getD_set_ne true e,he j hj]
end
def tailB(ops:Array Oper)(n:Nat):Bool:=
 decide (n<ops.size)&&backB .any ops n&&Region.sinkB .any ops n&&Region.chainB .any ops n&&Region.seqB .any ops (ops.size - n) n (finA ops.size n)
theorem dC{P:Program}{id:Nat}{Q:Exit->Act->World->Prop}{a:Act}{w:World}{l:List Oper}{U:Type}(n:Nat)(F:U->World)(hm:P.follows .mixedOrders=true)(hB:Region.lexB .any (l.take n).toArray=true)(hT:tailB l.toArray n=true)
  (hC: ∃u,w.drew=F u)
  (h:wpQuiet P (l.take n).toArray (fun w'=> ∃u,w'=F u) (fun a'=> ∀w',(∃u,w'=F u)->wpList P l.toArray Q (l.drop n) a' w') (l.take n) a):(Code.region id l.toArray true).wp P Q a w:=by
 simp only[tailB,Bool.and_eq_true,decide_eq_true_eq]at hT
 obtain⟨⟨⟨⟨hn,hb⟩,hs⟩,hc⟩,hq⟩:=hT
 have hn':n<l.length:=by simpa using hn
 have htl:(l.take n).toArray.size=n:=by simp;omega
 have hdl:(l.drop n).length=l.toArray.size - n:=by simp
 refine wp_region_any hm ?_
 simp only[Region.lexB,Bool.and_eq_true]at hB
 have H:=wpAnyQ_lex (P:=P) (C:=fun w'=> ∃u,w'=F u) (md:=.any) hB.1 (l.take n) 0 (Array.replicate (l.take n).toArray.size false) a (by simp) (by simpa using hB.2) h
 have inv0:HeadInv .any l.toArray n (Array.replicate l.toArray.size false):=
  ⟨by simp,fun j oj _ hl=>(by rw[getD_replicate_false]at hl;cases hl),fun t _ ht=>getD_in (by simpa using ht) (getD_replicate_false _ _)⟩
 have:=tU (P:=P) (Q':=Q) (g:=l.toArray.size - n) (hd:=(l.take n).toArray) (ops:=l.toArray) (fun i hi=>by simp[hi]) htl hn hb hs hc
  (fun a' w' hC' h'=>by
   have:=wpAny_of_seq (P:=P) (md:=.any) (ops:=l.toArray) (Q':=Q) (l.drop n) n (finA l.toArray.size n) a' w' (fun j=>by simp) (by rw[hdl];exact hq) (h' w' hC')
   rwa [hdl]at this)
  (l.take n).length _ _ a w.drew hC inv0 (by simpa using htl) (fun i hi=>by
   rw[getD_in (listed:=Array.replicate l.toArray.size false) (by simp;omega) (getD_replicate_false _ _)]
   exact getD_in (by rw[Array.size_replicate];omega) (getD_replicate_false _ _)) H
 have e:(l.take n).length+(l.toArray.size - n)=l.toArray.size:=by simp;omega
 rw[e]at this
 exact this
end
section
open Go.RowKit
def Fresh(W:World)(S:Nat->Option Nat)(b:Nat):Prop:=W.heap.size<=b/\ ∀i c,S i=some c->c≠b
def putL(S:Nat->Option Nat)(i b:Nat):Nat->Option Nat:=fun k=>if k=i then some b else S k
def Has(W:World)(sp:Nat->Option (Obj × (Nat->Value)))(S:Nat->Option Nat)(w:World):Prop:=Ab W w/\ ∀i b,S i=some b->W.heap.size<=b/\ ∃o mk,sp i=some (o,mk)/\w.heap[b]? =some o
section
variable {P:Program} {ops:Array Oper} {md:Region.Mode} {W:World} {sp:Nat->Option (Obj × (Nat->Value))}
def YF(P:Program)(ops:Array Oper)(W:World)(o:Oper)(v:Value)(a:Act):Prop:=
 (Region.wanted o (yielded ops a.tmps)=true/\ ∀w,Ab W w->(execOp a.eval o).run P w=.ok (.value v) w)\/(Region.wanted o (yielded ops a.tmps)=false/\v=undef)
def LF(P:Program)(ops:Array Oper)(W:World)(o:Oper)(ob:Obj)(mk:Nat->Value)(a:Act):Prop:=
 Region.wanted o (yielded ops a.tmps)=true/\ ∀w,Ab W w->(execOp a.eval o).run P w=.ok (.value (mk w.heap.size)) (w.alloc ob)
def fOp(P:Program)(ops:Array Oper)(W:World)(sp:Nat->Option (Obj × (Nat->Value)))(i:Nat)(K:Act->(Nat->Option Nat)->Prop)(a:Act)(S:Nat->Option Nat):Prop:=
 match ops[i]? with
 | none=>K a S
 | some o=>
  match sp i with
  | none=> ∃v,YF P ops W o v a/\K (a.put o.dst v) S
  | some (ob,mk)=>LF P ops W o ob mk a/\ ∀b,Fresh W S b->K (a.put o.dst (mk b)) (putL S i b)
def wpAnyF(P:Program)(md:Region.Mode)(ops:Array Oper)(W:World)(sp:Nat->Option (Obj × (Nat->Value)))(Q:Act->(Nat->Option Nat)->Prop):Nat->Array Bool->Act->(Nat->Option Nat)->Prop
 | 0,listed,a,S=>Region.ready md ops listed=[]/\Q a S
 | fuel+1,listed,a,S=>
  (Region.ready md ops listed=[]->Q a S)/\
  ∀i ∈ Region.ready md ops listed,fOp P ops W sp i (wpAnyF P md ops W sp Q fuel (listed.setIfInBounds i true)) a S
def Tidy(W:World)(listed:Array Bool)(S:Nat->Option Nat):Prop:=(∀k,listed.getD k true=false->S k=none)/\ ∃n,W.heap.size<=n/\ ∀i c,S i=some c->c<n
def wpFree(P:Program)(ops:Array Oper)(W:World)(sp:Nat->Option (Obj × (Nat->Value)))(Q:Act->(Nat->Option Nat)->Prop):List Oper->Nat->Act->(Nat->Option Nat)->Prop
 | [],_,a,S=>Q a S
 | o :: rest,k,a,S=>
  match sp k with
  | none=> ∃v,YF P ops W o v a/\wpFree P ops W sp Q rest (k+1) (a.put o.dst v) S
  | some (ob,mk)=>LF P ops W o ob mk a/\ ∀b,Fresh W S b->wpFree P ops W sp Q rest (k+1) (a.put o.dst (mk b)) (putL S k b)
end
end
section
open Go.RowKit
def plainB:Op->Bool
 | .move _ | .assign _ | .pick _ _ _ | .build _ _ | .load _ _ | .binOp _ _ _ _ _ | .unOp _ _ _ | .convert _ _ _ | .slice _ _ _ _ _ | .fieldAddr _ _ _ | .field _ _ _ | .indexAddr _ _ _ | .index _ _ _ | .extract _ _=>true
 | _=>false
theorem val_only{P:Program}{s:Sem Value}{w w':World}{n:Next}(e:(do pure (Next.value (<- s)):Sem Next).run P w=.ok n w'): ∃x,n=.value x:=by
 rw[Sem.run_bind]at e
 cases h:s.run P w with
 | ok x w1=>
  rw[h]at e
  simp at e
  exact⟨x,e.1.symm⟩
 | halt x w1=>rw[h]at e;simp at e
theorem Im{P:Program}{α:Type}{s:Sem α}{f:α->Value}{w w':World}{n:Next}(e:((s.run P w).andThen fun x w=>Result.ok (Next.value (f x)) w)=.ok n w'): ∃x,n=.value x:=by
 cases h:s.run P w with
 | ok x w1=>
  rw[h]at e
  simp at e
  exact⟨f x,e.1.symm⟩
 | halt x w1=>rw[h]at e;simp at e
theorem rC{P:Program}{ρ:Operand->Value}{o:Oper}{w w':World}{n:Next}(h:plainB o.op=true)(e:(execOp ρ o).run P w=.ok n w'): ∃x,n=.value x:=by
 unfold execOp at e
 cases ho:o.op<;>rw[ho]at h e<;>first | (simp[plainB]at h;done) | exact val_only e | (simp at e;first | exact⟨_,e.1.symm⟩ | exact Im (f:=fun b=>if b=true then ρ _ else ρ _) e)
section
variable {P:Program} {ops:Array Oper} {W:World} {sp:Nat->Option (Obj × (Nat->Value))} {Q:Act->(Nat->Option Nat)->Prop} {o:Oper} {rest:List Oper} {k:Nat} {a:Act} {S:Nat->Option Nat}
theorem rT{s:Sem Value}{w w':World}{x:Value}(h:s.run P w=.ok x w'):(do pure (Next.value (<- s)):Sem Next).run P w=.ok (.value x) w':=by
 rw[Sem.run_bind,h]
 rfl
theorem oX{t:TypeId}{x y:Operand}{vx vy:Value}{mk:Nat->Value}{ob:Obj}(ho:o.op=.makeSlice t x y)(hx:a.eval x=vx)(hy:a.eval y=vy)(M: ∀w:World,(Instr.makeSlice t vx vy).run P w=.ok (mk w.heap.size) (w.alloc ob)):
  ∀w,Ab W w->(execOp a.eval o).run P w=.ok (.value (mk w.heap.size)) (w.alloc ob):=by
 intro w _
 unfold execOp
 rw[ho]
 simp only[hx,hy]
 exact rT (M w)
theorem Io{t:TypeId}{mk:Nat->Value}{ob:Obj}(ho:o.op=.alloc t)(M: ∀w:World,(Instr.alloc t true (.tuple #[])).run P w=.ok (mk w.heap.size) (w.alloc ob)):
  ∀w,Ab W w->(execOp a.eval o).run P w=.ok (.value (mk w.heap.size)) (w.alloc ob):=by
 intro w _
 unfold execOp
 rw[ho]
 exact rT (M w)
end
end
section
open Go.RowKit Tf Cu Go.Deep
attribute [local go_sem] aL aM aV aW aX aY aZ aG
def LkR(w:World)(gd g4 b1 b2 b3 b4:Nat)(f:Nat->Int)(v:World):Prop:=
 Ab w v/\v.heap[g4]? =some (.cells #[.slice (some ⟨b1,0,none⟩) 6 6,.slice (some ⟨b2,0,none⟩) 6 6,.slice (some ⟨b3,0,none⟩) 6 6,.slice (some ⟨b4,0,none⟩) 12 12,.int .i64 0,.int .i64 0] 29)/\v.heap[gd]? =some (.cells #[.slice none 0 0,.slice none 0 0,.slice none 0 0,.slice none 0 0,.int .i64 0,.int .i64 0] 29)/\v.rowIs b1 22 6 (fun _=>.float .f64 0)/\v.rowIs b2 2 6 (fun i=>.int .i64 (f i))/\v.rowIs b3 2 6 (fun _=>.int .i64 0)/\v.rowIs b4 22 12 (fun _=>.float .f64 0)
end
section
open Go.RowKit Go.Deep
theorem rowIs.fl{w:World}{b n:Nat}{f:Nat->Nat}(h:w.rowIs b 22 n (fun i=>.float .f64 (f i)))(hf: ∀i,i<n->f i<18446744073709551616):IsFl w (some ⟨b,0,none⟩) n f:=fun k hk=>⟨hf k hk,b,0,rfl,h.lt,by rw[Nat.zero_add];exact h.cell hk⟩
end
section
open Tf Ieee
namespace Fc
theorem lQ{y l:Nat}(hl:isN l=true):dvB y l=quiet:=by
 refine iE ?_
 rw[bX]at hl
 have ei:=cO
 show((double.read y).quotient 54 (double.read l)).map double.write=none
 rw[eW double l gS (by rw[dP];omega)]
 cases double.read y<;>rfl
theorem fF{x:Nat}(hx:x<18446744073709551616)(h:mg x=0):x=0\/x=9223372036854775808:=by
 unfold mg at h
 omega
theorem dv0{b:Nat}(hb:b<18446744073709551616):dvB 0 b=0\/dvB 0 b=quiet:=by
 by_cases n:isN b=true
 ·exact .inr (lQ n)
 ·have n2: ¬9218868437227405312<mg b:=by rw[bX]at n;exact n
  by_cases z:mg b=0
  ·rcases fF hb z with rfl | rfl
   ·exact .inr (by decide+kernel)
   ·exact .inr (by decide+kernel)
  ·by_cases i:mg b=9218868437227405312
   ·have:b=9218868437227405312\/b=18442240474082181120:=by unfold mg at i;omega
    rcases this with rfl | rfl
    ·exact .inl (by decide+kernel)
    ·exact .inl (by decide+kernel)
   ·exact .inl (AO b z (by omega) 0 (by decide))
theorem lR{a b:Nat}(ha:a<18446744073709551616)(hb:b<18446744073709551616):dvB (canonB a) b=dvB a b:=by
 rcases bR ha with⟨h,e⟩ | ⟨h,e⟩ | ⟨h,k,e⟩
 ·rw[e,oM (y:=quiet) (by decide),oM h]
 ·rw[e]
  rcases fF ha h with rfl | rfl
  ·rfl
  ·have k:=yN (a:=0) (b:=b) (by omega)
   rw[show negB 0=9223372036854775808 by decide]at k
   rw[k]
   rcases dv0 hb with q | q<;>rw[q]<;>decide
 ·rw[e]
theorem Gm{a b:Nat}(ha:a<18446744073709551616)(hb:b<18446744073709551616):dvB (cn a) b=cn (dvB a b):=by
 unfold cn
 rw[lR (bG ha) hb,yN ha]
 rfl
def puB(G dt ll lr gap:Nat):Nat:=dvB (mlB (mlB G dt) (sbB lr ll)) gap
def u1B(G dt u ll lr gap:Nat):Nat:=sbB u (puB G dt ll lr gap)
def hB(dl dr:Nat):Nat:=mlB 4602678819172646912 (addB dl dr)
def drB(D dt u1 h:Nat):Nat:=addB 4607182418800017408 (dvB (mlB (mlB D dt) (mg u1)) h)
def cuB(x:Nat):Nat:=if fgt x 4652218415073722368=true then 4652218415073722368 else if flt x 13875590451928498176=true then 13875590451928498176 else if isN x=true then 0 else canonB x
def spB(G dt D u ll lr dl dr gap:Nat):Nat:=if fgt (hB dl dr) 0=true then cuB (dvB (u1B G dt u ll lr gap) (drB D dt (u1B G dt u ll lr gap) (hB dl dr)))else 0
def opB(wl wr:Int)(ll lr bl br:Nat):Bool:= !((!decide (0<wl)&& !decide (0<wr))||(!decide (0<wl)&&(flt lr bl||feq lr bl))||(!decide (0<wr)&&(flt ll br||feq ll br)))
section
variable {G dt D u ll lr dl dr gap:Nat}
theorem qF(G dt ll lr gap:Nat):puB G dt ll lr gap<18446744073709551616:=pY _ _
theorem u1B_lt(hu:u<18446744073709551616):u1B G dt u ll lr gap<18446744073709551616:=bE hu (qF _ _ _ _ _)
theorem u1B_can(hu:u<18446744073709551616):canonB (u1B G dt u ll lr gap)=u1B G dt u ll lr gap:=vZ hu (qF _ _ _ _ _)
theorem hB_lt(h1:dl<18446744073709551616)(h2:dr<18446744073709551616):hB dl dr<18446744073709551616:=aQ (by omega) (jZ _ _ h1 h2)
theorem hB_comm(h1:dl<18446744073709551616)(h2:dr<18446744073709551616):hB dr dl=hB dl dr:=by unfold hB;rw[mF _ _ h2 h1]
theorem zH(x:Nat):mg x<18446744073709551616:=by unfold mg;omega
theorem drB_lt(D dt u1 h:Nat):drB D dt u1 h<18446744073709551616:=jZ _ _ (by omega) (pY _ _)
theorem mg_cn{x:Nat}(hx:x<18446744073709551616)(c:canonB x=x):mg (cn x)=mg x:=by
 rcases bR hx with⟨h,e⟩ | ⟨h,e⟩ | ⟨h,k,e⟩
 ·rw[<- c,e];decide
 ·rw[<- c,e];decide
 ·unfold cn canonB
  rw[dZ hx,h,dW hx,if_neg (by decide),if_neg k,dW hx]
theorem puB_sw(hG:G<18446744073709551616)(ht:dt<18446744073709551616)(h1:ll<18446744073709551616)(h2:lr<18446744073709551616)(hg:gap<18446744073709551616):puB G dt lr ll gap=cn (puB G dt ll lr gap):=by
 have hk:=aQ hG ht
 have hd:=bE h2 h1
 unfold puB
 rw[eP h2 h1,<- lR (aQ hk (jN hd)) hg,mlB_cn' hk hd,Gm (aQ hk hd) hg]
theorem u1B_sw(hG:G<18446744073709551616)(ht:dt<18446744073709551616)(hu:u<18446744073709551616)(h1:ll<18446744073709551616)(h2:lr<18446744073709551616)(hg:gap<18446744073709551616):u1B G dt (negB u) lr ll gap=cn (u1B G dt u ll lr gap):=by
 unfold u1B
 rw[puB_sw hG ht h1 h2 hg,<- fH (bG hu) (jN (qF _ _ _ _ _)),AJ]
 exact tD hu (qF _ _ _ _ _)
theorem rk_cn{x:Nat}(hx:x<18446744073709551616)(n:isN x=false):rk (cn x)= -rk x/\isN (cn x)=false:=by
 have r:=yG x hx
 rcases bR (bG hx)with⟨h,e⟩ | ⟨h,e⟩ | ⟨h,k,e⟩
 ·rw[dZ hx,n]at h;cases h
 ·rw[dW hx]at h
  have z:rk x=0:=by unfold rk;rw[h];split<;>rfl
  unfold cn
  rw[e,z]
  exact⟨by decide,by decide⟩
 ·unfold cn
  rw[e]
  exact⟨r,h⟩
theorem rU:rk 4652218415073722368=4652218415073722368/\rk 13875590451928498176= -4652218415073722368/\isN 4652218415073722368=false/\isN 13875590451928498176=false:=by decide
theorem fJ{x:Nat}(hx:x<18446744073709551616):(isN x=true/\cuB x=0)\/(isN x=false/\4652218415073722368<rk x/\cuB x=4652218415073722368)\/(isN x=false/\rk x< -4652218415073722368/\cuB x=13875590451928498176)\/(isN x=false/\ -4652218415073722368<=rk x/\rk x<=4652218415073722368/\cuB x=canonB x):=by
 have g:=eC x 4652218415073722368 hx (by omega)
 have l:=iZ x 13875590451928498176 hx (by omega)
 rw[rU.1,rU.2.2.1]at g
 rw[rU.2.1,rU.2.2.2]at l
 unfold cuB
 cases n:isN x with
 | true=>
  rw[n]at g l
  simp at g l
  left
  rw[g,l]
  simp
 | false=>
  rw[n]at g l
  simp at g l
  right
  by_cases c1:4652218415073722368<rk x
  ·left
   have:fgt x 4652218415073722368=true:=by rw[g];exact decide_eq_true c1
   rw[this]
   exact⟨rfl,c1,by simp⟩
  ·have e1:fgt x 4652218415073722368=false:=by rw[g];exact decide_eq_false c1
   right
   by_cases c2:rk x< -4652218415073722368
   ·left
    have e2:flt x 13875590451928498176=true:=by rw[l];exact decide_eq_true c2
    rw[e1,e2]
    exact⟨rfl,c2,by simp⟩
   ·right
    have e2:flt x 13875590451928498176=false:=by rw[l];exact decide_eq_false c2
    rw[e1,e2]
    exact⟨rfl,by omega,by omega,by simp⟩
theorem cuB_cn{x:Nat}(hx:x<18446744073709551616):cuB (cn x)=cn (cuB x):=by
 cases n:isN x with
 | true=>
  have n2:isN (cn x)=true:=by unfold cn;exact wH (by rw[dZ hx];exact n)
  rcases fJ hx with⟨_,e⟩ | ⟨h,_⟩ | ⟨h,_⟩ | ⟨h,_⟩
  ·rw[e]
   rcases fJ (jN hx)with⟨_,e'⟩ | ⟨h,_⟩ | ⟨h,_⟩ | ⟨h,_⟩
   ·rw[e'];decide
   ·rw[n2]at h;cases h
   ·rw[n2]at h;cases h
   ·rw[n2]at h;cases h
  ·rw[n]at h;cases h
  ·rw[n]at h;cases h
  ·rw[n]at h;cases h
 | false=>
  obtain⟨r,n2⟩:=rk_cn hx n
  rcases fJ hx with⟨h,_⟩ | ⟨_,h,e⟩ | ⟨_,h,e⟩ | ⟨_,h1,h2,e⟩
  ·rw[n]at h;cases h
  ·rcases fJ (jN hx)with⟨h',_⟩ | ⟨_,h',e'⟩ | ⟨_,h',e'⟩ | ⟨_,h',_,e'⟩
   ·rw[n2]at h';cases h'
   ·omega
   ·rw[e,e'];decide
   ·omega
  ·rcases fJ (jN hx)with⟨h',_⟩ | ⟨_,h',e'⟩ | ⟨_,h',e'⟩ | ⟨_,h',h'',e'⟩
   ·rw[n2]at h';cases h'
   ·rw[e,e'];decide
   ·omega
   ·omega
  ·rcases fJ (jN hx)with⟨h',_⟩ | ⟨_,h',e'⟩ | ⟨_,h',e'⟩ | ⟨_,h',h'',e'⟩
   ·rw[n2]at h';cases h'
   ·omega
   ·omega
   ·rw[e,e',AJ,lK hx]
theorem DY(hG:G<18446744073709551616)(ht:dt<18446744073709551616)(hu:u<18446744073709551616)(h1:ll<18446744073709551616)(h2:lr<18446744073709551616)(h3:dl<18446744073709551616)(h4:dr<18446744073709551616)(hg:gap<18446744073709551616):
  spB G dt D (negB u) lr ll dr dl gap=cn (spB G dt D u ll lr dl dr gap):=by
 unfold spB
 rw[hB_comm h3 h4,u1B_sw hG ht hu h1 h2 hg]
 have b:=u1B_lt (G:=G) (dt:=dt) (ll:=ll) (lr:=lr) (gap:=gap) hu
 have c:=u1B_can (G:=G) (dt:=dt) (ll:=ll) (lr:=lr) (gap:=gap) hu
 generalize u1B G dt u ll lr gap=x at*
 have e:drB D dt (cn x) (hB dl dr)=drB D dt x (hB dl dr):=by unfold drB;rw[mg_cn b c]
 by_cases q:fgt (hB dl dr) 0=true
 ·rw[if_pos q,if_pos q,e,Gm b (drB_lt _ _ _ _),cuB_cn (pY _ _)]
 ·rw[if_neg q,if_neg q]
  decide
theorem DZ(wl wr:Int)(ll lr bl br:Nat):opB wr wl lr ll br bl=opB wl wr ll lr bl br:=by
 unfold opB
 cases decide (0<wl)<;>cases decide (0<wr)<;>simp
theorem spB_in(G dt D u ll lr dl dr gap:Nat):spB G dt D u ll lr dl dr gap<18446744073709551616/\canonB (spB G dt D u ll lr dl dr gap)=spB G dt D u ll lr dl dr gap/\isN (spB G dt D u ll lr dl dr gap)=false/\ -4652218415073722368<=rk (spB G dt D u ll lr dl dr gap)/\rk (spB G dt D u ll lr dl dr gap)<=4652218415073722368:=by
 unfold spB
 by_cases q:fgt (hB dl dr) 0=true
 ·rw[if_pos q]
  have hx:=pY (u1B G dt u ll lr gap) (drB D dt (u1B G dt u ll lr gap) (hB dl dr))
  have hc:=pR (u1B G dt u ll lr gap) (drB D dt (u1B G dt u ll lr gap) (hB dl dr))
  generalize dvB (u1B G dt u ll lr gap) (drB D dt (u1B G dt u ll lr gap) (hB dl dr))=x at*
  rcases fJ hx with⟨_,e⟩ | ⟨_,_,e⟩ | ⟨_,_,e⟩ | ⟨n,h1,h2,e⟩<;>rw[e]
  ·decide
  ·decide
  ·decide
  ·rw[hc]
   exact⟨hx,hc,n,h1,h2⟩
 ·rw[if_neg q]
  decide
end
end Fc
end
section
open Tf Ieee
theorem qG(s:Bool):infW s=if s=true then 9223372036854775808+9218868437227405312 else 9218868437227405312:=by cases s<;>rfl
theorem mul_form(a b:Nat)(_ha:a<18446744073709551616)(hb:b<18446744073709551616):
  (∀s,s<18446744073709551616->mg s=mg a->double.mul s b=none)\/
  ∃m,m<=9218868437227405312/\ ∀s,s<18446744073709551616->mg s=mg a->double.mul s b=some (if(ng s ^^ ng b)=true then 9223372036854775808+m else m):=by
 rcases three b with kb | kb | kb
 ·rcases three a with ka | ka | ka
  ·refine .inr ⟨min (rung 52 1074 (mv (mg a)*mv (mg b))) 9218868437227405312,Nat.min_le_right _ _,fun s hs e=> ?_⟩
   rw[vY s b hs hb (by omega) kb,e]
  ·by_cases z:mg b=0
   ·refine .inl fun s hs e=> ?_
    rw[yJ s b hs hb (by omega) kb,if_pos z]
   ·refine .inr ⟨9218868437227405312,Nat.le_refl _,fun s hs e=> ?_⟩
    rw[yJ s b hs hb (by omega) kb,if_neg z,qG]
  ·refine .inl fun s hs e=>dM s b (.inl ?_)
   rw[bX]at ka ⊢
   omega
 ·rcases three a with ka | ka | ka
  ·by_cases z:mg a=0
   ·refine .inl fun s hs e=> ?_
    rw[nD s b hs hb (by omega) kb,if_pos (by omega)]
   ·refine .inr ⟨9218868437227405312,Nat.le_refl _,fun s hs e=> ?_⟩
    rw[nD s b hs hb (by omega) kb,if_neg (by omega),qG]
  ·refine .inr ⟨9218868437227405312,Nat.le_refl _,fun s hs e=> ?_⟩
   rw[Dh s b hs hb (by omega) kb,qG]
  ·refine .inl fun s hs e=>dM s b (.inl ?_)
   rw[bX]at ka ⊢
   omega
 ·exact .inl fun s _ _=>dM s b (.inr kb)
theorem Gn(s:Bool){m:Nat}(h:m<=9218868437227405312):ng (if s=true then 9223372036854775808+m else m)=s/\mg (if s=true then 9223372036854775808+m else m)=m/\(if s=true then 9223372036854775808+m else m)<18446744073709551616/\isN (if s=true then 9223372036854775808+m else m)=false:=by
 cases s
 ·simp only[Bool.false_eq_true,if_false]
  have e:mg m=m:=bO (by omega)
  exact⟨bV (by omega),e,by omega,cM.2 (by omega)⟩
 ·simp only[if_true]
  have e:mg (9223372036854775808+m)=m:=by unfold mg;omega
  exact⟨jH (by omega),e,by omega,cM.2 (by omega)⟩
def Opp(x y:Nat):Prop:=(isN x=true/\isN y=true)\/(isN x=false/\y=negB x)
theorem Ip(s:Bool){m:Nat}(h:m<=9218868437227405312):negB (if s=true then 9223372036854775808+m else m)=if(!s)=true then 9223372036854775808+m else m:=by
 unfold negB
 rw[(Gn s h).1]
 cases s
 ·simp only[Bool.false_eq_true,if_false,Bool.not_false,if_true];omega
 ·simp only[if_true,Bool.not_true,Bool.false_eq_true,if_false];omega
theorem Opp.mul{x y b:Nat}(hx:x<18446744073709551616)(hb:b<18446744073709551616)(hy:y<18446744073709551616)(h:Opp x y):Opp (mlB x b) (mlB y b):=by
 rcases h with⟨n1,n2⟩ | ⟨n1,rfl⟩
 ·refine .inl ⟨?_,?_⟩
  ·rw[cW (dM x b (.inl n1))];decide
  ·rw[cW (dM y b (.inl n2))];decide
 ·rcases mul_form x b hx hb with h | ⟨m,hm,h⟩
  ·refine .inl ⟨?_,?_⟩
   ·rw[cW (h x hx rfl)];decide
   ·rw[cW (h _ hy (dW hx))];decide
  ·refine .inr ⟨?_,?_⟩
   ·rw[dE (h x hx rfl)];exact(Gn _ hm).2.2.2
   ·rw[dE (h x hx rfl),dE (h _ hy (dW hx)),Ip _ hm,kA hx]
    cases ng x<;>cases ng b<;>rfl
def Zn(x:Nat):Prop:=isN x=true\/mg x=0
theorem Zn.mul{x b:Nat}(hx:x<18446744073709551616)(hb:b<18446744073709551616)(h:Zn x):Zn (mlB x b):=by
 rcases h with h | h
 ·left;rw[cW (dM x b (.inl h))];decide
 ·rcases three b with k | k | k
  ·right
   have e:mv (mg x)*mv (mg b)=0:=by rw[h,jX,Nat.zero_mul]
   have r:rung 52 1074 0=0:=by decide+kernel
   rw[dE (vY x b hx hb (by omega) k),e,r,Nat.zero_min]
   cases(ng x ^^ ng b)<;>decide
  ·left;rw[cW (by rw[nD x b hx hb (by omega) k,if_pos h])];decide
  ·left;rw[cW (dM x b (.inr k))];decide
theorem clamp_zn{x:Nat}(hx:x<18446744073709551616)(h:Zn x):clampB x 4503599627370496=0:=by
 rcases h with h | h
 ·unfold clampB;rw[if_pos h]
 ·have:x=0\/x=9223372036854775808:=by unfold mg at h;omega
  rcases this with rfl | rfl<;>decide+kernel
theorem Iq{x:Nat}(hx:x<18446744073709551616): -4503599627370496<=clampB x 4503599627370496/\clampB x 4503599627370496<=4503599627370496:=by
 have m:clampM 4503599627370496=4503599627370496:=by decide
 cases n:isN x
 ·rw[nJ x _ hx n,m]
  repeat' split
  all_goals omega
 ·unfold clampB;rw[if_pos n];omega
theorem Ir{x y:Nat}(hx:x<18446744073709551616)(h:Opp x y):clampB y 4503599627370496= -clampB x 4503599627370496:=by
 rcases h with⟨n1,n2⟩ | ⟨n1,rfl⟩
 ·unfold clampB;rw[if_pos n1,if_pos n2];rfl
 ·have:=DQ x 4503599627370496 hx n1 (by decide)
  omega
def qt4(u d l t:Nat):Nat:=mlB (mlB (mlB (mlB u d) l) t) 4742290407621132288
def qnB(u d l t:Nat):Int:=clampB (qt4 u d l t) 4503599627370496
section
variable {u d l t:Nat} (hu:u<18446744073709551616) (hd:d<18446744073709551616) (hl:l<18446744073709551616) (ht:t<18446744073709551616)
theorem qt_lt(hu:u<18446744073709551616)(hd:d<18446744073709551616)(hl:l<18446744073709551616)(ht:t<18446744073709551616):mlB u d<18446744073709551616/\mlB (mlB u d) l<18446744073709551616/\mlB (mlB (mlB u d) l) t<18446744073709551616/\qt4 u d l t<18446744073709551616:=by
 have a:=aQ hu hd
 have b:=aQ a hl
 have c:=aQ b ht
 exact⟨a,b,c,aQ c (by decide)⟩
theorem qn_in(hu:u<18446744073709551616)(hd:d<18446744073709551616)(hl:l<18446744073709551616)(ht:t<18446744073709551616): -4503599627370496<=qnB u d l t/\qnB u d l t<=4503599627370496:=Iq (qt_lt hu hd hl ht).2.2.2
theorem qn_neg(hu:u<18446744073709551616)(hd:d<18446744073709551616)(hl:l<18446744073709551616)(ht:t<18446744073709551616):qnB (negB u) d l t= -qnB u d l t:=by
 have hn:=bG hu
 have a:=qt_lt hu hd hl ht
 have b:=qt_lt hn hd hl ht
 have o0:Opp u (negB u):=by
  cases n:isN u
  ·exact .inr ⟨n,rfl⟩
  ·exact .inl ⟨n,by rw[yH];exact n⟩
 exact Ir a.2.2.2 ((((o0.mul hu hd hn).mul a.1 hl b.1).mul a.2.1 ht b.2.1).mul a.2.2.1 (by decide) b.2.2.1)
theorem qn_z1(hu:u<18446744073709551616)(hd:d<18446744073709551616)(hl:l<18446744073709551616)(ht:t<18446744073709551616)(z:mg u=0):qnB u d l t=0:=by
 have a:=qt_lt hu hd hl ht
 have h0:Zn u:=.inr z
 exact clamp_zn a.2.2.2 ((((h0.mul hu hd).mul a.1 hl).mul a.2.1 ht).mul a.2.2.1 (by decide))
end
end
section
open Tf Ieee
namespace Fc
def Zq(x:Nat):Prop:=x=0\/x=quiet
theorem dv_zq{z b:Nat}(hz:z<18446744073709551616)(hb:b<18446744073709551616)(h:Zn z):Zq (dvB z b):=by
 rcases h with h | h
 ·exact .inr (oM h)
 ·have e:=lR (a:=z) (b:=b) hz hb
  have c:canonB z=0:=by
   rcases fF hz h with rfl | rfl<;>decide
  rw[c]at e
  rw[<- e]
  exact dv0 hb
theorem sb_self{a:Nat}(ha:a<18446744073709551616)(f:mg a<9218868437227405312):sbB a a=0:=by
 unfold sbB
 rw[eD a (negB a) ha (bG ha) f (by rw[dW ha];exact f),yK ha,show sv a+ -sv a=0 by omega]
 decide
theorem zq_zn{x:Nat}(h:Zq x):Zn x:=by
 rcases h with rfl | rfl
 ·exact .inr (by decide)
 ·exact .inl (by decide)
theorem sb_zq{u p:Nat}(hu:u<18446744073709551616)(z:mg u=0)(h:Zq p):Zq (sbB u p):=by
 rcases h with rfl | rfl
 ·rw[<- fH hu (by omega)]
  have c:canonB u=0:=by rcases fF hu z with rfl | rfl<;>decide
  rw[c]
  exact .inl (by decide)
 ·rcases fF hu z with rfl | rfl
  ·exact .inr (by decide)
  ·exact .inr (by decide)
theorem cu_zq{x:Nat}(h:Zq x):cuB x=0:=by rcases h with rfl | rfl<;>decide
theorem spB_rest(G dt D dl dr gap:Nat){u a:Nat}(hG:G<18446744073709551616)(ht:dt<18446744073709551616)(hg:gap<18446744073709551616)(hu:u<18446744073709551616)(z:mg u=0)(ha:a<18446744073709551616)(f:mg a<9218868437227405312):spB G dt D u a a dl dr gap=0:=by
 unfold spB
 split
 ·have hk:=aQ hG ht
  have z1:Zn (mlB (mlB G dt) (sbB a a)):=by
   rw[sb_self ha f,cH]
   exact Zn.mul (by omega) hk (.inr (by decide))
  have z2:Zq (puB G dt a a gap):=dv_zq (aQ hk (bE ha ha)) hg z1
  have z3:Zq (u1B G dt u a a gap):=sb_zq hu z z2
  exact cu_zq (dv_zq (u1B_lt hu) (drB_lt _ _ _ _) (zq_zn z3))
 ·rfl
end Fc
end
section
open Go.RowKit Tf Cu Go.Deep
def OwnG(B:Nat)(v:Value)(l:List Nat)(w:World):Prop:=w.ownsRow B 22 1 v l.length (l.map (Value.float .f64))
theorem OwnG.fl{B:Nat}{v:Value}{l:List Nat}{w:World}(h:OwnG B v l w)(hl: ∀x ∈ l,x<18446744073709551616): ∃a0 cap,v=.slice a0 l.length cap/\IsFl w a0 l.length (fun j=>l.getD j 0):=by
 rcases h.2 with⟨rfl,h0⟩ | ⟨g,cap,cur,rfl,hb,hg,h1,h2,h3,h4⟩
 ·exact⟨none,0,by rw[h0],fun k hk=>by omega⟩
 ·refine⟨some ⟨g,0,none⟩,cap,rfl,fun k hk=> ?_⟩
  have hx:l.getD k 0=l[k]:=by simp[List.getD,hk]
  refine⟨by dsimp only;rw[hx];exact hl _ (List.getElem_mem _),g,0,rfl,lt_of_block hg,?_⟩
  have e:=h.cells (g:=g) rfl k (.float .f64 (l.getD k 0)) (by simp[hk])
  rw[mO]at e
  exact e
theorem OwnG.new(w:World)(B:Nat)(hB:B<=w.heap.size):OwnG B (.slice (some ⟨w.heap.size,0,none⟩) 0 0) [] (w.alloc (.cells #[] 22)):=
 ⟨by simp,.inr ⟨w.heap.size,0,#[],rfl,hB,heap_alloc_new _ _,Nat.le_refl _,by unfold maxLen;omega,by simp,by simp⟩⟩
theorem OwnG.to{B:Nat}{v:Value}{l:List Nat}{w w':World}(h:OwnG B v l w)(hb:Ab w w'):OwnG B v l w':=by
 refine⟨h.1,?_⟩
 rcases h.2 with h0 | ⟨g,cap,cur,e,hb',hg,h1,h2,h3,h4⟩
 ·exact .inl h0
 ·exact .inr ⟨g,cap,cur,e,hb',hb.heap hg,h1,h2,h3,h4⟩
theorem info_g: ∃i,Tryz.prog.info? 22=some i/\i.zero=some (.float .f64 0)/\i.size=1/\i.bytes=8:=by
 have h:=rO
 cases e:Tryz.prog.info? 22 with
 | none=>rw[e]at h;cases h
 | some i=>
  rw[e]at h
  simp at h
  exact⟨i,rfl,h.1,h.2.1,h.2.2⟩
end
section
open Go.RowKit Tf Cu Go.Deep
namespace Fc
def eL(n i:Nat):Nat:=edT n i/4
def eR(n i:Nat):Nat:=mt n (edT n i)/4
def gpE(n i:Nat):Nat:=GpC n (edT n i/4) (edT n i%4)
def lvC(n:Nat)(B:Nat->Nat)(W:Nat->Int)(c:Nat):Nat:=lvl (B c) (W c) (arC n c)
def dpC(n:Nat)(W:Nat->Int)(c:Nat):Nat:=dpB (W c) (arC n c)
def opE(n:Nat)(B:Nat->Nat)(W:Nat->Int)(i:Nat):Bool:=opB (W (eL n i)) (W (eR n i)) (lvC n B W (eL n i)) (lvC n B W (eR n i)) (B (eL n i)) (B (eR n i))
def spE(n G dt D:Nat)(B:Nat->Nat)(W:Nat->Int)(Sp:Nat->Nat)(i:Nat):Nat:=if opE n B W i=true then spB G dt D (Sp i) (lvC n B W (eL n i)) (lvC n B W (eR n i)) (dpC n W (eL n i)) (dpC n W (eR n i)) (gpE n i)else 0
def fit4(n lb lw lt ls:Nat):Prop:=lb=6*n*n/\lw=6*n*n/\lt=6*n*n/\ls=12*n*n
def has4(n lb lw lt ls:Nat)(e:Int):Prop:=fit4 n lb lw lt ls/\inR e (12*n*n:Nat)=true
def SpeedC:Prop:= ∀(n gb:Nat) (sd:Int) (dt gr dr:Nat) (lim:Int) (rv:Bool) (pr:Option Addr) (lr cr:Nat) (pb:Option Addr) (lb cb:Nat) (B:Nat->Nat) (pw:Option Addr) (lw cw:Nat) (Wt:Nat->Int) (pt:Option Addr) (lt ct:Nat) (ps:Option Addr) (ls cs:Nat) (Sp:Nat->Nat) (sky st e:Int) (w:World),(1<=n/\n<=32)->GridOf n gb w->IsFl w pb lb B->IsIn w pw lw Wt->IsFl w ps ls Sp->(dt<18446744073709551616/\gr<18446744073709551616/\dr<18446744073709551616)->(-9223372036854775808<=e/\e<=9223372036854775807)->
 (has4 n lb lw lt ls e->Calls prog 59 #[.pointer (some ⟨gb,0,none⟩),.agg #[.int .i64 sd,.float .f64 dt,.float .f64 gr,.float .f64 dr,.int .i64 lim,.bool rv,.slice pr lr cr],.agg #[.slice pb lb cb,.slice pw lw cw,.slice pt lt ct,.slice ps ls cs,.int .i64 sky,.int .i64 st],.int .i64 e] w fun x w'=>x=.returned (.float .f64 (spE n gr dt dr B Wt Sp e.toNat))/\Below w.heap.size w w')/\
 (¬has4 n lb lw lt ls e->Calls prog 59 #[.pointer (some ⟨gb,0,none⟩),.agg #[.int .i64 sd,.float .f64 dt,.float .f64 gr,.float .f64 dr,.int .i64 lim,.bool rv,.slice pr lr cr],.agg #[.slice pb lb cb,.slice pw lw cw,.slice pt lt ct,.slice ps ls cs,.int .i64 sky,.int .i64 st],.int .i64 e] w fun x w'=>x=.returned (.float .f64 0)/\Below w.heap.size w w')
def SpeedsC:Prop:= ∀(n gb:Nat) (sd:Int) (dt gr dr:Nat) (lim:Int) (rv:Bool) (pr:Option Addr) (lr cr:Nat) (pb:Option Addr) (lb cb:Nat) (B:Nat->Nat) (pw:Option Addr) (lw cw:Nat) (Wt:Nat->Int) (pt:Option Addr) (lt ct:Nat) (ps:Option Addr) (ls cs:Nat) (Sp:Nat->Nat) (sky st:Int) (w:World),(1<=n/\n<=32)->GridOf n gb w->IsFl w pb lb B->IsIn w pw lw Wt->IsFl w ps ls Sp->(dt<18446744073709551616/\gr<18446744073709551616/\dr<18446744073709551616)->
 (fit4 n lb lw lt ls->Calls prog 18 #[.pointer (some ⟨gb,0,none⟩),.agg #[.int .i64 sd,.float .f64 dt,.float .f64 gr,.float .f64 dr,.int .i64 lim,.bool rv,.slice pr lr cr],.agg #[.slice pb lb cb,.slice pw lw cw,.slice pt lt ct,.slice ps ls cs,.int .i64 sky,.int .i64 st]] w fun e w'=> ∃v,e=.returned (.tuple #[v,.int .i64 0])/\Below w.heap.size w w'/\OwnG w.heap.size v ((List.range (12*n*n)).map (spE n gr dt dr B Wt Sp)) w')/\
 (¬fit4 n lb lw lt ls->Calls prog 18 #[.pointer (some ⟨gb,0,none⟩),.agg #[.int .i64 sd,.float .f64 dt,.float .f64 gr,.float .f64 dr,.int .i64 lim,.bool rv,.slice pr lr cr],.agg #[.slice pb lb cb,.slice pw lw cw,.slice pt lt ct,.slice ps ls cs,.int .i64 sky,.int .i64 st]] w fun e w'=>e=.returned (.tuple #[.slice none 0 0,.int .i64 1])/\Below w.heap.size w w')
theorem qH(n G dt D:Nat)(B:Nat->Nat)(W:Nat->Int)(Sp:Nat->Nat)(i:Nat):spE n G dt D B W Sp i<18446744073709551616/\canonB (spE n G dt D B W Sp i)=spE n G dt D B W Sp i/\isN (spE n G dt D B W Sp i)=false/\ -4652218415073722368<=rk (spE n G dt D B W Sp i)/\rk (spE n G dt D B W Sp i)<=4652218415073722368:=by
 unfold spE
 split
 ·exact spB_in _ _ _ _ _ _ _ _ _
 ·exact⟨by decide,by decide,by decide,by decide,by decide⟩
end Fc
end
section
open Go.RowKit Tf Cu Go.Deep
attribute [local go_sem] aL aM aV aW aX aY aZ aG
def lnE(n i:Nat):Nat:=LnC n (edT n i/4) (edT n i%4)
def flB(n:Nat)(lim:Int)(B:Nat->Nat)(W:Nat->Int)(Sp:Nat->Nat)(dt i:Nat):Int:=qnB (Sp i) (rdAll n lim (6*n*n) (6*n*n) B W (i:Nat) (Sp i)) (lnE n i) dt
def QuantaC:Prop:= ∀(u d l t:Nat) (w:World),u<18446744073709551616->d<18446744073709551616->l<18446744073709551616->t<18446744073709551616->
 Calls prog 62 #[.float .f64 u,.float .f64 d,.float .f64 l,.float .f64 t] w fun e w'=>e=.returned (.int .i64 (qnB u d l t))/\Below w.heap.size w w'
def AllC:Prop:= ∀(n gb:Nat) (sd:Int) (dt gr dr:Nat) (lim:Int) (rv:Bool) (pr:Option Addr) (lr cr:Nat) (pb:Option Addr) (lb cb:Nat) (B:Nat->Nat) (pw:Option Addr) (lw cw:Nat) (Wt:Nat->Int) (pt:Option Addr) (lt ct:Nat) (ps:Option Addr) (ls cs:Nat) (Sp:Nat->Nat) (sky st:Int) (w:World),(1<=n/\n<=32)->GridOf n gb w->IsFl w pb lb B->IsIn w pw lw Wt->IsFl w ps ls Sp->dt<18446744073709551616->
 ((lb=6*n*n/\lw=6*n*n/\lt=6*n*n/\ls=12*n*n)->Calls prog 19 #[.pointer (some ⟨gb,0,none⟩),.agg #[.int .i64 sd,.float .f64 dt,.float .f64 gr,.float .f64 dr,.int .i64 lim,.bool rv,.slice pr lr cr],.agg #[.slice pb lb cb,.slice pw lw cw,.slice pt lt ct,.slice ps ls cs,.int .i64 sky,.int .i64 st]] w fun e w'=> ∃b,e=.returned (.tuple #[.slice (some ⟨b,0,none⟩) (12*n*n) (12*n*n),.int .i64 0])/\Below w.heap.size w w'/\w'.rowIs b 2 (12*n*n) (fun i=>.int .i64 (flB n lim B Wt Sp dt i))/\w.heap.size<=b)/\
 (¬(lb=6*n*n/\lw=6*n*n/\lt=6*n*n/\ls=12*n*n)->Calls prog 19 #[.pointer (some ⟨gb,0,none⟩),.agg #[.int .i64 sd,.float .f64 dt,.float .f64 gr,.float .f64 dr,.int .i64 lim,.bool rv,.slice pr lr cr],.agg #[.slice pb lb cb,.slice pw lw cw,.slice pt lt ct,.slice ps ls cs,.int .i64 sky,.int .i64 st]] w fun e w'=>e=.returned (.tuple #[.slice none 0 0,.int .i64 1])/\Below w.heap.size w w')
theorem kH{n:Nat}{k:Int}{lb lw:Nat}{B:Nat->Nat}{W:Nat->Int}(hn:1<=n)(hB: ∀i,i<lb->B i<18446744073709551616)(hW: ∀i,i<lw->W i<=9223372036854775807)(e:Int)(u:Nat):rdAll n k lb lw B W e u<18446744073709551616/\ng (rdAll n k lb lw B W e u)=false:=by
 have z:(0:Nat)<18446744073709551616/\ng 0=false:=by decide
 unfold rdAll
 split
 ·rename_i c
  obtain⟨c1,rfl,rfl⟩:=c
  obtain⟨E,rfl,hE⟩:=rS c1
  rw[Int.toNat_natCast]
  obtain⟨t1,t2,t3⟩:=bH hn hE
  generalize edT n E=t at*
  have key: ∀t,t<24*n*n->sdD n k (arC n) B W t<18446744073709551616/\ng (sdD n k (arC n) B W t)=false:=fun t ht=>by
   have cU:=aN ht
   have cD:=aN (bZ hn ht)
   have wU:=hW _ cU
   have bU:=hB _ cU
   have bD:=hB _ cD
   unfold sdD ovC rcR
   have ml:=zB (rcV_lt (k:=k) (hb:=dpB (W (bkC n t)) (arC n (bkC n t))) (hd:=dpB (W (mt n t/4)) (arC n (mt n t/4))) (show dpB (W (t/4)) (arC n (t/4))<9218868437227405312 by have:=oU wU (dA n (t/4)).2;omega)) (show rcG (lvl (B (t/4)) (W (t/4)) (arC n (t/4))) (B (t/4)) (B (mt n t/4))<18446744073709551616 by
    unfold rcG sbB
    exact jZ _ _ (tM bU wU (dA n _).2) (bG (Gj bU bD)))
   refine⟨pos0_lt ml,?_⟩
   unfold pos0
   split
   ·rename_i q
    rw[dQ ml]at q
    exact bV (by have:=(cJ.1 q).2;omega)
   ·decide
  unfold rdT
  split
  ·exact key _ t1
  ·split
   ·exact key _ (bZ hn t1)
   ·exact z
 ·exact z
theorem rt_lt64(x:Nat):rtB x<18446744073709551616:=by
 cases h:Ieee.double.sqrt x with
 | none=>rw[jM h];decide
 | some r=>rw[jL h];exact eF (sqrt_lt h)
theorem tV(n i:Nat):lnE n i<18446744073709551616:=by unfold lnE LnC gp lnB;exact rt_lt64 _
end
section
open Cu
namespace Sh
def og(n:Nat)(F:Nat->Int)(t:Nat):Int:=if 0<F (eE n t)*eS n t then F (eE n t)*eS n t else 0
def oS(n:Nat)(F:Nat->Int)(c:Nat):Int:=sumN (fun s=>og n F (4*c+s)) 4
def ct(n:Nat)(W F:Nat->Int)(t:Nat):Int:=nH (W (t/4)) (oS n F (t/4)) (og n F t)
def allF(n:Nat)(W F:Nat->Int)(e:Nat):Int:=ct n W F (edT n e) - ct n W F (mt n (edT n e))
theorem xB{n t:Nat}(hn:1<=n)(h:t<24*n*n):eE n (mt n t)=eE n t:=by
 unfold eE
 rw[cY hn h,eU hn h]
 cases isL n t<;>simp
theorem eS_mt{n t:Nat}(hn:1<=n)(h:t<24*n*n):eS n (mt n t)= -eS n t:=by
 unfold eS
 rw[cY hn h]
 cases isL n t<;>simp
theorem Bs(n:Nat)(F:Nat->Int)(t:Nat):0<=og n F t:=by unfold og;split<;>omega
theorem qJ{n:Nat}{F:Nat->Int}{t:Nat}(hn:1<=n)(h:t<24*n*n):og n F t=0\/og n F (mt n t)=0:=by
 unfold og
 rw[xB hn h,eS_mt hn h,Int.mul_neg]
 by_cases c:0<F (eE n t)*eS n t
 ·right;rw[if_neg (by omega)]
 ·left;rw[if_neg c]
theorem oY{n:Nat}{F:Nat->Int}{t:Nat}{m:Int}(hm:0<=m)(h: -m<=F (eE n t)/\F (eE n t)<=m):og n F t<=m:=by
 unfold og eS
 generalize F (eE n t)=x at*
 cases isL n t
 ·simp only[Bool.false_eq_true,if_false]
  split<;>omega
 ·simp only[if_true]
  split<;>omega
theorem oS_le{n:Nat}{F:Nat->Int}{c:Nat}{m:Int}(hm:0<=m)(h: ∀s,s<4-> -m<=F (eE n (4*c+s))/\F (eE n (4*c+s))<=m):oS n F c<=4*m:=by
 have h0:=oY (n:=n) hm (h 0 (by omega))
 have h1:=oY (n:=n) hm (h 1 (by omega))
 have h2:=oY (n:=n) hm (h 2 (by omega))
 have h3:=oY (n:=n) hm (h 3 (by omega))
 show 0+og n F (4*c+0)+og n F (4*c+1)+og n F (4*c+2)+og n F (4*c+3)<=4*m
 omega
theorem tW{n:Nat}{W F:Nat->Int}{t:Nat}(hW:0<=W (t/4))(h:og n F t<=9223372036854775807):0<=ct n W F t/\ct n W F t<=og n F t:=F8 hW (Bs n F t) h
theorem kJ{n:Nat}{W F:Nat->Int}{t:Nat}(hW:0<=W (t/4))(h:og n F t=0):ct n W F t=0:=by unfold ct;rw[h];exact Ie hW
theorem qK{n t:Nat}(hn:1<=n)(h:t<24*n*n):edT n (eE n t)=if isL n t=true then t else mt n t:=by
 unfold eE
 by_cases c:isL n t=true
 ·rw[if_pos c,if_pos c,eI hn h c]
 ·have c':isL n (mt n t)=true:=by rw[cY hn h];simpa using c
  rw[if_neg c,if_neg c,eI hn (bZ hn h) c']
theorem xC{n:Nat}{W F:Nat->Int}{t:Nat}(hn:1<=n)(h:t<24*n*n):allF n W F (eE n t)*eS n t=ct n W F t - ct n W F (mt n t):=by
 unfold allF
 rw[qK hn h]
 unfold eS
 by_cases c:isL n t=true
 ·rw[if_pos c,if_pos c];omega
 ·rw[if_neg c,if_neg c,eU hn h];omega
theorem D0{n:Nat}{W F:Nat->Int}{t:Nat}{m:Int}(hn:1<=n)(h:t<24*n*n)(hW: ∀c,c<6*n*n->0<=W c)(hm:0<=m/\m<=9223372036854775807)(hF: ∀e,e<12*n*n-> -m<=F e/\F e<=m):
  (if 0<allF n W F (eE n t)*eS n t then allF n W F (eE n t)*eS n t else 0)=ct n W F t:=by
 have c1:=tW (hW _ (aN h)) (show og n F t<=9223372036854775807 by have:=oY (n:=n) hm.1 (hF _ (fN hn h));omega)
 have h2:=bZ hn h
 have c2:=tW (hW _ (aN h2)) (show og n F (mt n t)<=9223372036854775807 by have:=oY (n:=n) hm.1 (hF _ (fN hn h2));omega)
 rw[xC hn h]
 rcases qJ (F:=F) hn h with o | o
 ·have z:=kJ (hW _ (aN h)) o
  rw[if_neg (by omega)]
  omega
 ·have z:=kJ (hW _ (aN h2)) o
  by_cases q:0<ct n W F t
  ·rw[if_pos (by omega)];omega
  ·rw[if_neg (by omega)];omega
theorem It{n:Nat}{W F:Nat->Int}{e:Nat}{m:Int}(hn:1<=n)(he:e<12*n*n)(hW: ∀c,c<6*n*n->0<=W c)(hm:0<=m/\m<=9223372036854775807)(hF: ∀e,e<12*n*n-> -m<=F e/\F e<=m):
  (0<=F e->0<=allF n W F e/\allF n W F e<=F e)/\(F e<=0->F e<=allF n W F e/\allF n W F e<=0):=by
 obtain⟨t1,t2,t3⟩:=bH hn he
 have m1:=bZ hn t1
 have eE1:eE n (edT n e)=e:=by unfold eE;rw[if_pos t2,t3]
 have eS1:eS n (edT n e)=1:=by unfold eS;rw[if_pos t2]
 have o1:og n F (edT n e)=if 0<F e then F e else 0:=by unfold og;rw[eE1,eS1,Int.mul_one]
 have o2:og n F (mt n (edT n e))=if 0< -F e then -F e else 0:=by unfold og;rw[xB hn t1,eS_mt hn t1,eE1,eS1,Int.mul_neg,Int.mul_one]
 have hFe:=hF e he
 have c1:=tW (n:=n) (F:=F) (hW _ (aN t1)) (by rw[o1];split<;>omega)
 have c2:=tW (n:=n) (F:=F) (hW _ (aN m1)) (by rw[o2];split<;>omega)
 unfold allF
 rw[o1]at c1
 rw[o2]at c2
 generalize ct n W F (edT n e)=a at*
 generalize ct n W F (mt n (edT n e))=b at*
 constructor
 ·intro h
  rw[if_neg (by omega)]at c2
  split at c1<;>omega
 ·intro h
  rw[if_neg (by omega)]at c1
  split at c2<;>omega
theorem D3{n:Nat}{W F:Nat->Int}{c:Nat}{m:Int}(hc:c<6*n*n)(hn:1<=n)(hW:0<=W c)(hm:0<=m/\m<=2305843009213693951)(hF: ∀e,e<12*n*n-> -m<=F e/\F e<=m):
  (oS n F c<=W c->sumN (fun s=>ct n W F (4*c+s)) 4=oS n F c)/\(W c<oS n F c->sumN (fun s=>ct n W F (4*c+s)) 4<=W c/\W c - 4<sumN (fun s=>ct n W F (4*c+s)) 4):=by
 have b:=oS_le (n:=n) (F:=F) (c:=c) hm.1 (fun s hs=>hF _ (fN hn (fT hc hs)))
 have k:=cut_sum (f:=fun s=>og n F (4*c+s)) (W:=W c) (n:=4) hW (fun _ _=>Bs _ _ _) (by have:sumN (fun s=>og n F (4*c+s)) 4=oS n F c:=rfl;omega)
 have e:sumN (fun s=>ct n W F (4*c+s)) 4=sumN (fun i=>nH (W c) (sumN (fun s=>og n F (4*c+s)) 4) (og n F (4*c+i))) 4:=by
  refine cP (fun s hs=> ?_)
  unfold ct
  rw[(nT hs).1]
  rfl
 rw[e]
 exact k
end Sh
end
end Go.Proofs.YtaphajlpbgcfjaaGreatDoor
