/-
  Some of the texts of this proof, one behind the other.
-/
import Derived.Deep.QuietTactic
import Derived.Test.YtmhnilnaffjhmaaGreatDoorCdr09
set_option maxRecDepth 100000
set_option maxHeartbeats 400000000
namespace Go.Proofs.YtmhnilnaffjhmaaGreatDoor
open _root_.Go.Proofs.Tryz
section
open Tf Cu
namespace Co
open Ss Fc St
theorem qn_up{u d l t:Nat}(hu:u<18446744073709551616)(hd:d<18446744073709551616)(hl:l<18446744073709551616)(ht:t<18446744073709551616)(nu:isN u=false)(nd:Nnn d)(nl:Nnn l)(nt:Nnn t):
  (0<qnB u d l t->fgt u 0=true/\mg d≠0)/\(qnB u d l t<0->fgt u 0=false/\flt u 0=true/\mg d≠0):=by
 have z2:mg d=0->qnB u d l t=0:=qn_z2 hu hd hl ht
 cases p:fgt u 0 with
 | true=>
  have k:=qn_pos hu hd hl ht (fgt_nnn hu p) nd nl nt
  exact⟨fun q=>⟨rfl,fun z=>by have:=z2 z;omega⟩,fun q=>absurd q (by omega)⟩
 | false=>
  cases m:flt u 0 with
  | true=>
   have k:=FM hu hd hl ht (flt_nnn hu m) nd nl nt
   exact⟨fun q=>absurd q (by omega),fun q=>⟨rfl,rfl,fun z=>by have:=z2 z;omega⟩⟩
  | false=>
   have z:mg u=0:=by
    rw[cV hu]at p
    rw[dT hu]at m
    have a:=zM.1 p
    have b:=ns_no.1 m
    have n:=bO.1 nu
    unfold mg at*
    omega
   have k:=qn_z1 hu hd hl ht z
   exact⟨fun q=>absurd q (by omega),fun q=>absurd q (by omega)⟩
theorem up_of{l m:Nat}(hl:l<18446744073709551616)(hm:m<18446744073709551616)(fl:mg l<9218868437227405312)(fm:mg m<9218868437227405312)(h:0<rk (sbB l m)):rk m<rk l:=by
 by_cases c:rk m<rk l
 ·exact c
 ·exfalso
  have s:=(lP l m).2 (by omega)
  have k:sbB l m=rn false (sv l+sv (negB m)):=dA l (negB m) hl (bC hm) fl (by rw[dL hm];exact fm)
  rw[k,rk_rn,lF hm]at h
  have:=wA (show sv l+ -sv m<=0 by omega)
  rw[show R 0=0 by decide+kernel]at this
  omega
theorem pos0_nz{r:Nat}(h:mg (pZ r)≠0):fgt r 0=true:=by
 unfold pZ at h
 by_cases c:fgt r 0=true
 ·exact c
 ·rw[if_neg c]at h
  exact absurd rfl h
theorem rc_up{k:Int}{h hb hd l bu bd:Nat}(h1:rcV k h hb hd<18446744073709551616)(hl:l<18446744073709551616)(hu:bu<18446744073709551616)(hd2:bd<18446744073709551616)(nu:isN bu=false)(nd:isN bd=false)(fl:mg l<9218868437227405312)(fu:mg bu<9218868437227405312)(fd:mg bd<9218868437227405312)(z:mg (rcR k h hb hd l bu bd)≠0):rk bd<rk l:=by
 have q:=pos0_nz z
 have lm:=xD hu hd2
 have lg:rcG l bu bd<18446744073709551616:=bT hl lm
 have ll:=qM h1 lg
 have n:=((wY ll (by decide)).1 q)
 have n1:isN (rcV k h hb hd)=false:=by
  cases e:isN (rcV k h hb hd)with
  | false=>rfl
  | true=>rw[gB (.inl e)]at n;exact absurd n.1 (by decide)
 have n2:isN (rcG l bu bd)=false:=by
  cases e:isN (rcG l bu bd)with
  | false=>rfl
  | true=>rw[gB (.inr e)]at n;exact absurd n.1 (by decide)
 have k2:=(sH h1 lg n1 n2).2.2
 have p:=n.2.2
 rw[iI]at p
 have mx:(maxB bu bd=bu\/maxB bu bd=bd)/\rk bd<=rk (maxB bu bd):=by
  have key: ∀x y:Nat,x<18446744073709551616->y<18446744073709551616->placeB x<=placeB y->rk x<=rk y:=by
   intro x y hx hy h
   unfold placeB at h
   unfold rk
   cases gx:ng x<;>cases gy:ng y<;>simp only[gx,gy,if_true,if_false,Bool.false_eq_true]at h ⊢ <;>unfold ng at gx gy<;>simp only[decide_eq_true_eq,decide_eq_false_iff_not]at gx gy<;>unfold mg<;>omega
  unfold maxB
  rw[nu,nd,if_neg (by decide)]
  split
  ·rename_i c
   exact⟨.inr rfl,Int.le_refl _⟩
  ·rename_i c
   exact⟨.inl rfl,key _ _ hd2 hu (by omega)⟩
 have fm:mg (maxB bu bd)<9218868437227405312:=by
  rcases mx.1 with e | e<;>rw[e]<;>assumption
 have:=up_of hl lm fl fm (show 0<rk (rcG l bu bd)by omega)
 omega
section
variable {n G dt D lr:Nat} {lim:Int} {R:Nat->Int × Int × Int × Int} {B:Nat->Nat} {W T:Nat->Int} {S:Nat->Nat} {sky st:Int}
theorem qR(h:okS n B W T S sky st){c:Nat}(hc:c<6*n*n):B c<18446744073709551616/\isN (B c)=false/\mg (B c)<9218868437227405312/\mg (lvl (B c) (W c) (arC n c))<9218868437227405312:=by
 have hb:=h.2.1 c hc
 have b:=(bB_iff hb).1 (h.1.1 c hc)
 have w:W c<=4503599627370496:=by
  have:=kQ h.1.2.2.1.1 hc
  have:=h.1.2.2.1.2
  have:=h.1.2.1.1
  omega
 refine⟨hb,b.1,?_,St.Br hb b.2.1.2 b.2.1.1 w (cO n c).2⟩
 have h1:=b.2.1.1
 have h2:=b.2.1.2
 unfold rk at h1 h2
 cases q:ng (B c)with
 | true=>rw[q,if_pos rfl]at h1;omega
 | false=>rw[q,if_neg (by decide)]at h2;omega
theorem El(hp:okP n G dt D lr R)(h:okS n B W T S sky st)(nt:Nnn dt){t:Nat}(ht:t<24*n*n)(q:0<waF n lim G dt D B W S (eE n t)*eS n t):
  0<W (t/4)/\rk (B (mt n t/4))<rk (lvl (B (t/4)) (W (t/4)) (arC n (t/4))):=by
 have hn:=hp.1.1
 have m1:=cQ hn ht
 have c1:=aN ht
 have c2:=aN m1
 have e1:=eD hn ht
 have k:=okS_B h
 have w0: ∀c,c<6*n*n->0<=W c:=h.1.2.2.1.1
 have wf: ∀e,e<12*n*n-> -4503599627370496<=wtF n lim G dt D B W S e/\wtF n lim G dt D B W S e<=4503599627370496:=fun e he=>sU hp h he
 refine⟨?_,?_⟩
 ·have o:=vD (lim:=lim) hp h c1
  have g:Sh.og n (waF n lim G dt D B W S) t<=Sh.oS n (waF n lim G dt D B W S) (t/4):=by
   have z: ∀s,s<4->0<=Sh.og n (waF n lim G dt D B W S) (4*(t/4)+s):=fun s _=>Sh.vA _ _ _
   have y:=kQ (W:=fun s=>Sh.og n (waF n lim G dt D B W S) (4*(t/4)+s)) z (i:=t%4) (by omega)
   rw[show 4*(t/4)+t%4=t by omega]at y
   exact y
  have e:Sh.og n (waF n lim G dt D B W S) t=waF n lim G dt D B W S (eE n t)*eS n t:=by unfold Sh.og;rw[if_pos q]
  omega
 ·have a:=Sh.oZ (n:=n) (W:=W) (F:=wtF n lim G dt D B W S) hn ht
  have ca:=Sh.mD (n:=n) (F:=wtF n lim G dt D B W S) (w0 _ c1) (by have:=Sh.jX (n:=n) (m:=4503599627370496) (by decide) (wf _ e1);omega)
  have cb:=Sh.mD (n:=n) (F:=wtF n lim G dt D B W S) (w0 _ c2) (by have:=Sh.jX (n:=n) (t:=mt n t) (m:=4503599627370496) (by decide) (wf _ (eD hn m1));omega)
  have og:0<Sh.og n (wtF n lim G dt D B W S) t:=by
   have:waF n lim G dt D B W S (eE n t)=Sh.allF n W (wtF n lim G dt D B W S) (eE n t):=rfl
   rw[this]at q
   omega
  have f:0<wtF n lim G dt D B W S (eE n t)*eS n t:=by
   unfold Sh.og at og
   split at og<;>omega
  have u:=mN n G dt D B W S (eE n t)
  have dd:=mO (k:=lim) (lb:=6*n*n) (lw:=6*n*n) (W:=W) hn (fun i hi=>(k.1 i hi).1) (fun i hi=>(k.1 i hi).2) (eE n t:Nat) (spE n G dt D B W S (eE n t))
  have ql:=qn_up u.1 dd.1 (sP n (eE n t)) hp.2.1.2.1 u.2.2.1 (.inr dd.2) (by
   rcases(lnE_in hp.1 e1).2 with l
   exact .inr (bF (by omega))) nt
  have sd:mg (sdD n lim (arC n) B W t)≠0:=by
   by_cases s:isL n t=true
   ·have ee:eE n t=eN n t:=by unfold eE;rw[if_pos s]
    have es:eS n t=1:=by unfold eS;rw[if_pos s]
    rw[es,Int.mul_one]at f
    have z:=ql.1 f
    have z2:=z.2
    rw[ee,sJ hn ht s,rdT_p (by rw[<- ee];exact z.1)]at z2
    exact z2
   ·have s':isL n (mt n t)=true:=by rw[gV hn ht];simpa using s
    have ee:eE n t=eN n (mt n t):=by unfold eE;rw[if_neg s]
    have es:eS n t= -1:=by unfold eS;rw[if_neg s]
    rw[es]at f
    have z:=ql.2 (by show wtF n lim G dt D B W S (eE n t)<0;omega)
    have z2:=z.2.2
    rw[ee,sJ hn m1 s',rdT_n (by rw[<- ee];exact z.1) (by rw[<- ee];exact z.2.1),gI hn ht]at z2
    exact z2
  have b1:=qR h c1
  have b2:=qR h c2
  have wU:=(k.1 _ c1).2
  refine rc_up (k:=lim) (BM (show dpB (W (t/4)) (arC n (t/4))<9218868437227405312 by have:=mA wU (cO n (t/4)).2;omega)) (sG b1.1 wU (cO n _).2) b1.1 b2.1 b1.2.1 b2.2.1 b1.2.2.2 b1.2.2.1 b2.2.2.1 sd
theorem En(hp:okP n G dt D lr R)(h:okS n B W T S sky st)(nt:Nnn dt){e:Nat}(he:e<12*n*n):
  (0<waF n lim G dt D B W S e->0<W (eL n e)/\rk (B (eR n e))<rk (lvl (B (eL n e)) (W (eL n e)) (arC n (eL n e))))/\
  (waF n lim G dt D B W S e<0->0<W (eR n e)/\rk (B (eL n e))<rk (lvl (B (eR n e)) (W (eR n e)) (arC n (eR n e)))):=by
 have hn:=hp.1.1
 obtain⟨t1,t2,t3⟩:=bI hn he
 have m1:=cQ hn t1
 have e1:eE n (edT n e)=e:=by unfold eE;rw[if_pos t2,t3]
 have s1:eS n (edT n e)=1:=by unfold eS;rw[if_pos t2]
 have e2:eE n (mt n (edT n e))=e:=by rw[Sh.pV hn t1,e1]
 have s2:eS n (mt n (edT n e))= -1:=by rw[Sh.uZ hn t1,s1]
 refine⟨fun q=> ?_,fun q=> ?_⟩
 ·exact El hp h nt t1 (by rw[e1,s1,Int.mul_one];exact q)
 ·have y:=El hp h nt m1 (lim:=lim) (by rw[e2,s2];omega)
  rw[gI hn t1]at y
  exact y
theorem dry_mv(hp:okP n G dt D lr R)(h:okS n B W T S sky st){c:Nat}(hc:c<6*n*n)(z:W c=0)(zs: ∀s,s<4->W (mt n (4*c+s)/4)=0):mvW n lim G dt D B W S c=0:=by
 have hn:=hp.1.1
 have w0: ∀c,c<6*n*n->0<=W c:=h.1.2.2.1.1
 have wf: ∀e,e<12*n*n-> -4503599627370496<=wtF n lim G dt D B W S e/\wtF n lim G dt D B W S e<=4503599627370496:=fun e he=>sU hp h he
 have out: ∀t,t<24*n*n->W (t/4)=0->Sh.ct n W (wtF n lim G dt D B W S) t=0:=fun t ht e=>by
  have a:=Sh.oS_le (n:=n) (F:=wtF n lim G dt D B W S) (c:=t/4) (m:=4503599627370496) (by decide) (fun s hs=>wf _ (eD hn (eK (aN ht) hs)))
  have g:=(Sh.sQ (n:=n) (W:=W) (F:=wtF n lim G dt D B W S) (aN ht) hn (w0 _ (aN ht)) (m:=4503599627370496) ⟨by decide,by decide⟩ wf)
  have nn: ∀s,s<4->0<=Sh.ct n W (wtF n lim G dt D B W S) (4*(t/4)+s):=fun s hs=>(Sh.mD (w0 _ (aN (eK (aN ht) hs))) (by have:=Sh.jX (n:=n) (m:=4503599627370496) (by decide) (wf _ (eD hn (eK (aN ht) hs)));omega)).1
  have y:=kQ (W:=fun s=>Sh.ct n W (wtF n lim G dt D B W S) (4*(t/4)+s)) nn (i:=t%4) (by omega)
  rw[show 4*(t/4)+t%4=t by omega]at y
  have y0:=nn (t%4) (by omega)
  rw[show 4*(t/4)+t%4=t by omega]at y0
  have l:Sh.sumN (fun s=>Sh.ct n W (wtF n lim G dt D B W S) (4*(t/4)+s)) 4<=0:=by
   by_cases q:Sh.oS n (wtF n lim G dt D B W S) (t/4)<=W (t/4)
   ·have:=g.1 q;omega
   ·have:=(g.2 (by omega)).1;omega
  omega
 have tk: ∀s,s<4->Ms.tk n (waF n lim G dt D B W S) (4*c+s)=0:=fun s hs=>by
  have ht:=eK hc hs
  have e:Ms.tk n (waF n lim G dt D B W S) (4*c+s)=_:=all_tk (n:=n) (W:=W) (F:=wtF n lim G dt D B W S) hn ht
  have o1:=out _ ht (by rw[show(4*c+s)/4=c by omega];exact z)
  have o2:=out _ (cQ hn ht) (zs s hs)
  rw[e,o1,o2]
  rfl
 have sm:Sh.sumN (fun s=>Ms.tk n (waF n lim G dt D B W S) (4*c+s)) 4=Sh.sumN (fun _=>0) 4:=Sh.cH tk
 show W c - Sh.sumN (fun s=>Ms.tk n (waF n lim G dt D B W S) (4*c+s)) 4=0
 rw[sm,z]
 rfl
theorem raw_up(h:okS n B W T S sky st){c d:Nat}(hc:c<6*n*n)(hd:d<6*n*n)(w0:0<W c)(k:rk (B d)<rk (lvl (B c) (W c) (arC n c))):
  W c≠0/\ ∃q s,Ieee.double.div (fw (W c)) (fw (arC n c))=some q/\Ieee.double.add (B c) q=some s/\flt (B d) s=true:=by
 have b1:=qR h hc
 have b2:=qR h hd
 have w2:=(okS_B h).1 c hc |>.2
 have a2:=cO n c
 have di:=dp_in (w:=W c) (a:=arC n c) (by omega) a2.1 w2 a2.2
 have e0:=nR (w:=W c) (a:=arC n c) (by omega) a2.1
 refine⟨by omega,?_⟩
 cases e:Ieee.double.div (fw (W c)) (fw (arC n c))with
 | none=>
  exfalso
  rw[e0,fY e]at di
  exact absurd di.2 (by decide)
 | some q=>
  have iq:IsC q (dpB (W c) (arC n c)):=⟨div_lt e,by rw[e0,eG e]⟩
  have nd:isN (dpB (W c) (arC n c))=false:=nn_N (by omega)
  have nq:isN q=false:=by rw[isC_N iq];exact nd
  obtain rfl:q=dpB (W c) (arC n c):=by
   rcases BJ iq nq with⟨_,z⟩ | z
   ·omega
   ·exact z
  refine⟨dpB (W c) (arC n c),?_⟩
  cases ea:Ieee.double.add (B c) (dpB (W c) (arC n c))with
  | none=>
   exfalso
   have n2:=lvl_N b1.1 b1.2.1 w2 a2.2
   unfold lvl at n2
   rw[aY ea]at n2
   exact absurd n2 (by decide)
  | some s=>
   refine⟨s,rfl,rfl,?_⟩
   have n2:=lvl_N b1.1 b1.2.1 w2 a2.2
   have is_:IsC s (lvl (B c) (W c) (arC n c)):=⟨(iZ b1.1 (by omega) ea).1,by unfold lvl;rw[bE ea]⟩
   have ns:isN s=false:=by rw[isC_N is_];exact n2
   rw[kD (B d) s b2.1 is_.1,b2.2.1,ns]
   rcases BJ is_ ns with⟨z,zl⟩ | z
   ·have r:rk s=0:=by unfold rk;rw[z];simp
    rw[zl,iI]at k
    rw[decide_eq_true (by omega)]
    rfl
   ·rw[z,decide_eq_true k]
    rfl
theorem dt_nn{sd:Int}{lb:Nat}(hf:dt<18446744073709551616)(h:plE sd dt G D lim lb R=0):Nnn dt:=by
 unfold plE at h
 split at h
 ·exact absurd h (by decide)
 ·split at h
  ·exact absurd h (by decide)
  ·rename_i q
   have q:=(Classical.not_not.1 q).1
   have b:=(xE hf (by decide) (by decide) (by decide+kernel) (by decide+kernel)).1 q
   refine .inr ?_
   have h1:=b.2.1.1
   rw[iI]at h1
   cases g:ng dt with
   | false=>rfl
   | true=>
    exfalso
    have g2:=dV g
    unfold rk at h1
    rw[g,if_pos rfl]at h1
    have h3:=b.2.2
    unfold mg at h1
    omega
theorem FU{t:Nat}(hn:1<=n)(ht:t<24*n*n)(h1:W (eL n (eE n t))=0)(h2:W (eR n (eE n t))=0):W (mt n t/4)=0:=by
 unfold eL at h1
 unfold eR at h2
 rw[Sh.mP hn ht]at h1 h2
 by_cases c:isL n t=true
 ·rw[if_pos c]at h2
  exact h2
 ·rw[if_neg c]at h1
  exact h1
end
end Co
end
section
open Tf Cu
namespace St
open Ss Fc
def w1(_:Nat):Int:=1431655765
def w2(i:Nat):Int:=if i=0 then 2863311530 else 1431655765
theorem og_c{n:Nat}{F H:Nat->Int}(hn:1<=n)(z: ∀e,e<12*n*n->F e=H e){t:Nat}(ht:t<24*n*n):Sh.og n F t=Sh.og n H t:=by
 unfold Sh.og
 rw[z _ (eD hn ht)]
theorem all_c{n:Nat}{V F H:Nat->Int}(hn:1<=n)(z: ∀e,e<12*n*n->F e=H e){e:Nat}(he:e<12*n*n):Sh.allF n V F e=Sh.allF n V H e:=by
 obtain⟨t1,t2,t3⟩:=bI hn he
 have m1:=cQ hn t1
 have ct: ∀t,t<24*n*n->Sh.ct n V F t=Sh.ct n V H t:=fun t ht=>by
  unfold Sh.ct Sh.oS
  rw[og_c hn z ht]
  congr 1
  exact Sh.cH (fun s hs=>og_c hn z (eK (aN ht) hs))
 unfold Sh.allF
 rw[ct _ t1,ct _ m1]
theorem aw_ar: ∀c,c<6->arC 1 c=1431655765:=by decide+kernel
end St
end
section
open Tf Cu
namespace Co
open Ss Fc St
def w3(i:Nat):Int:=if i=0 then 1433053866 else 1431655765
def sp3(e:Nat):Nat:=if e<4 then 4555004673799709393 else 0
def fl3(e:Nat):Int:=if e<4 then 214249 else 0
theorem po_sp: ∀e,e<12->spE 1 4607182418800017408 4602678819172646912 0 (fun _=>0) w3 (fun _=>0) e=sp3 e:=by decide+kernel
theorem po_q: ∀e,e<12->qnB (sp3 e) (rdAll 1 0 6 6 (fun _=>0) w3 (e:Nat) (sp3 e)) (lnE 1 e) 4602678819172646912=fl3 e:=by decide+kernel
theorem po_wt{e:Nat}(he:e<12):wtF 1 0 4607182418800017408 4602678819172646912 0 (fun _=>0) w3 (fun _=>0) e=fl3 e:=by
 unfold wtF flB
 rw[po_sp e he]
 exact po_q e he
theorem po_mv:Ms.mv 1 w3 (Sh.allF 1 w3 fl3) 0=1432196870:=by decide+kernel
theorem po_mvW:mvW 1 0 4607182418800017408 4602678819172646912 0 (fun _=>0) w3 (fun _=>0) 0=1432196870:=by
 rw[<- po_mv]
 exact Ms.nX (n:=1) (by decide) (by decide) rfl (fun i hi=>all_c (n:=1) (by decide) (fun e he=>po_wt he) hi)
theorem po_eL: ∀e,e<12->(decide (eL 1 e=0)=decide (e<4)):=by decide+kernel
theorem po_gt:fgt 4555004673799709393 0=true/\fgt 0 0=false:=by decide
end Co
end
section
open Go.RowKit Go.Deep
namespace Sh
theorem zT{ops:Array Oper}{rest:List Oper}{o:Oper}{a:Act}{w:World}{Q:Exit->Act->World->Prop}(hgd:o.guard=none)(s x:Operand)
  (ho:o.op=.call {callee:=.builtin .append,args:= #[s,x],argTypes:= #[46,46]})
  (g:Nat) (hs:a.eval s=.slice (some ⟨g,0,none⟩) 0 0) (src:Value) (hx:a.eval x=src) (hsrc:Src prog 1 46 src 0 [] w)
  (h:wpList prog ops Q rest (a.put o.dst (.slice (some ⟨g,0,none⟩) 0 0)) w):wpList prog ops Q (o :: rest) a w:=by
 obtain⟨i0,hi,hz0,hz1,hz2⟩:=xH
 refine wpList_plain hgd fun _ hK=> ?_
 have hr:=run_append_room_src (P:=prog) w 46 46 o.type 2 i0 underlying46 hi g 0 0 0 src 0 [] (by rw[hz1];exact hsrc) (Nat.le_refl _) (fun j hj=>absurd hj (Nat.not_lt_zero j)) (fun j hj=>absurd hj (Nat.not_lt_zero j))
 unfold Oper.wp execOp
 simp only[ho,resolve,invoke,builtin,Sem.run_bind,Sem.run_pure,Result.andThen_ok,List.map_toArray,List.map_cons,List.map_nil,hs,hx,hr]
 exact hK _ _ h
theorem news_in{w:World}{b o N:Nat}{D:Nat->Int}(h:IsI w (some ⟨b,o,none⟩) N D): ∀j u,(((List.range N).map D).map (Value.int .i64))[j]? =some u->w.cell? ((⟨b,o,none⟩:Addr).add j)=some u:=fun j u hu=>by
 have hj:j<N:=by
  rcases Nat.lt_or_ge j N with h1 | h1
  ·exact h1
  ·rw[List.getElem?_eq_none (by simpa using h1)]at hu;cases hu
 simp[hj]at hu
 rw[lU,<- hu]
 exact(h.at0 hj).2.2
end Sh
end
section
open Go.RowKit Go.Deep
namespace Rn
open Sh
def W4(r:Int × Int × Int × Int):Prop:=Sh.W64 r.1/\Sh.W64 r.2.1/\Sh.W64 r.2.2.1/\Sh.W64 r.2.2.2
def IsRn(w:World)(p:Option Addr)(n:Nat)(R:Nat->Int × Int × Int × Int):Prop:=
 ∀k,k<n->W4 (R k)/\ ∃b o,p=some ⟨b,o,none⟩/\b<w.heap.size/\w.cell? ⟨b,o+k*4,none⟩=some (.int .i64 (R k).1)/\w.cell? ⟨b,o+k*4+1,none⟩=some (.int .i64 (R k).2.1)/\w.cell? ⟨b,o+k*4+2,none⟩=some (.int .i64 (R k).2.2.1)/\w.cell? ⟨b,o+k*4+3,none⟩=some (.int .i64 (R k).2.2.2)
theorem IsRn.below{w w':World}{p:Option Addr}{n:Nat}{R:Nat->Int × Int × Int × Int}(h:IsRn w p n R)(hb:Below w.heap.size w w'):IsRn w' p n R:=fun k hk=>by
 obtain⟨h1,b,o,e,l,c0,c1,c2,c3⟩:=h k hk
 exact⟨h1,b,o,e,Nat.lt_of_lt_of_le l hb.size,(hb.cell (p:=⟨b,_,none⟩) l).trans c0,(hb.cell (p:=⟨b,_,none⟩) l).trans c1,(hb.cell (p:=⟨b,_,none⟩) l).trans c2,(hb.cell (p:=⟨b,_,none⟩) l).trans c3⟩
theorem IsRn.nil(w:World)(p:Option Addr)(R:Nat->Int × Int × Int × Int):IsRn w p 0 R:=fun k hk=>absurd hk (Nat.not_lt_zero k)
theorem IsRn.some0{w:World}{p:Option Addr}{n:Nat}{R:Nat->Int × Int × Int × Int}(h:IsRn w p n R)(h0:0<n): ∃b o,p=some ⟨b,o,none⟩:=by
 obtain⟨_,b,o,e,_⟩:=h 0 h0
 exact⟨b,o,e⟩
theorem IsRn.at0{w:World}{b o n:Nat}{R:Nat->Int × Int × Int × Int}(h:IsRn w (some ⟨b,o,none⟩) n R){k:Nat}(hk:k<n):W4 (R k)/\b<w.heap.size/\w.cell? ⟨b,o+k*4,none⟩=some (.int .i64 (R k).1)/\w.cell? ⟨b,o+k*4+1,none⟩=some (.int .i64 (R k).2.1)/\w.cell? ⟨b,o+k*4+2,none⟩=some (.int .i64 (R k).2.2.1)/\w.cell? ⟨b,o+k*4+3,none⟩=some (.int .i64 (R k).2.2.2):=by
 obtain⟨h1,b',o',e,l,h2⟩:=h k hk
 cases e
 exact⟨h1,l,h2⟩
def vB(n:Int)(r:Int × Int × Int × Int):Bool:=decide (0<=r.1)&&decide (r.1<n)&&decide (-4503599627370496<=r.2.1)&&decide (r.2.1<=4503599627370496)&&decide (0<=r.2.2.1)&&decide (r.2.2.1<=r.2.2.2)
theorem BV{n:Nat}{r:Int × Int × Int × Int}:vB (n:Int) r=true ↔ okR n r:=by
 unfold vB okR
 simp only[Bool.and_eq_true,decide_eq_true_eq]
 constructor
 ·rintro⟨⟨⟨⟨⟨a,b⟩,c⟩,d⟩,e⟩,f⟩
  exact⟨a,b,c,d,e,f⟩
 ·rintro⟨a,b,c,d,e,f⟩
  exact⟨⟨⟨⟨⟨a,b⟩,c⟩,d⟩,e⟩,f⟩
def FallC:Prop:= ∀(pw:Option Addr) (lw cw:Nat) (W:Nat->Int) (s:Int) (pr:Option Addr) (lr cr:Nat) (R:Nat->Int × Int × Int × Int) (st:Int) (w:World),Sh.W64 s->Sh.W64 st->lw<=17592186044416->lr<=17592186044416->IsI w pw lw W->IsRn w pr lr R->
 (sE lw W s lr R st->Calls prog 46 #[.slice pw lw cw,.int .i64 s,.slice pr lr cr,.int .i64 st] w fun e w'=> ∃v,e=.returned (.tuple #[v,.int .i64 (rnN st R (W,s) lr).2,.int .i64 0])/\Below w.heap.size w w'/\Own w.heap.size v ((List.range lw).map (rnN st R (W,s) lr).1) w')/\
 (¬sE lw W s lr R st->Calls prog 46 #[.slice pw lw cw,.int .i64 s,.slice pr lr cr,.int .i64 st] w fun e w'=>e=.returned (.tuple #[.slice none 0 0,.int .i64 0,.int .i64 1])/\Below w.heap.size w w')
end Rn
end
section
open Go.RowKit Tf Cu Go.Deep
namespace Ss
def Dj(v u:Value):Prop:= ∀k,v.ownBlock=some k->u.ownBlock≠some k
def OwnS(M:Nat)(v:Value)(nb nw nt ns:Nat)(B:Nat->Nat)(W T:Nat->Int)(S:Nat->Nat)(sky st:Int)(w:World):Prop:=
 ∃v1 v2 v3 v4,v=.agg #[v1,v2,v3,v4,.int .i64 sky,.int .i64 st]/\OwnG M v1 ((List.range nb).map B) w/\Sh.Own M v2 ((List.range nw).map W) w/\Sh.Own M v3 ((List.range nt).map T) w/\OwnG M v4 ((List.range ns).map S) w/\Dj v1 v4/\Dj v2 v3
end Ss
end
section
open Go.RowKit Go.Deep
namespace Rn
open Sh
theorem xL{ops:Array Oper}{rest:List Oper}{o:Oper}{a:Act}{w:World}{Q:Exit->Act->World->Prop}(hgd:o.guard=none)(s x:Operand)
  (ho:o.op=.call {callee:=.builtin .append,args:= #[s,x],argTypes:= #[46,46]})
  (B:Nat) (v:Value) (l:List Int) (hs:a.eval s=v) (hown:Own B v l w)
  (ad:Addr) (m c:Nat) (news:List Int) (hx:a.eval x=.slice (some ad) m c) (hl:news.length=m) (hnews: ∀j u,(news.map (Value.int .i64))[j]? =some u->w.cell? (ad.add j)=some u)
  (hm:0<m) (hlen:l.length+m<=17592186044416) (hB:B<=w.heap.size) (nm:Nat) (hnm:l.length+m=nm)
  (h: ∀g cap w',Own B (.slice (some ⟨g,0,none⟩) nm cap) (l++news) w'->w.grownBy w' v.ownBlock->(v.ownBlock=some g\/g=w.heap.size)->B<=g->wpList prog ops Q rest (a.put o.dst (.slice (some ⟨g,0,none⟩) nm cap)) w'):wpList prog ops Q (o :: rest) a w:=by
 subst hnm
 obtain⟨i0,hi,hz0,hz1,hz2⟩:=Sh.xH
 refine wpList_append_lies w hgd s x _ ho B 2 i0 (.int .i64 0) 1 8 underlying46 hi hz0 hz1 hz2 rfl (by decide) v l.length (l.map (Value.int .i64)) hs hown ad m c (news.map (Value.int .i64)) hx (by simpa using hl) hnews (fun u hu=>by
  obtain⟨y,_,rfl⟩:=List.mem_map.1 hu
  rfl) hm (by unfold maxLen;omega) (by omega) hB _ rfl ?_
 intro g cap w' o1 g1 e1 _
 have hb:B<=g:=by
  rcases o1.2 with⟨q,_⟩ | ⟨g2,_,_,q,hb,_⟩
  ·cases q
  ·injection q with q1 q2 q3
   injection q1 with q4
   injection q4 with q5
   omega
 refine h g cap w' ?_ g1 e1 hb
 unfold Own
 rw[List.length_append,List.map_append,hl]
 exact o1
theorem FV{B:Nat}{v:Value}{l:List Int}{w:World}(h:Own B v l w)(h0:0<l.length): ∃g cap F,v=.slice (some ⟨g,0,none⟩) l.length cap/\B<=g/\l.length<=cap/\cap<=maxLen/\w.rowIs g 2 cap F/\ ∀i,i<l.length->F i=.int .i64 (l.getD i 0):=by
 rcases h.2 with⟨rfl,hz⟩ | ⟨g,cap,cur,e,hb,hg,h1,h2,h3,h4⟩
 ·omega
 ·refine⟨g,cap,fun i=>(cur[i]?).getD (.bool false),e,hb,h1,h2,⟨cur,hg,by omega,fun i hi=> ?_⟩,fun i hi=> ?_⟩
  ·have:i<cur.size:=by omega
   simp[this]
  ·have q:(cur.toList.take l.length)[i]? =(l.map (Value.int .i64))[i]? :=by
    have h4':cur.toList.take l.length=l.map (Value.int .i64):=by simpa using h4
    rw[h4']
   rw[List.getElem?_take,if_pos hi,Array.getElem?_toList]at q
   dsimp only
   rw[q]
   simp[hi,List.getD]
theorem FY{B n:Nat}{v:Value}{x:Nat->Int}{w:World}(h:Own B v ((List.range n).map x) w)(h0:0<n): ∃g cap F,v=.slice (some ⟨g,0,none⟩) n cap/\B<=g/\n<=cap/\cap<=maxLen/\w.rowIs g 2 cap F/\ ∀i,i<n->F i=.int .i64 (x i):=by
 have e:((List.range n).map x).length=n:=by simp
 obtain⟨g,cap,F,h1,h2,h3,h4,h5,h6⟩:=FV h (by rw[e];exact h0)
 rw[e]at h1 h3 h6
 exact⟨g,cap,F,h1,h2,h3,h4,h5,fun i hi=>by rw[h6 i hi];simp[List.getD,hi]⟩
theorem F5{B g cap n:Nat}{F:Nat->Value}{x:Nat->Int}{w:World}(h:w.rowIs g 2 cap F)(hB:B<=g)(hn:n<=cap)(hc:cap<=maxLen)(hF: ∀i,i<n->F i=.int .i64 (x i)):Own B (.slice (some ⟨g,0,none⟩) n cap) ((List.range n).map x) w:=by
 obtain⟨c,hb,hs,hf⟩:=h
 refine⟨by simp,.inr ⟨g,cap,c,by simp,hB,hb,by simpa using hn,hc,by omega,?_⟩⟩
 apply List.ext_getElem?
 intro i
 rw[List.getElem?_take,List.length_map,List.length_range]
 by_cases hi:i<n
 ·have e:=hf i (by omega)
  rw[hF i hi]at e
  rw[if_pos (by omega)]
  rw[<- Array.getElem?_toList]at e
  rw[e]
  simp[hi]
 ·rw[if_neg (by omega),List.getElem?_eq_none (by simp;omega)]
theorem rn_skip{st:Int}{R:Nat->Int × Int × Int × Int}{X:(Nat->Int) × Int}{c:Nat}{r1 r2 r3 r4:Int}(hr:R c=(r1,r2,r3,r4))(h:st<r3\/r4<=st):rnN st R X (c+1)=rnN st R X c:=by
 show rn1 st (R c) (rnN st R X c)=_
 refine rn1_no ?_
 rw[hr]
 unfold fallB
 rcases h with h | h
 ·rw[decide_eq_false (show¬r3<=st by omega)]
  rfl
 ·rw[decide_eq_false (show¬st<r4 by omega),Bool.and_false]
theorem rn_fall{st:Int}{R:Nat->Int × Int × Int × Int}{X:(Nat->Int) × Int}{c k:Nat}{r2 r3 r4 sk x:Int}(hr:R c=((k:Int),r2,r3,r4))(h1: ¬st<r3)(h2: ¬r4<=st)(hs:(rnN st R X c).2=sk)(hx:(rnN st R X c).1 k=x):
  (rnN st R X (c+1)).2=sk - dn r2 sk x/\ ∀i,(rnN st R X (c+1)).1 i=if i=k then x+dn r2 sk x else(rnN st R X c).1 i:=by
 have f:fallB st (R c)=true:=by
  rw[hr]
  unfold fallB
  rw[decide_eq_true (show r3<=st by omega),decide_eq_true (show st<r4 by omega)]
  rfl
 have e:rnN st R X (c+1)=(fun i=>if i=k then(rnN st R X c).1 i+dn r2 sk x else(rnN st R X c).1 i,sk - dn r2 sk x):=by
  show rn1 st (R c) (rnN st R X c)=_
  unfold rn1
  rw[if_pos f,hr]
  simp only[Int.toNat_natCast,hs,hx]
 rw[e]
 refine⟨rfl,fun i=> ?_⟩
 dsimp only
 by_cases q:i=k
 ·rw[if_pos q,if_pos q,q,hx]
 ·rw[if_neg q,if_neg q]
end Rn
end
section
open Go.RowKit Tf
attribute [local go_sem] aJ aK aP aQ aR aV aX
theorem pD{P:Program}(w:World)(ts:Array TypeId)(t:TypeId){a b:Nat}(ha:a<=9218868437227405312)(hb:b<=9218868437227405312):
  (Builtin.min_ ts t #[.float .f64 a,.float .f64 b]).run P w=.ok (.float .f64 (min a b)) w:=by
 have h:FloatKind.f64.format.order a b=_:=zN ha hb
 by_cases c:a<b
 ·rw[if_pos c]at h
  simp[Builtin.min_,Builtin.min2,h]
  omega
 ·rw[if_neg c]at h
  by_cases d:b<a
  ·rw[if_pos d]at h
   simp[Builtin.min_,Builtin.min2,h]
   omega
  ·rw[if_neg d]at h
   have e:a=b:=by omega
   subst e
   simp[Builtin.min_,Builtin.min2,h]
theorem F6{P:Program}(w:World)(ts:Array TypeId)(t:TypeId){a b:Nat}(ha:a<=9218868437227405312)(hb:b<=9218868437227405312):
  (Builtin.max_ ts t #[.float .f64 a,.float .f64 b]).run P w=.ok (.float .f64 (max a b)) w:=by
 have h:FloatKind.f64.format.order a b=_:=zN ha hb
 by_cases c:a<b
 ·rw[if_pos c]at h
  simp[Builtin.max_,Builtin.max2,h]
  omega
 ·rw[if_neg c]at h
  by_cases d:b<a
  ·rw[if_pos d]at h
   simp[Builtin.max_,Builtin.max2,h]
   omega
  ·rw[if_neg d]at h
   have e:a=b:=by omega
   subst e
   simp[Builtin.max_,Builtin.max2,h]
theorem plain_at(a b:Nat)(w:World):Calls prog 190 #[.float .f64 a,.float .f64 b] w fun e w'=>e=.returned (.float .f64 0)/\w'=w:=by
 go_enter func190,ntmps190
 go_wp2
 go_ret
 exact⟨rfl,rfl⟩
theorem F7(a b:Nat)(w:World)(ha:a<=9218868437227405312)(hb:b<=9218868437227405312):Calls prog 191 #[.float .f64 a,.float .f64 b] w fun e w'=>e=.returned (.float .f64 (min a b))/\w'=w:=by
 have h: ∀ts t,(Builtin.min_ ts t #[.float .f64 a,.float .f64 b]).run prog w=.ok (.float .f64 (min a b)) w:=fun ts t=>pD w ts t ha hb
 generalize e:min a b=m at h ⊢
 clear e ha hb
 go_enter func191,ntmps191
 go_wp2
 go_ret
 exact⟨rfl,rfl⟩
theorem zU(a b:Nat)(w:World)(ha:ps a=true)(hb:ps b=true):Calls prog 192 #[.float .f64 a,.float .f64 b] w fun e w'=>e=.returned (.float .f64 (sbee a b))/\w'=w:=by
 obtain⟨a0,a1⟩:=cA.1 ha
 obtain⟨b0,b1⟩:=cA.1 hb
 have fa:=(gZ a1).1
 have fb:=(gZ b1).1
 have h1: ∀t,(binOp .mul t (.float .f64 4611686018427387904) (.float .f64 a)).run prog w=.ok (.float .f64 (mlB 4611686018427387904 a)) w:=fun t=>run_float_arith w .mul t .f64 _ _ _ (wZ (by decide) a1 (by decide) a0)
 have h2: ∀t,(binOp .mul t (.float .f64 4611686018427387904) (.float .f64 b)).run prog w=.ok (.float .f64 (mlB 4611686018427387904 b)) w:=fun t=>run_float_arith w .mul t .f64 _ _ _ (wZ (by decide) b1 (by decide) b0)
 have h3: ∀ts t,(Builtin.min_ ts t #[.float .f64 (mlB 4611686018427387904 a),.float .f64 b]).run prog w=.ok (.float .f64 (min (mlB 4611686018427387904 a) b)) w:=fun ts t=>pD w ts t fa b1
 have h4: ∀ts t,(Builtin.min_ ts t #[.float .f64 a,.float .f64 (mlB 4611686018427387904 b)]).run prog w=.ok (.float .f64 (min a (mlB 4611686018427387904 b))) w:=fun ts t=>pD w ts t a1 fb
 have h5: ∀ts t,(Builtin.max_ ts t #[.float .f64 (min (mlB 4611686018427387904 a) b),.float .f64 (min a (mlB 4611686018427387904 b))]).run prog w=.ok (.float .f64 (sbee a b)) w:=fun ts t=>F6 w ts t (by omega) (by omega)
 generalize mlB 4611686018427387904 a=p at*
 generalize mlB 4611686018427387904 b=q at*
 generalize min p b=u at*
 generalize min a q=v at*
 generalize sbee a b=s at*
 clear a0 a1 b0 b1 fa fb ha hb
 go_enter func192,ntmps192
 go_wp2
 go_ret
 exact⟨rfl,rfl⟩
theorem leer_at(a b:Nat)(w:World)(ha:ps a=true)(hb:ps b=true):Calls prog 193 #[.float .f64 a,.float .f64 b] w fun e w'=> ∃r,e=.returned (.float .f64 r)/\(∃n,w'=w.drewN n)/\IsC r (lr a b):=by
 obtain⟨a0,a1⟩:=cA.1 ha
 obtain⟨b0,b1⟩:=cA.1 hb
 have fa:=gZ a1
 have L:=leer_nn a1 b1 a0 b0
 have h1: ∀t,(binOp .mul t (.float .f64 4611686018427387904) (.float .f64 a)).run prog w=.ok (.float .f64 (mlB 4611686018427387904 a)) w:=fun t=>run_float_arith w .mul t .f64 _ _ _ (wZ (by decide) a1 (by decide) a0)
 have h2: ∀t,(binOp .mul t (.float .f64 (mlB 4611686018427387904 a)) (.float .f64 b)).run prog w=.ok (.float .f64 (mlB (mlB 4611686018427387904 a) b)) w:=fun t=>run_float_arith w .mul t .f64 _ _ _ (wZ fa.1 b1 (by omega) b0)
 have h3: ∀t,(binOp .add t (.float .f64 a) (.float .f64 b)).run prog w=.ok (.float .f64 (plB a b)) w:=fun t=>run_float_arith w .add t .f64 _ _ _ (add_pp a1 b1)
 obtain⟨r,n,h4,hc⟩:=gO (P:=prog) w (mlB (mlB 4611686018427387904 a) b) (plB a b)
 have hc:IsC r (leer a b):=hc
 obtain⟨k1,k2⟩:=lr_le_of hc L
 have HL:=lr_le a b
 by_cases c:leer a b<9218868437227405312
 ·have e:lr a b=leer a b:=by unfold lr;rw[if_pos c]
  rw[decide_eq_true c]at k1
  have HC:Hid (IsC r (lr a b)):=by rw[e];exact hc
  generalize mlB (mlB 4611686018427387904 a) b=q at*
  generalize mlB 4611686018427387904 a=p at*
  generalize plB a b=s at*
  clear e k2 c L fa a0 a1 b0 b1 ha hb HL
  clear hc
  go_enter func193,ntmps193
  go_wp2
  go_ret
  exact⟨r,rfl,⟨n,rfl⟩,HC.out⟩
 ·have e:lr a b=0:=by unfold lr;rw[if_neg c]
  rw[decide_eq_false c]at k1
  have HC:Hid (IsC 0 (lr a b)):=by rw[e];exact⟨by decide,by decide⟩
  generalize mlB (mlB 4611686018427387904 a) b=q at*
  generalize mlB 4611686018427387904 a=p at*
  generalize plB a b=s at*
  clear e k2 c L fa a0 a1 b0 b1 ha hb HL
  clear hc
  go_enter func193,ntmps193
  go_wp2
  go_ret
  exact⟨0,rfl,⟨n,rfl⟩,HC.out⟩
theorem sV{P:Program}{w:World}{a:Addr}{m:Mode}(f:Fn)(x y:Array Value):(store a (.func f x y) m).run P w=stored P w a (.func f x y) m:=run_store P w a _ m rfl
attribute [local go_sem] sV
theorem bX(w:World):Calls prog 165 #[] w fun e w'=>e=.returned (.agg #[.func (.func 190) #[] #[],.func (.func 191) #[] #[],.func (.func 192) #[] #[],.func (.func 193) #[] #[]])/\Below w.heap.size w w':=by
 go_enter func165,ntmps165
 go_wp2
 refine bodyPost_ret ?_ rfl ⟨rfl,?_⟩
 ·exact results_cell_row results165 _ _ w.heap.size _ _ (0,0) _ rfl (heap_alloc_new w _) underlying212 rfl (by kernel_rfl)
 ·exact bl1 w _
theorem dE(k:Int)(w:World):Calls prog 143 #[.int .i64 k] w fun e w'=>e=.returned (.bool (decide (0<=k/\k<=3)))/\Below w.heap.size w w':=by
 have L:=hid (bX w)
 by_cases c:0<=k
 ·have e:decide (0<=k/\k<=3)=decide (k<4):=by by_cases d:k<4<;>simp[d]<;>omega
  rw[e]
  clear e
  go_enter func143,ntmps143
  go_wp2_with fail
  refine L.out.mono ?_
  rintro e w1 ⟨rfl,b1⟩
  go_wp2
  go_ret
  exact⟨rfl,b1⟩
 ·have e:decide (0<=k/\k<=3)=false:=decide_eq_false (by omega)
  rw[e]
  clear e
  go_enter func143,ntmps143
  go_wp2
  go_ret
  exact⟨rfl,Below.refl _ _⟩
end
section
open Go.RowKit Tf
attribute [local go_sem] aJ aK aP aQ aR aV aX
theorem lV{r x:Nat}(h:IsC r x)(hx:x<=9218868437227405312):canonB (negB r)=op x:=by
 obtain⟨h1,h2⟩:=h
 by_cases z:mg r=0
 ·have n:isN r=false:=bO.2 (by omega)
  have e:x=0:=by rw[<- h2];unfold canonB;rw[n,z];rfl
  subst e
  have m:mg (negB r)=0:=by rw[qG];exact z
  have n2:isN (negB r)=false:=bO.2 (by omega)
  unfold canonB
  rw[n2,m]
  rfl
 ·have e:r=x:=by
   unfold canonB at h2
   rw[if_neg z]at h2
   split at h2
   ·rw[<- h2]at hx;unfold quiet at hx;omega
   ·exact h2
  subst e
  exact canon_op hx
theorem IsC.refl{x:Nat}(h:x<=9218868437227405312):IsC x x:=⟨by omega,zL h⟩
def Lim(f:Nat)(k:Int):Prop:= ∀a b w,ps a=true->ps b=true->Calls prog f #[.float .f64 a,.float .f64 b] w fun e w'=> ∃r,e=.returned (.float .f64 r)/\(∃n,w'=w.drewN n)/\IsC r (lm k a b)
theorem lim0:Lim 190 0:=by
 intro a b w ha hb
 refine(plain_at a b w).mono ?_
 rintro e w' ⟨rfl,rfl⟩
 exact⟨0,rfl,⟨0,rfl⟩,IsC.refl (by decide)⟩
theorem lim1:Lim 191 1:=by
 intro a b w ha hb
 have a1:=cA.1 ha
 have b1:=cA.1 hb
 refine(F7 a b w a1.2 b1.2).mono ?_
 rintro e w' ⟨rfl,rfl⟩
 exact⟨_,rfl,⟨0,rfl⟩,IsC.refl (mC 1 a1.2 b1.2)⟩
theorem lim2:Lim 192 2:=by
 intro a b w ha hb
 have a1:=cA.1 ha
 have b1:=cA.1 hb
 refine(zU a b w ha hb).mono ?_
 rintro e w' ⟨rfl,rfl⟩
 exact⟨_,rfl,⟨0,rfl⟩,IsC.refl (mC 2 a1.2 b1.2)⟩
theorem lim3:Lim 193 3:=by
 intro a b w ha hb
 refine(leer_at a b w ha hb).mono ?_
 rintro e w' ⟨r,rfl,n,h⟩
 exact⟨r,rfl,n,h⟩
theorem slope_p0(a b:Nat)(w:World)(ha:a<18446744073709551616)(hb:b<18446744073709551616)(pa:ps a=true)(pb:ps b=true):Calls prog 174 #[.int .i64 0,.float .f64 a,.float .f64 b] w fun e w'=>e=.returned (.float .f64 (lm 0 a b))/\Below w.heap.size w w':=by
 have V:=hid (dE 0 w)
 have L:=hid bX
 have IX: ∀w:World,(Instr.index 212 (.agg #[.func (.func 190) #[] #[],.func (.func 191) #[] #[],.func (.func 192) #[] #[],.func (.func 193) #[] #[]]) (.int .i64 0)).run prog w=.ok (.func (.func 190) #[] #[]) w:=fun _=>by kernel_rfl
 have G:=hid lim0
 have ga:fgt a 0=true:=by rw[cV ha];exact pa
 have gb:fgt b 0=true:=by rw[cV hb];exact pb
 have PA:=hid pa
 have PB:=hid pb
 clear pa pb ha hb
 go_enter func174,ntmps174
 go_wp2_with fail
 refine V.out.mono ?_
 rintro e w1 ⟨rfl,b1⟩
 have B1:=hid b1
 clear b1
 go_wp2_with fail
 refine(L.out _).mono ?_
 rintro e w2 ⟨rfl,b2⟩
 have B2:=hid b2
 clear b2
 go_wp2_with fail
 refine(G.out a b _ PA.out PB.out).mono ?_
 rintro e w3 ⟨r,rfl,⟨n,rfl⟩,hr⟩
 have C:=hid (bR r (w2.drewN n) hr.1)
 have HR:=hid hr.2
 clear hr
 go_wp2_with fail
 refine C.out.mono ?_
 rintro e w4 ⟨rfl,rfl⟩
 go_wp2
 go_ret
 exact⟨iC HR.out,Ab.drewN (Ab.trans B1.out B2.out) n⟩
theorem slope_m0(a b p q:Nat)(w:World)(ga:flt a 0=true)(gb:flt b 0=true)(ga2:fgt a 0=false)(na:Op.negFloat .f64 a=p)(nb:Op.negFloat .f64 b=q)(P:Hid (ps p=true))(Q:Hid (ps q=true)):Calls prog 174 #[.int .i64 0,.float .f64 a,.float .f64 b] w fun e w'=>e=.returned (.float .f64 (op (lm 0 p q)))/\Below w.heap.size w w':=by
 have V:=hid (dE 0 w)
 have L:=hid bX
 have IX: ∀w:World,(Instr.index 212 (.agg #[.func (.func 190) #[] #[],.func (.func 191) #[] #[],.func (.func 192) #[] #[],.func (.func 193) #[] #[]]) (.int .i64 0)).run prog w=.ok (.func (.func 190) #[] #[]) w:=fun _=>by kernel_rfl
 have G:=hid lim0
 go_enter func174,ntmps174
 go_wp2_with fail
 refine V.out.mono ?_
 rintro e w1 ⟨rfl,b1⟩
 have B1:=hid b1
 clear b1
 go_wp2_with fail
 refine(L.out _).mono ?_
 rintro e w2 ⟨rfl,b2⟩
 have B2:=hid b2
 clear b2
 go_wp2_with fail
 refine(G.out p q _ P.out Q.out).mono ?_
 rintro e w3 ⟨r,rfl,⟨n,rfl⟩,hr⟩
 have E:canonB (Op.negFloat .f64 r)=op (lm 0 p q):=by rw[bH r hr.1];exact lV hr (mC 0 (cA.1 P.out).2 (cA.1 Q.out).2)
 have C:=bR (Op.negFloat .f64 r) (w2.drewN n) (by rw[bH r hr.1];exact kZ hr.1)
 rw[E]at C
 have C:=hid C
 clear hr E
 go_wp2_with fail
 refine C.out.mono ?_
 rintro e w4 ⟨rfl,rfl⟩
 go_wp2
 go_ret
 exact⟨rfl,Ab.drewN (Ab.trans B1.out B2.out) n⟩
theorem slope_n0(a b:Nat)(w:World)(ha:a<18446744073709551616)(hb:b<18446744073709551616)(pa:ns a=true)(pb:ns b=true):Calls prog 174 #[.int .i64 0,.float .f64 a,.float .f64 b] w fun e w'=>e=.returned (.float .f64 (op (lm 0 (a - 9223372036854775808) (b - 9223372036854775808))))/\Below w.heap.size w w':=by
 have a1:=fM.1 pa
 have b1:=fM.1 pb
 exact slope_m0 a b _ _ w (by rw[dT ha];exact pa) (by rw[dT hb];exact pb) (by rw[cV ha];exact zM.2 (by omega)) (by rw[bH a ha,kO a1.1]) (by rw[bH b hb,kO b1.1]) (cA.2 ⟨by omega,by omega⟩) (cA.2 ⟨by omega,by omega⟩)
theorem slope_z0(a b:Nat)(w:World)(ha:a<18446744073709551616)(hb:b<18446744073709551616)(pa:(ps a&&ps b)=false)(pb:(ns a&&ns b)=false):Calls prog 174 #[.int .i64 0,.float .f64 a,.float .f64 b] w fun e w'=>e=.returned (.float .f64 0)/\Below w.heap.size w w':=by
 have V:=hid (dE 0 w)
 have L:=hid bX
 have IX: ∀w:World,(Instr.index 212 (.agg #[.func (.func 190) #[] #[],.func (.func 191) #[] #[],.func (.func 192) #[] #[],.func (.func 193) #[] #[]]) (.int .i64 0)).run prog w=.ok (.func (.func 190) #[] #[]) w:=fun _=>by kernel_rfl
 rw[<- cV ha,<- cV hb]at pa
 rw[<- dT ha,<- dT hb]at pb
 clear ha hb
 cases g1:fgt a 0<;>cases g2:flt a 0<;>rw[g1]at pa<;>rw[g2]at pb<;>(try rw[Bool.true_and]at pa)<;>(try rw[Bool.true_and]at pb)<;>(
  go_enter func174,ntmps174
  go_wp2_with fail
  refine V.out.mono ?_
  rintro e w1 ⟨rfl,b1⟩
  have B1:=hid b1
  clear b1
  go_wp2_with fail
  refine(L.out _).mono ?_
  rintro e w2 ⟨rfl,b2⟩
  have B2:=hid b2
  clear b2
  go_wp2
  go_ret
  exact⟨rfl,Ab.trans B1.out B2.out⟩)
theorem slope_p1(a b:Nat)(w:World)(ha:a<18446744073709551616)(hb:b<18446744073709551616)(pa:ps a=true)(pb:ps b=true):Calls prog 174 #[.int .i64 1,.float .f64 a,.float .f64 b] w fun e w'=>e=.returned (.float .f64 (lm 1 a b))/\Below w.heap.size w w':=by
 have V:=hid (dE 1 w)
 have L:=hid bX
 have IX: ∀w:World,(Instr.index 212 (.agg #[.func (.func 190) #[] #[],.func (.func 191) #[] #[],.func (.func 192) #[] #[],.func (.func 193) #[] #[]]) (.int .i64 1)).run prog w=.ok (.func (.func 191) #[] #[]) w:=fun _=>by kernel_rfl
 have G:=hid lim1
 have ga:fgt a 0=true:=by rw[cV ha];exact pa
 have gb:fgt b 0=true:=by rw[cV hb];exact pb
 have PA:=hid pa
 have PB:=hid pb
 clear pa pb ha hb
 go_enter func174,ntmps174
 go_wp2_with fail
 refine V.out.mono ?_
 rintro e w1 ⟨rfl,b1⟩
 have B1:=hid b1
 clear b1
 go_wp2_with fail
 refine(L.out _).mono ?_
 rintro e w2 ⟨rfl,b2⟩
 have B2:=hid b2
 clear b2
 go_wp2_with fail
 refine(G.out a b _ PA.out PB.out).mono ?_
 rintro e w3 ⟨r,rfl,⟨n,rfl⟩,hr⟩
 have C:=hid (bR r (w2.drewN n) hr.1)
 have HR:=hid hr.2
 clear hr
 go_wp2_with fail
 refine C.out.mono ?_
 rintro e w4 ⟨rfl,rfl⟩
 go_wp2
 go_ret
 exact⟨iC HR.out,Ab.drewN (Ab.trans B1.out B2.out) n⟩
theorem slope_m1(a b p q:Nat)(w:World)(ga:flt a 0=true)(gb:flt b 0=true)(ga2:fgt a 0=false)(na:Op.negFloat .f64 a=p)(nb:Op.negFloat .f64 b=q)(P:Hid (ps p=true))(Q:Hid (ps q=true)):Calls prog 174 #[.int .i64 1,.float .f64 a,.float .f64 b] w fun e w'=>e=.returned (.float .f64 (op (lm 1 p q)))/\Below w.heap.size w w':=by
 have V:=hid (dE 1 w)
 have L:=hid bX
 have IX: ∀w:World,(Instr.index 212 (.agg #[.func (.func 190) #[] #[],.func (.func 191) #[] #[],.func (.func 192) #[] #[],.func (.func 193) #[] #[]]) (.int .i64 1)).run prog w=.ok (.func (.func 191) #[] #[]) w:=fun _=>by kernel_rfl
 have G:=hid lim1
 go_enter func174,ntmps174
 go_wp2_with fail
 refine V.out.mono ?_
 rintro e w1 ⟨rfl,b1⟩
 have B1:=hid b1
 clear b1
 go_wp2_with fail
 refine(L.out _).mono ?_
 rintro e w2 ⟨rfl,b2⟩
 have B2:=hid b2
 clear b2
 go_wp2_with fail
 refine(G.out p q _ P.out Q.out).mono ?_
 rintro e w3 ⟨r,rfl,⟨n,rfl⟩,hr⟩
 have E:canonB (Op.negFloat .f64 r)=op (lm 1 p q):=by rw[bH r hr.1];exact lV hr (mC 1 (cA.1 P.out).2 (cA.1 Q.out).2)
 have C:=bR (Op.negFloat .f64 r) (w2.drewN n) (by rw[bH r hr.1];exact kZ hr.1)
 rw[E]at C
 have C:=hid C
 clear hr E
 go_wp2_with fail
 refine C.out.mono ?_
 rintro e w4 ⟨rfl,rfl⟩
 go_wp2
 go_ret
 exact⟨rfl,Ab.drewN (Ab.trans B1.out B2.out) n⟩
theorem slope_n1(a b:Nat)(w:World)(ha:a<18446744073709551616)(hb:b<18446744073709551616)(pa:ns a=true)(pb:ns b=true):Calls prog 174 #[.int .i64 1,.float .f64 a,.float .f64 b] w fun e w'=>e=.returned (.float .f64 (op (lm 1 (a - 9223372036854775808) (b - 9223372036854775808))))/\Below w.heap.size w w':=by
 have a1:=fM.1 pa
 have b1:=fM.1 pb
 exact slope_m1 a b _ _ w (by rw[dT ha];exact pa) (by rw[dT hb];exact pb) (by rw[cV ha];exact zM.2 (by omega)) (by rw[bH a ha,kO a1.1]) (by rw[bH b hb,kO b1.1]) (cA.2 ⟨by omega,by omega⟩) (cA.2 ⟨by omega,by omega⟩)
theorem slope_z1(a b:Nat)(w:World)(ha:a<18446744073709551616)(hb:b<18446744073709551616)(pa:(ps a&&ps b)=false)(pb:(ns a&&ns b)=false):Calls prog 174 #[.int .i64 1,.float .f64 a,.float .f64 b] w fun e w'=>e=.returned (.float .f64 0)/\Below w.heap.size w w':=by
 have V:=hid (dE 1 w)
 have L:=hid bX
 have IX: ∀w:World,(Instr.index 212 (.agg #[.func (.func 190) #[] #[],.func (.func 191) #[] #[],.func (.func 192) #[] #[],.func (.func 193) #[] #[]]) (.int .i64 1)).run prog w=.ok (.func (.func 191) #[] #[]) w:=fun _=>by kernel_rfl
 rw[<- cV ha,<- cV hb]at pa
 rw[<- dT ha,<- dT hb]at pb
 clear ha hb
 cases g1:fgt a 0<;>cases g2:flt a 0<;>rw[g1]at pa<;>rw[g2]at pb<;>(try rw[Bool.true_and]at pa)<;>(try rw[Bool.true_and]at pb)<;>(
  go_enter func174,ntmps174
  go_wp2_with fail
  refine V.out.mono ?_
  rintro e w1 ⟨rfl,b1⟩
  have B1:=hid b1
  clear b1
  go_wp2_with fail
  refine(L.out _).mono ?_
  rintro e w2 ⟨rfl,b2⟩
  have B2:=hid b2
  clear b2
  go_wp2
  go_ret
  exact⟨rfl,Ab.trans B1.out B2.out⟩)
theorem slope_p2(a b:Nat)(w:World)(ha:a<18446744073709551616)(hb:b<18446744073709551616)(pa:ps a=true)(pb:ps b=true):Calls prog 174 #[.int .i64 2,.float .f64 a,.float .f64 b] w fun e w'=>e=.returned (.float .f64 (lm 2 a b))/\Below w.heap.size w w':=by
 have V:=hid (dE 2 w)
 have L:=hid bX
 have IX: ∀w:World,(Instr.index 212 (.agg #[.func (.func 190) #[] #[],.func (.func 191) #[] #[],.func (.func 192) #[] #[],.func (.func 193) #[] #[]]) (.int .i64 2)).run prog w=.ok (.func (.func 192) #[] #[]) w:=fun _=>by kernel_rfl
 have G:=hid lim2
 have ga:fgt a 0=true:=by rw[cV ha];exact pa
 have gb:fgt b 0=true:=by rw[cV hb];exact pb
 have PA:=hid pa
 have PB:=hid pb
 clear pa pb ha hb
 go_enter func174,ntmps174
 go_wp2_with fail
 refine V.out.mono ?_
 rintro e w1 ⟨rfl,b1⟩
 have B1:=hid b1
 clear b1
 go_wp2_with fail
 refine(L.out _).mono ?_
 rintro e w2 ⟨rfl,b2⟩
 have B2:=hid b2
 clear b2
 go_wp2_with fail
 refine(G.out a b _ PA.out PB.out).mono ?_
 rintro e w3 ⟨r,rfl,⟨n,rfl⟩,hr⟩
 have C:=hid (bR r (w2.drewN n) hr.1)
 have HR:=hid hr.2
 clear hr
 go_wp2_with fail
 refine C.out.mono ?_
 rintro e w4 ⟨rfl,rfl⟩
 go_wp2
 go_ret
 exact⟨iC HR.out,Ab.drewN (Ab.trans B1.out B2.out) n⟩
theorem slope_m2(a b p q:Nat)(w:World)(ga:flt a 0=true)(gb:flt b 0=true)(ga2:fgt a 0=false)(na:Op.negFloat .f64 a=p)(nb:Op.negFloat .f64 b=q)(P:Hid (ps p=true))(Q:Hid (ps q=true)):Calls prog 174 #[.int .i64 2,.float .f64 a,.float .f64 b] w fun e w'=>e=.returned (.float .f64 (op (lm 2 p q)))/\Below w.heap.size w w':=by
 have V:=hid (dE 2 w)
 have L:=hid bX
 have IX: ∀w:World,(Instr.index 212 (.agg #[.func (.func 190) #[] #[],.func (.func 191) #[] #[],.func (.func 192) #[] #[],.func (.func 193) #[] #[]]) (.int .i64 2)).run prog w=.ok (.func (.func 192) #[] #[]) w:=fun _=>by kernel_rfl
 have G:=hid lim2
 go_enter func174,ntmps174
 go_wp2_with fail
 refine V.out.mono ?_
 rintro e w1 ⟨rfl,b1⟩
 have B1:=hid b1
 clear b1
 go_wp2_with fail
 refine(L.out _).mono ?_
 rintro e w2 ⟨rfl,b2⟩
 have B2:=hid b2
 clear b2
 go_wp2_with fail
 refine(G.out p q _ P.out Q.out).mono ?_
 rintro e w3 ⟨r,rfl,⟨n,rfl⟩,hr⟩
 have E:canonB (Op.negFloat .f64 r)=op (lm 2 p q):=by rw[bH r hr.1];exact lV hr (mC 2 (cA.1 P.out).2 (cA.1 Q.out).2)
 have C:=bR (Op.negFloat .f64 r) (w2.drewN n) (by rw[bH r hr.1];exact kZ hr.1)
 rw[E]at C
 have C:=hid C
 clear hr E
 go_wp2_with fail
 refine C.out.mono ?_
 rintro e w4 ⟨rfl,rfl⟩
 go_wp2
 go_ret
 exact⟨rfl,Ab.drewN (Ab.trans B1.out B2.out) n⟩
theorem slope_n2(a b:Nat)(w:World)(ha:a<18446744073709551616)(hb:b<18446744073709551616)(pa:ns a=true)(pb:ns b=true):Calls prog 174 #[.int .i64 2,.float .f64 a,.float .f64 b] w fun e w'=>e=.returned (.float .f64 (op (lm 2 (a - 9223372036854775808) (b - 9223372036854775808))))/\Below w.heap.size w w':=by
 have a1:=fM.1 pa
 have b1:=fM.1 pb
 exact slope_m2 a b _ _ w (by rw[dT ha];exact pa) (by rw[dT hb];exact pb) (by rw[cV ha];exact zM.2 (by omega)) (by rw[bH a ha,kO a1.1]) (by rw[bH b hb,kO b1.1]) (cA.2 ⟨by omega,by omega⟩) (cA.2 ⟨by omega,by omega⟩)
theorem slope_z2(a b:Nat)(w:World)(ha:a<18446744073709551616)(hb:b<18446744073709551616)(pa:(ps a&&ps b)=false)(pb:(ns a&&ns b)=false):Calls prog 174 #[.int .i64 2,.float .f64 a,.float .f64 b] w fun e w'=>e=.returned (.float .f64 0)/\Below w.heap.size w w':=by
 have V:=hid (dE 2 w)
 have L:=hid bX
 have IX: ∀w:World,(Instr.index 212 (.agg #[.func (.func 190) #[] #[],.func (.func 191) #[] #[],.func (.func 192) #[] #[],.func (.func 193) #[] #[]]) (.int .i64 2)).run prog w=.ok (.func (.func 192) #[] #[]) w:=fun _=>by kernel_rfl
 rw[<- cV ha,<- cV hb]at pa
 rw[<- dT ha,<- dT hb]at pb
 clear ha hb
 cases g1:fgt a 0<;>cases g2:flt a 0<;>rw[g1]at pa<;>rw[g2]at pb<;>(try rw[Bool.true_and]at pa)<;>(try rw[Bool.true_and]at pb)<;>(
  go_enter func174,ntmps174
  go_wp2_with fail
  refine V.out.mono ?_
  rintro e w1 ⟨rfl,b1⟩
  have B1:=hid b1
  clear b1
  go_wp2_with fail
  refine(L.out _).mono ?_
  rintro e w2 ⟨rfl,b2⟩
  have B2:=hid b2
  clear b2
  go_wp2
  go_ret
  exact⟨rfl,Ab.trans B1.out B2.out⟩)
theorem slope_p3(a b:Nat)(w:World)(ha:a<18446744073709551616)(hb:b<18446744073709551616)(pa:ps a=true)(pb:ps b=true):Calls prog 174 #[.int .i64 3,.float .f64 a,.float .f64 b] w fun e w'=>e=.returned (.float .f64 (lm 3 a b))/\Below w.heap.size w w':=by
 have V:=hid (dE 3 w)
 have L:=hid bX
 have IX: ∀w:World,(Instr.index 212 (.agg #[.func (.func 190) #[] #[],.func (.func 191) #[] #[],.func (.func 192) #[] #[],.func (.func 193) #[] #[]]) (.int .i64 3)).run prog w=.ok (.func (.func 193) #[] #[]) w:=fun _=>by kernel_rfl
 have G:=hid lim3
 have ga:fgt a 0=true:=by rw[cV ha];exact pa
 have gb:fgt b 0=true:=by rw[cV hb];exact pb
 have PA:=hid pa
 have PB:=hid pb
 clear pa pb ha hb
 go_enter func174,ntmps174
 go_wp2_with fail
 refine V.out.mono ?_
 rintro e w1 ⟨rfl,b1⟩
 have B1:=hid b1
 clear b1
 go_wp2_with fail
 refine(L.out _).mono ?_
 rintro e w2 ⟨rfl,b2⟩
 have B2:=hid b2
 clear b2
 go_wp2_with fail
 refine(G.out a b _ PA.out PB.out).mono ?_
 rintro e w3 ⟨r,rfl,⟨n,rfl⟩,hr⟩
 have C:=hid (bR r (w2.drewN n) hr.1)
 have HR:=hid hr.2
 clear hr
 go_wp2_with fail
 refine C.out.mono ?_
 rintro e w4 ⟨rfl,rfl⟩
 go_wp2
 go_ret
 exact⟨iC HR.out,Ab.drewN (Ab.trans B1.out B2.out) n⟩
theorem slope_m3(a b p q:Nat)(w:World)(ga:flt a 0=true)(gb:flt b 0=true)(ga2:fgt a 0=false)(na:Op.negFloat .f64 a=p)(nb:Op.negFloat .f64 b=q)(P:Hid (ps p=true))(Q:Hid (ps q=true)):Calls prog 174 #[.int .i64 3,.float .f64 a,.float .f64 b] w fun e w'=>e=.returned (.float .f64 (op (lm 3 p q)))/\Below w.heap.size w w':=by
 have V:=hid (dE 3 w)
 have L:=hid bX
 have IX: ∀w:World,(Instr.index 212 (.agg #[.func (.func 190) #[] #[],.func (.func 191) #[] #[],.func (.func 192) #[] #[],.func (.func 193) #[] #[]]) (.int .i64 3)).run prog w=.ok (.func (.func 193) #[] #[]) w:=fun _=>by kernel_rfl
 have G:=hid lim3
 go_enter func174,ntmps174
 go_wp2_with fail
 refine V.out.mono ?_
 rintro e w1 ⟨rfl,b1⟩
 have B1:=hid b1
 clear b1
 go_wp2_with fail
 refine(L.out _).mono ?_
 rintro e w2 ⟨rfl,b2⟩
 have B2:=hid b2
 clear b2
 go_wp2_with fail
 refine(G.out p q _ P.out Q.out).mono ?_
 rintro e w3 ⟨r,rfl,⟨n,rfl⟩,hr⟩
 have E:canonB (Op.negFloat .f64 r)=op (lm 3 p q):=by rw[bH r hr.1];exact lV hr (mC 3 (cA.1 P.out).2 (cA.1 Q.out).2)
 have C:=bR (Op.negFloat .f64 r) (w2.drewN n) (by rw[bH r hr.1];exact kZ hr.1)
 rw[E]at C
 have C:=hid C
 clear hr E
 go_wp2_with fail
 refine C.out.mono ?_
 rintro e w4 ⟨rfl,rfl⟩
 go_wp2
 go_ret
 exact⟨rfl,Ab.drewN (Ab.trans B1.out B2.out) n⟩
theorem slope_n3(a b:Nat)(w:World)(ha:a<18446744073709551616)(hb:b<18446744073709551616)(pa:ns a=true)(pb:ns b=true):Calls prog 174 #[.int .i64 3,.float .f64 a,.float .f64 b] w fun e w'=>e=.returned (.float .f64 (op (lm 3 (a - 9223372036854775808) (b - 9223372036854775808))))/\Below w.heap.size w w':=by
 have a1:=fM.1 pa
 have b1:=fM.1 pb
 exact slope_m3 a b _ _ w (by rw[dT ha];exact pa) (by rw[dT hb];exact pb) (by rw[cV ha];exact zM.2 (by omega)) (by rw[bH a ha,kO a1.1]) (by rw[bH b hb,kO b1.1]) (cA.2 ⟨by omega,by omega⟩) (cA.2 ⟨by omega,by omega⟩)
theorem slope_z3(a b:Nat)(w:World)(ha:a<18446744073709551616)(hb:b<18446744073709551616)(pa:(ps a&&ps b)=false)(pb:(ns a&&ns b)=false):Calls prog 174 #[.int .i64 3,.float .f64 a,.float .f64 b] w fun e w'=>e=.returned (.float .f64 0)/\Below w.heap.size w w':=by
 have V:=hid (dE 3 w)
 have L:=hid bX
 have IX: ∀w:World,(Instr.index 212 (.agg #[.func (.func 190) #[] #[],.func (.func 191) #[] #[],.func (.func 192) #[] #[],.func (.func 193) #[] #[]]) (.int .i64 3)).run prog w=.ok (.func (.func 193) #[] #[]) w:=fun _=>by kernel_rfl
 rw[<- cV ha,<- cV hb]at pa
 rw[<- dT ha,<- dT hb]at pb
 clear ha hb
 cases g1:fgt a 0<;>cases g2:flt a 0<;>rw[g1]at pa<;>rw[g2]at pb<;>(try rw[Bool.true_and]at pa)<;>(try rw[Bool.true_and]at pb)<;>(
  go_enter func174,ntmps174
  go_wp2_with fail
  refine V.out.mono ?_
  rintro e w1 ⟨rfl,b1⟩
  have B1:=hid b1
  clear b1
  go_wp2_with fail
  refine(L.out _).mono ?_
  rintro e w2 ⟨rfl,b2⟩
  have B2:=hid b2
  clear b2
  go_wp2
  go_ret
  exact⟨rfl,Ab.trans B1.out B2.out⟩)
theorem slope_i(k:Int)(a b:Nat)(w:World)(hk:decide (0<=k/\k<=3)=false):Calls prog 174 #[.int .i64 k,.float .f64 a,.float .f64 b] w fun e w'=>e=.returned (.float .f64 0)/\Below w.heap.size w w':=by
 have V:=dE k w
 rw[hk]at V
 have V:=hid V
 clear hk
 go_enter func174,ntmps174
 go_wp2_with fail
 refine V.out.mono ?_
 rintro e w1 ⟨rfl,b1⟩
 have B1:=hid b1
 clear b1
 go_wp2
 go_ret
 exact⟨rfl,B1.out⟩
theorem zV(k:Int)(a b:Nat)(w:World)(ha:a<18446744073709551616)(hb:b<18446744073709551616):Calls prog 174 #[.int .i64 k,.float .f64 a,.float .f64 b] w fun e w'=>e=.returned (.float .f64 (slp k a b))/\Below w.heap.size w w':=by
 by_cases hk:0<=k/\k<=3
 ·have hk:k=0\/k=1\/k=2\/k=3:=by omega
  unfold slp
  cases p:(ps a&&ps b)
  ·cases n:(ns a&&ns b)
   ·rw[if_neg (by decide),if_neg (by decide)]
    rcases hk with rfl | rfl | rfl | rfl
    ·exact slope_z0 a b w ha hb p n
    ·exact slope_z1 a b w ha hb p n
    ·exact slope_z2 a b w ha hb p n
    ·exact slope_z3 a b w ha hb p n
   ·rw[if_neg (by decide),if_pos rfl]
    rw[Bool.and_eq_true]at n
    rcases hk with rfl | rfl | rfl | rfl
    ·exact slope_n0 a b w ha hb n.1 n.2
    ·exact slope_n1 a b w ha hb n.1 n.2
    ·exact slope_n2 a b w ha hb n.1 n.2
    ·exact slope_n3 a b w ha hb n.1 n.2
  ·rw[if_pos rfl]
   rw[Bool.and_eq_true]at p
   rcases hk with rfl | rfl | rfl | rfl
   ·exact slope_p0 a b w ha hb p.1 p.2
   ·exact slope_p1 a b w ha hb p.1 p.2
   ·exact slope_p2 a b w ha hb p.1 p.2
   ·exact slope_p3 a b w ha hb p.1 p.2
 ·have e:slp k a b=0:=by
   have h: ∀x y,lm k x y=0:=fun x y=>by
    unfold lm
    rw[if_neg (by omega),if_neg (by omega),if_neg (by omega)]
   unfold slp op
   rw[h,h]
   simp
  rw[e]
  exact slope_i k a b w (decide_eq_false hk)
end
section
open Go.RowKit Tf Cu Go.Deep
namespace Rv
theorem bK{w:World}{b:Nat}{o:Obj}(h:w.heap[b]? =some o):b<w.heap.size:=by
 rcases Nat.lt_or_ge b w.heap.size with h1 | h1
 ·exact h1
 ·rw[Array.getElem?_eq_none h1]at h;cases h
end Rv
end
section
open Go.RowKit Tf Cu Go.Deep
attribute [local go_sem] aJ aK aP aQ aR aV aX aD
namespace Ss
theorem own_sea{M:Nat}{v:Value}{nb nw nt ns:Nat}{B:Nat->Nat}{W T:Nat->Int}{S:Nat->Nat}{sky st:Int}{w:World}(h:OwnS M v nb nw nt ns B W T S sky st w)(hB: ∀i,i<nb->B i<18446744073709551616)(hW: ∀i,i<nw->Sh.W64 (W i))(hT: ∀i,i<nt->Sh.W64 (T i))(hS: ∀i,i<ns->S i<18446744073709551616):
  ∃p1 c1 p2 c2 p3 c3 p4 c4,v=.agg #[.slice p1 nb c1,.slice p2 nw c2,.slice p3 nt c3,.slice p4 ns c4,.int .i64 sky,.int .i64 st]/\IsFl w p1 nb B/\Sh.IsI w p2 nw W/\Sh.IsI w p3 nt T/\IsFl w p4 ns S/\Sh.Own M (.slice p2 nw c2) ((List.range nw).map W) w/\Sh.Own M (.slice p3 nt c3) ((List.range nt).map T) w/\OwnG M (.slice p1 nb c1) ((List.range nb).map B) w/\OwnG M (.slice p4 ns c4) ((List.range ns).map S) w/\Dj (.slice p1 nb c1) (.slice p4 ns c4):=by
 obtain⟨v1,v2,v3,v4,rfl,o1,o2,o3,o4,d1,-⟩:=h
 have fl: ∀(u:Value) (n:Nat) (f:Nat->Nat),(∀i,i<n->f i<18446744073709551616)->OwnG M u ((List.range n).map f) w-> ∃p c,u=.slice p n c/\IsFl w p n f:=fun u n f hf o=>by
  obtain⟨p,c,e,i⟩:=o.fl (fun x hx=>by obtain⟨j,hj,rfl⟩:=List.mem_map.1 hx;exact hf j (List.mem_range.1 hj))
  rw[List.length_map,List.length_range]at e i
  exact⟨p,c,e,fun k hk=>by have:=i k hk;simpa [List.getD,hk]using this⟩
 have ii: ∀(u:Value) (n:Nat) (f:Nat->Int),(∀i,i<n->Sh.W64 (f i))->Sh.Own M u ((List.range n).map f) w-> ∃p c,u=.slice p n c/\Sh.IsI w p n f:=fun u n f hf o=>by
  obtain⟨p,c,e,i⟩:=o.in (fun x hx=>by obtain⟨j,hj,rfl⟩:=List.mem_map.1 hx;exact hf j (List.mem_range.1 hj))
  rw[List.length_map,List.length_range]at e i
  exact⟨p,c,e,fun k hk=>by have:=i k hk;simpa [List.getD,hk]using this⟩
 obtain⟨p1,c1,rfl,i1⟩:=fl v1 nb B hB o1
 obtain⟨p2,c2,rfl,i2⟩:=ii v2 nw W hW o2
 obtain⟨p3,c3,rfl,i3⟩:=ii v3 nt T hT o3
 obtain⟨p4,c4,rfl,i4⟩:=fl v4 ns S hS o4
 exact⟨p1,c1,p2,c2,p3,c3,p4,c4,rfl,i1,i2,i3,i4,o2,o3,o1,o4,d1⟩
theorem gQ{M:Nat}{t:TypeId}{v:Value}{n:Nat}{l:List Value}{w:World}(h:w.ownsRow M t 1 v n l): ∃p c,v=.slice p n c:=by
 rcases h.2 with⟨q,e⟩ | ⟨g,cap,cur,q,_⟩
 ·exact⟨none,0,by rw[q,e]⟩
 ·exact⟨_,cap,q⟩
end Ss
end
section
open Go.RowKit Tf Cu Go.Deep
namespace Ss
def OV(t:TypeId)(B:Nat)(v:Value)(l:List Value)(w:World):Prop:=w.ownsRow B t 1 v l.length l
theorem OV.blk{t:TypeId}{B:Nat}{v:Value}{l:List Value}{w:World}(h:OV t B v l w){k:Nat}(hk:v.ownBlock=some k):B<=k/\k<w.heap.size:=World.ownsRow.lt h k hk
theorem OV.blkeq{t:TypeId}{B:Nat}{v:Value}{l:List Value}{w w':World}(h:OV t B v l w)(e: ∀k,v.ownBlock=some k->w'.heap[k]? =w.heap[k]?):OV t B v l w':=by
 rcases h.2 with⟨q,e2⟩ | ⟨g,cap,cur,q,hb,hg,rest⟩
 ·exact⟨h.1,.inl ⟨q,e2⟩⟩
 ·exact⟨h.1,.inr ⟨g,cap,cur,q,hb,(e g (by rw[q];rfl)).trans hg,rest⟩⟩
theorem OV.to{t:TypeId}{B:Nat}{v:Value}{l:List Value}{w w':World}(h:OV t B v l w)(a:Ab w w'):OV t B v l w':=h.blkeq (fun k hk=>a.block k (h.blk hk).2)
end Ss
end
section
open Go.RowKit Tf Cu Go.Deep
attribute [local go_sem] aJ aK aP aQ aR aV aX aD
namespace Ss
theorem dj_ty{t t':TypeId}{M M':Nat}{v u:Value}{l l':List Value}{w:World}(h:OV t M v l w)(k:OV t' M' u l' w)(ne:t≠t'):Dj v u:=fun b h1 h2=>by
 rcases h.2 with⟨rfl,_⟩ | ⟨g,cap,cur,rfl,_,hg,_⟩
 ·cases h1
 ·rcases k.2 with⟨rfl,_⟩ | ⟨g',cap',cur',rfl,_,hg',_⟩
  ·cases h2
  ·simp only[Value.ownBlock,Option.some.injEq]at h1 h2
   subst h1
   subst h2
   rw[hg]at hg'
   injection hg' with e
   injection e with _ e2
   exact ne e2
theorem ovF{M n:Nat}{f:Nat->Nat}{v:Value}{w:World}(h:OwnG M v ((List.range n).map f) w):OV 35 M v (((List.range n).map f).map (Value.float .f64)) w:=by
 unfold OV
 rw[List.length_map]
 exact h
theorem ovI{M n:Nat}{f:Nat->Int}{v:Value}{w:World}(h:Sh.Own M v ((List.range n).map f) w):OV 2 M v (((List.range n).map f).map (Value.int .i64)) w:=by
 unfold OV
 rw[List.length_map]
 exact h
theorem own_k20{M:Nat}{v:Value}{lb lw lt ls:Nat}{B:Nat->Nat}{W T:Nat->Int}{S:Nat->Nat}{sky st:Int}{w:World}(h:OwnS M v lb lw lt ls B W T S sky st w)(hB: ∀i,i<lb->B i<18446744073709551616)(hW: ∀i,i<lw->Sh.W64 (W i))(hT: ∀i,i<lt->Sh.W64 (T i))(hS: ∀i,i<ls->S i<18446744073709551616):
  ∃p1 c1 p2 c2 p3 c3 p4 c4,v=.agg #[.slice p1 lb c1,.slice p2 lw c2,.slice p3 lt c3,.slice p4 ls c4,.int .i64 sky,.int .i64 st]/\(IsFl w p1 lb B/\Sh.IsI w p2 lw W/\Sh.IsI w p3 lt T/\IsFl w p4 ls S)/\(OV 35 M (.slice p1 lb c1) (((List.range lb).map B).map (Value.float .f64)) w/\OV 2 M (.slice p2 lw c2) (((List.range lw).map W).map (Value.int .i64)) w/\OV 2 M (.slice p3 lt c3) (((List.range lt).map T).map (Value.int .i64)) w/\OV 35 M (.slice p4 ls c4) (((List.range ls).map S).map (Value.float .f64)) w)/\(Dj (.slice p1 lb c1) (.slice p2 lw c2)/\Dj (.slice p1 lb c1) (.slice p3 lt c3)/\Dj (.slice p1 lb c1) (.slice p4 ls c4)/\Dj (.slice p2 lw c2) (.slice p3 lt c3)/\Dj (.slice p2 lw c2) (.slice p4 ls c4)/\Dj (.slice p3 lt c3) (.slice p4 ls c4)):=by
 obtain⟨p1,c1,p2,c2,p3,c3,p4,c4,rfl,i1,i2,i3,i4,o2,o3,o1,o4,d14⟩:=own_sea h hB hW hT hS
 have d23:Dj (.slice p2 lw c2) (.slice p3 lt c3):=by
  obtain⟨v1,v2,v3,v4,e,-,-,-,-,-,d⟩:=h
  simp only[Value.agg.injEq,Array.mk.injEq,List.cons.injEq]at e
  rw[e.2.1,e.2.2.1]
  exact d
 exact⟨p1,c1,p2,c2,p3,c3,p4,c4,rfl,⟨i1,i2,i3,i4⟩,⟨ovF o1,ovI o2,ovI o3,ovF o4⟩,dj_ty (ovF o1) (ovI o2) (by decide),dj_ty (ovF o1) (ovI o3) (by decide),d14,d23,dj_ty (ovI o2) (ovF o4) (by decide),dj_ty (ovI o3) (ovF o4) (by decide)⟩
end Ss
end
end Go.Proofs.YtmhnilnaffjhmaaGreatDoor
