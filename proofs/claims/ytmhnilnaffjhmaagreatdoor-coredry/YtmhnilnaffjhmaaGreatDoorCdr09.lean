/-
  Some of the texts of this proof, one behind the other.
-/
import Derived.Deep.AppendLies
import Derived.OwnWalk
import Derived.Test.YtmhnilnaffjhmaaGreatDoorRows
import Derived.Deep.OwnRows
import Derived.Deep.Cut
import Derived.Deep.CutRange
import Derived.Deep.AppendSrc
import Derived.Deep.QuietTactic
import Derived.Test.YtmhnilnaffjhmaaGreatDoorCdr08
set_option maxRecDepth 100000
set_option maxHeartbeats 400000000
namespace Go.Proofs.YtmhnilnaffjhmaaGreatDoor
open _root_.Go.Proofs.Tryz
section
open Go.RowKit Tf Cu Go.Deep
def OwnG(B:Nat)(v:Value)(l:List Nat)(w:World):Prop:=w.ownsRow B 35 1 v l.length (l.map (Value.float .f64))
theorem OwnG.fl{B:Nat}{v:Value}{l:List Nat}{w:World}(h:OwnG B v l w)(hl: ∀x ∈ l,x<18446744073709551616): ∃a0 cap,v=.slice a0 l.length cap/\IsFl w a0 l.length (fun j=>l.getD j 0):=by
 rcases h.2 with⟨rfl,h0⟩ | ⟨g,cap,cur,rfl,hb,hg,h1,h2,h3,h4⟩
 ·exact⟨none,0,by rw[h0],fun k hk=>by omega⟩
 ·refine⟨some ⟨g,0,none⟩,cap,rfl,fun k hk=> ?_⟩
  have hx:l.getD k 0=l[k]:=by simp[List.getD,hk]
  refine⟨by dsimp only;rw[hx];exact hl _ (List.getElem_mem _),g,0,rfl,lt_of_block hg,?_⟩
  have e:=h.cells (g:=g) rfl k (.float .f64 (l.getD k 0)) (by simp[hk])
  rw[lS]at e
  exact e
theorem OwnG.new(w:World)(B:Nat)(hB:B<=w.heap.size):OwnG B (.slice (some ⟨w.heap.size,0,none⟩) 0 0) [] (w.alloc (.cells #[] 35)):=
 ⟨by simp,.inr ⟨w.heap.size,0,#[],rfl,hB,heap_alloc_new _ _,Nat.le_refl _,by unfold maxLen;omega,by simp,by simp⟩⟩
theorem OwnG.to{B:Nat}{v:Value}{l:List Nat}{w w':World}(h:OwnG B v l w)(hb:Ab w w'):OwnG B v l w':=by
 refine⟨h.1,?_⟩
 rcases h.2 with h0 | ⟨g,cap,cur,e,hb',hg,h1,h2,h3,h4⟩
 ·exact .inl h0
 ·exact .inr ⟨g,cap,cur,e,hb',hb.heap hg,h1,h2,h3,h4⟩
theorem info_g: ∃i,Tryz.prog.info? 35=some i/\i.zero=some (.float .f64 0)/\i.size=1/\i.bytes=8:=by
 have h:=qK
 cases e:Tryz.prog.info? 35 with
 | none=>rw[e]at h;cases h
 | some i=>
  rw[e]at h
  simp at h
  exact⟨i,rfl,h.1,h.2.1,h.2.2⟩
end
section
open Go.RowKit Tf Cu Go.Deep
namespace Fc
def eL(n i:Nat):Nat:=edT n i/4
def eR(n i:Nat):Nat:=mt n (edT n i)/4
def gpE(n i:Nat):Nat:=GpC n (edT n i/4) (edT n i%4)
def lvC(n:Nat)(B:Nat->Nat)(W:Nat->Int)(c:Nat):Nat:=lvl (B c) (W c) (arC n c)
def dpC(n:Nat)(W:Nat->Int)(c:Nat):Nat:=dpB (W c) (arC n c)
def opE(n:Nat)(B:Nat->Nat)(W:Nat->Int)(i:Nat):Bool:=opB (W (eL n i)) (W (eR n i)) (lvC n B W (eL n i)) (lvC n B W (eR n i)) (B (eL n i)) (B (eR n i))
def spE(n G dt D:Nat)(B:Nat->Nat)(W:Nat->Int)(Sp:Nat->Nat)(i:Nat):Nat:=if opE n B W i=true then spB G dt D (Sp i) (lvC n B W (eL n i)) (lvC n B W (eR n i)) (dpC n W (eL n i)) (dpC n W (eR n i)) (gpE n i)else 0
def fit4(n lb lw lt ls:Nat):Prop:=lb=6*n*n/\lw=6*n*n/\lt=6*n*n/\ls=12*n*n
def has4(n lb lw lt ls:Nat)(e:Int):Prop:=fit4 n lb lw lt ls/\inR e (12*n*n:Nat)=true
def SpeedC:Prop:= ∀(n gb:Nat) (sd:Int) (dt gr dr:Nat) (lim:Int) (rv:Bool) (pr:Option Addr) (lr cr:Nat) (pb:Option Addr) (lb cb:Nat) (B:Nat->Nat) (pw:Option Addr) (lw cw:Nat) (Wt:Nat->Int) (pt:Option Addr) (lt ct:Nat) (ps:Option Addr) (ls cs:Nat) (Sp:Nat->Nat) (sky st e:Int) (w:World),(1<=n/\n<=32)->GridOf n gb w->IsFl w pb lb B->IsIn w pw lw Wt->IsFl w ps ls Sp->(dt<18446744073709551616/\gr<18446744073709551616/\dr<18446744073709551616)->(-9223372036854775808<=e/\e<=9223372036854775807)->
 (has4 n lb lw lt ls e->Calls prog 111 #[.pointer (some ⟨gb,0,none⟩),.agg #[.int .i64 sd,.float .f64 dt,.float .f64 gr,.float .f64 dr,.int .i64 lim,.bool rv,.slice pr lr cr],.agg #[.slice pb lb cb,.slice pw lw cw,.slice pt lt ct,.slice ps ls cs,.int .i64 sky,.int .i64 st],.int .i64 e] w fun x w'=>x=.returned (.float .f64 (spE n gr dt dr B Wt Sp e.toNat))/\Below w.heap.size w w')/\
 (¬has4 n lb lw lt ls e->Calls prog 111 #[.pointer (some ⟨gb,0,none⟩),.agg #[.int .i64 sd,.float .f64 dt,.float .f64 gr,.float .f64 dr,.int .i64 lim,.bool rv,.slice pr lr cr],.agg #[.slice pb lb cb,.slice pw lw cw,.slice pt lt ct,.slice ps ls cs,.int .i64 sky,.int .i64 st],.int .i64 e] w fun x w'=>x=.returned (.float .f64 0)/\Below w.heap.size w w')
def SpeedsC:Prop:= ∀(n gb:Nat) (sd:Int) (dt gr dr:Nat) (lim:Int) (rv:Bool) (pr:Option Addr) (lr cr:Nat) (pb:Option Addr) (lb cb:Nat) (B:Nat->Nat) (pw:Option Addr) (lw cw:Nat) (Wt:Nat->Int) (pt:Option Addr) (lt ct:Nat) (ps:Option Addr) (ls cs:Nat) (Sp:Nat->Nat) (sky st:Int) (w:World),(1<=n/\n<=32)->GridOf n gb w->IsFl w pb lb B->IsIn w pw lw Wt->IsFl w ps ls Sp->(dt<18446744073709551616/\gr<18446744073709551616/\dr<18446744073709551616)->
 (fit4 n lb lw lt ls->Calls prog 73 #[.pointer (some ⟨gb,0,none⟩),.agg #[.int .i64 sd,.float .f64 dt,.float .f64 gr,.float .f64 dr,.int .i64 lim,.bool rv,.slice pr lr cr],.agg #[.slice pb lb cb,.slice pw lw cw,.slice pt lt ct,.slice ps ls cs,.int .i64 sky,.int .i64 st]] w fun e w'=> ∃v,e=.returned (.tuple #[v,.int .i64 0])/\Below w.heap.size w w'/\OwnG w.heap.size v ((List.range (12*n*n)).map (spE n gr dt dr B Wt Sp)) w')/\
 (¬fit4 n lb lw lt ls->Calls prog 73 #[.pointer (some ⟨gb,0,none⟩),.agg #[.int .i64 sd,.float .f64 dt,.float .f64 gr,.float .f64 dr,.int .i64 lim,.bool rv,.slice pr lr cr],.agg #[.slice pb lb cb,.slice pw lw cw,.slice pt lt ct,.slice ps ls cs,.int .i64 sky,.int .i64 st]] w fun e w'=>e=.returned (.tuple #[.slice none 0 0,.int .i64 1])/\Below w.heap.size w w')
theorem mN(n G dt D:Nat)(B:Nat->Nat)(W:Nat->Int)(Sp:Nat->Nat)(i:Nat):spE n G dt D B W Sp i<18446744073709551616/\canonB (spE n G dt D B W Sp i)=spE n G dt D B W Sp i/\isN (spE n G dt D B W Sp i)=false/\ -4652218415073722368<=rk (spE n G dt D B W Sp i)/\rk (spE n G dt D B W Sp i)<=4652218415073722368:=by
 unfold spE
 split
 ·exact spB_in _ _ _ _ _ _ _ _ _
 ·exact⟨by decide,by decide,by decide,by decide,by decide⟩
end Fc
end
section
open Go.RowKit Tf Cu Go.Deep
attribute [local go_sem] aJ aK aP aQ aR aV aX aD
def lnE(n i:Nat):Nat:=LnC n (edT n i/4) (edT n i%4)
def flB(n:Nat)(lim:Int)(B:Nat->Nat)(W:Nat->Int)(Sp:Nat->Nat)(dt i:Nat):Int:=qnB (Sp i) (rdAll n lim (6*n*n) (6*n*n) B W (i:Nat) (Sp i)) (lnE n i) dt
def QuantaC:Prop:= ∀(u d l t:Nat) (w:World),u<18446744073709551616->d<18446744073709551616->l<18446744073709551616->t<18446744073709551616->
 Calls prog 114 #[.float .f64 u,.float .f64 d,.float .f64 l,.float .f64 t] w fun e w'=>e=.returned (.int .i64 (qnB u d l t))/\Below w.heap.size w w'
def AllC:Prop:= ∀(n gb:Nat) (sd:Int) (dt gr dr:Nat) (lim:Int) (rv:Bool) (pr:Option Addr) (lr cr:Nat) (pb:Option Addr) (lb cb:Nat) (B:Nat->Nat) (pw:Option Addr) (lw cw:Nat) (Wt:Nat->Int) (pt:Option Addr) (lt ct:Nat) (ps:Option Addr) (ls cs:Nat) (Sp:Nat->Nat) (sky st:Int) (w:World),(1<=n/\n<=32)->GridOf n gb w->IsFl w pb lb B->IsIn w pw lw Wt->IsFl w ps ls Sp->dt<18446744073709551616->
 ((lb=6*n*n/\lw=6*n*n/\lt=6*n*n/\ls=12*n*n)->Calls prog 74 #[.pointer (some ⟨gb,0,none⟩),.agg #[.int .i64 sd,.float .f64 dt,.float .f64 gr,.float .f64 dr,.int .i64 lim,.bool rv,.slice pr lr cr],.agg #[.slice pb lb cb,.slice pw lw cw,.slice pt lt ct,.slice ps ls cs,.int .i64 sky,.int .i64 st]] w fun e w'=> ∃b,e=.returned (.tuple #[.slice (some ⟨b,0,none⟩) (12*n*n) (12*n*n),.int .i64 0])/\Below w.heap.size w w'/\w'.rowIs b 2 (12*n*n) (fun i=>.int .i64 (flB n lim B Wt Sp dt i))/\w.heap.size<=b)/\
 (¬(lb=6*n*n/\lw=6*n*n/\lt=6*n*n/\ls=12*n*n)->Calls prog 74 #[.pointer (some ⟨gb,0,none⟩),.agg #[.int .i64 sd,.float .f64 dt,.float .f64 gr,.float .f64 dr,.int .i64 lim,.bool rv,.slice pr lr cr],.agg #[.slice pb lb cb,.slice pw lw cw,.slice pt lt ct,.slice ps ls cs,.int .i64 sky,.int .i64 st]] w fun e w'=>e=.returned (.tuple #[.slice none 0 0,.int .i64 1])/\Below w.heap.size w w')
theorem mO{n:Nat}{k:Int}{lb lw:Nat}{B:Nat->Nat}{W:Nat->Int}(hn:1<=n)(hB: ∀i,i<lb->B i<18446744073709551616)(hW: ∀i,i<lw->W i<=9223372036854775807)(e:Int)(u:Nat):rdAll n k lb lw B W e u<18446744073709551616/\ng (rdAll n k lb lw B W e u)=false:=by
 have z:(0:Nat)<18446744073709551616/\ng 0=false:=by decide
 unfold rdAll
 split
 ·rename_i c
  obtain⟨c1,rfl,rfl⟩:=c
  obtain⟨E,rfl,hE⟩:=qO c1
  rw[Int.toNat_natCast]
  obtain⟨t1,t2,t3⟩:=bI hn hE
  generalize edT n E=t at*
  have key: ∀t,t<24*n*n->sdD n k (arC n) B W t<18446744073709551616/\ng (sdD n k (arC n) B W t)=false:=fun t ht=>by
   have cU:=aN ht
   have cD:=aN (cQ hn ht)
   have wU:=hW _ cU
   have bU:=hB _ cU
   have bD:=hB _ cD
   unfold sdD ovC rcR
   have ml:=qM (BM (k:=k) (hb:=dpB (W (bkC n t)) (arC n (bkC n t))) (hd:=dpB (W (mt n t/4)) (arC n (mt n t/4))) (show dpB (W (t/4)) (arC n (t/4))<9218868437227405312 by have:=mA wU (cO n (t/4)).2;omega)) (show rcG (lvl (B (t/4)) (W (t/4)) (arC n (t/4))) (B (t/4)) (B (mt n t/4))<18446744073709551616 by
    unfold rcG sbB
    exact lC _ _ (sG bU wU (cO n _).2) (bC (xD bU bD)))
   refine⟨pos0_lt ml,?_⟩
   unfold pZ
   split
   ·rename_i q
    rw[cV ml]at q
    exact bF (by have:=(cA.1 q).2;omega)
   ·decide
  unfold rdT
  split
  ·exact key _ t1
  ·split
   ·exact key _ (cQ hn t1)
   ·exact z
 ·exact z
theorem rt_lt64(x:Nat):rtB x<18446744073709551616:=by
 cases h:Ieee.double.sqrt x with
 | none=>rw[kJ h];decide
 | some r=>rw[jC h];exact eI (sqrt_lt h)
theorem sP(n i:Nat):lnE n i<18446744073709551616:=by unfold lnE LnC gp lnB;exact rt_lt64 _
theorem lnE_in{n i:Nat}(hn:1<=n/\n<=32)(hi:i<12*n*n):1<=lnE n i/\lnE n i<=4611686018427387904:=by
 obtain⟨t1,-,-⟩:=bI hn.1 hi
 exact LnC_le hn (aN t1) (by omega)
end
section
open Cu
namespace Sh
def og(n:Nat)(F:Nat->Int)(t:Nat):Int:=if 0<F (eE n t)*eS n t then F (eE n t)*eS n t else 0
def oS(n:Nat)(F:Nat->Int)(c:Nat):Int:=sumN (fun s=>og n F (4*c+s)) 4
def ct(n:Nat)(W F:Nat->Int)(t:Nat):Int:=mM (W (t/4)) (oS n F (t/4)) (og n F t)
def allF(n:Nat)(W F:Nat->Int)(e:Nat):Int:=ct n W F (edT n e) - ct n W F (mt n (edT n e))
theorem pV{n t:Nat}(hn:1<=n)(h:t<24*n*n):eE n (mt n t)=eE n t:=by
 unfold eE
 rw[gV hn h,gI hn h]
 cases isL n t<;>simp
theorem uZ{n t:Nat}(hn:1<=n)(h:t<24*n*n):eS n (mt n t)= -eS n t:=by
 unfold eS
 rw[gV hn h]
 cases isL n t<;>simp
theorem vA(n:Nat)(F:Nat->Int)(t:Nat):0<=og n F t:=by unfold og;split<;>omega
theorem oY{n:Nat}{F:Nat->Int}{t:Nat}(hn:1<=n)(h:t<24*n*n):og n F t=0\/og n F (mt n t)=0:=by
 unfold og
 rw[pV hn h,uZ hn h,Int.mul_neg]
 by_cases c:0<F (eE n t)*eS n t
 ·right;rw[if_neg (by omega)]
 ·left;rw[if_neg c]
theorem jX{n:Nat}{F:Nat->Int}{t:Nat}{m:Int}(hm:0<=m)(h: -m<=F (eE n t)/\F (eE n t)<=m):og n F t<=m:=by
 unfold og eS
 generalize F (eE n t)=x at*
 cases isL n t
 ·simp only[Bool.false_eq_true,if_false]
  split<;>omega
 ·simp only[if_true]
  split<;>omega
theorem oS_le{n:Nat}{F:Nat->Int}{c:Nat}{m:Int}(hm:0<=m)(h: ∀s,s<4-> -m<=F (eE n (4*c+s))/\F (eE n (4*c+s))<=m):oS n F c<=4*m:=by
 have h0:=jX (n:=n) hm (h 0 (by omega))
 have h1:=jX (n:=n) hm (h 1 (by omega))
 have h2:=jX (n:=n) hm (h 2 (by omega))
 have h3:=jX (n:=n) hm (h 3 (by omega))
 show 0+og n F (4*c+0)+og n F (4*c+1)+og n F (4*c+2)+og n F (4*c+3)<=4*m
 omega
theorem mD{n:Nat}{W F:Nat->Int}{t:Nat}(hW:0<=W (t/4))(h:og n F t<=9223372036854775807):0<=ct n W F t/\ct n W F t<=og n F t:=D9 hW (vA n F t) h
theorem nV{n:Nat}{W F:Nat->Int}{t:Nat}(hW:0<=W (t/4))(h:og n F t=0):ct n W F t=0:=by unfold ct;rw[h];exact Ft hW
theorem mP{n t:Nat}(hn:1<=n)(h:t<24*n*n):edT n (eE n t)=if isL n t=true then t else mt n t:=by
 unfold eE
 by_cases c:isL n t=true
 ·rw[if_pos c,if_pos c,mJ hn h c]
 ·have c':isL n (mt n t)=true:=by rw[gV hn h];simpa using c
  rw[if_neg c,if_neg c,mJ hn (cQ hn h) c']
theorem oZ{n:Nat}{W F:Nat->Int}{t:Nat}(hn:1<=n)(h:t<24*n*n):allF n W F (eE n t)*eS n t=ct n W F t - ct n W F (mt n t):=by
 unfold allF
 rw[mP hn h]
 unfold eS
 by_cases c:isL n t=true
 ·rw[if_pos c,if_pos c];omega
 ·rw[if_neg c,if_neg c,gI hn h];omega
theorem BO{n:Nat}{W F:Nat->Int}{t:Nat}{m:Int}(hn:1<=n)(h:t<24*n*n)(hW: ∀c,c<6*n*n->0<=W c)(hm:0<=m/\m<=9223372036854775807)(hF: ∀e,e<12*n*n-> -m<=F e/\F e<=m):
  (if 0<allF n W F (eE n t)*eS n t then allF n W F (eE n t)*eS n t else 0)=ct n W F t:=by
 have c1:=mD (hW _ (aN h)) (show og n F t<=9223372036854775807 by have:=jX (n:=n) hm.1 (hF _ (eD hn h));omega)
 have h2:=cQ hn h
 have c2:=mD (hW _ (aN h2)) (show og n F (mt n t)<=9223372036854775807 by have:=jX (n:=n) hm.1 (hF _ (eD hn h2));omega)
 rw[oZ hn h]
 rcases oY (F:=F) hn h with o | o
 ·have z:=nV (hW _ (aN h)) o
  rw[if_neg (by omega)]
  omega
 ·have z:=nV (hW _ (aN h2)) o
  by_cases q:0<ct n W F t
  ·rw[if_pos (by omega)];omega
  ·rw[if_neg (by omega)];omega
theorem FO{n:Nat}{W F:Nat->Int}{e:Nat}{m:Int}(hn:1<=n)(he:e<12*n*n)(hW: ∀c,c<6*n*n->0<=W c)(hm:0<=m/\m<=9223372036854775807)(hF: ∀e,e<12*n*n-> -m<=F e/\F e<=m):
  (0<=F e->0<=allF n W F e/\allF n W F e<=F e)/\(F e<=0->F e<=allF n W F e/\allF n W F e<=0):=by
 obtain⟨t1,t2,t3⟩:=bI hn he
 have m1:=cQ hn t1
 have eE1:eE n (edT n e)=e:=by unfold eE;rw[if_pos t2,t3]
 have eS1:eS n (edT n e)=1:=by unfold eS;rw[if_pos t2]
 have o1:og n F (edT n e)=if 0<F e then F e else 0:=by unfold og;rw[eE1,eS1,Int.mul_one]
 have o2:og n F (mt n (edT n e))=if 0< -F e then -F e else 0:=by unfold og;rw[pV hn t1,uZ hn t1,eE1,eS1,Int.mul_neg,Int.mul_one]
 have hFe:=hF e he
 have c1:=mD (n:=n) (F:=F) (hW _ (aN t1)) (by rw[o1];split<;>omega)
 have c2:=mD (n:=n) (F:=F) (hW _ (aN m1)) (by rw[o2];split<;>omega)
 unfold allF
 rw[o1]at c1
 rw[o2]at c2
 generalize ct n W F (edT n e)=a at*
 generalize ct n W F (mt n (edT n e))=b at*
 constructor
 ·intro h
  rw[if_neg (by omega)]at c2
  split at c1<;>omega
 ·intro h
  rw[if_neg (by omega)]at c1
  split at c2<;>omega
theorem sQ{n:Nat}{W F:Nat->Int}{c:Nat}{m:Int}(hc:c<6*n*n)(hn:1<=n)(hW:0<=W c)(hm:0<=m/\m<=2305843009213693951)(hF: ∀e,e<12*n*n-> -m<=F e/\F e<=m):
  (oS n F c<=W c->sumN (fun s=>ct n W F (4*c+s)) 4=oS n F c)/\(W c<oS n F c->sumN (fun s=>ct n W F (4*c+s)) 4<=W c/\W c - 4<sumN (fun s=>ct n W F (4*c+s)) 4):=by
 have b:=oS_le (n:=n) (F:=F) (c:=c) hm.1 (fun s hs=>hF _ (eD hn (eK hc hs)))
 have k:=cut_sum (f:=fun s=>og n F (4*c+s)) (W:=W c) (n:=4) hW (fun _ _=>vA _ _ _) (by have:sumN (fun s=>og n F (4*c+s)) 4=oS n F c:=rfl;omega)
 have e:sumN (fun s=>ct n W F (4*c+s)) 4=sumN (fun i=>mM (W c) (sumN (fun s=>og n F (4*c+s)) 4) (og n F (4*c+i))) 4:=by
  refine cH (fun s hs=> ?_)
  unfold ct
  rw[(mU hs).1]
  rfl
 rw[e]
 exact k
end Sh
end
section
open Cu
namespace Ms
open Sh
def tk(n:Nat)(F:Nat->Int)(t:Nat):Int:=eS n t*F (eE n t)
def mv(n:Nat)(W F:Nat->Int)(c:Nat):Int:=W c - sumN (fun s=>tk n F (4*c+s)) 4
theorem zQ(f g:Nat->Int): ∀n,sumN (fun i=>f i+g i) n=sumN f n+sumN g n
 | 0=>rfl
 | n+1=>by
  show sumN (fun i=>f i+g i) n+(f n+g n)=sumN f n+f n+(sumN g n+g n)
  rw[zQ f g n]
  omega
theorem zR(f g:Nat->Int): ∀n,sumN (fun i=>f i - g i) n=sumN f n - sumN g n
 | 0=>rfl
 | n+1=>by
  show sumN (fun i=>f i - g i) n+(f n - g n)=sumN f n+f n - (sumN g n+g n)
  rw[zR f g n]
  omega
theorem sS(f:Nat->Int): ∀n,sumN (fun i=> -f i) n= -sumN f n
 | 0=>rfl
 | n+1=>by
  show sumN (fun i=> -f i) n+ -f n= -(sumN f n+f n)
  rw[sS f n]
  omega
theorem vC(h:Nat->Int): ∀m,sumN (fun c=>sumN (fun s=>h (4*c+s)) 4) m=sumN h (4*m)
 | 0=>rfl
 | m+1=>by
  show sumN (fun c=>sumN (fun s=>h (4*c+s)) 4) m+(0+h (4*m+0)+h (4*m+1)+h (4*m+2)+h (4*m+3))=sumN h (4*m+4)
  rw[vC h m]
  show _=sumN h (4*m)+h (4*m)+h (4*m+1)+h (4*m+2)+h (4*m+3)
  rw[Nat.add_zero]
  omega
theorem pA(h:Nat->Int): ∀n,sumN h n=((List.range n).map h).sum
 | 0=>rfl
 | n+1=>by
  show sumN h n+h n=_
  rw[pA h n,List.range_succ,List.map_append,List.sum_append]
  simp
theorem perm_sum{l m:List Int}(h:l.Perm m):l.sum=m.sum:=by
 induction h with
 | nil=>rfl
 | cons x _ ih=>rw[List.sum_cons,List.sum_cons,ih]
 | swap x y l=>rw[List.sum_cons,List.sum_cons,List.sum_cons,List.sum_cons];omega
 | trans _ _ ih1 ih2=>rw[ih1,ih2]
theorem tk_mt{n:Nat}{F:Nat->Int}{t:Nat}(hn:1<=n)(h:t<24*n*n):tk n F (mt n t)= -tk n F t:=by
 unfold tk
 rw[pV hn h,uZ hn h,Int.neg_mul]
theorem tk_all{n:Nat}(F:Nat->Int)(hn:1<=n):sumN (tk n F) (24*n*n)=0:=by
 have h1:=perm_sum ((Dg hn).map (tk n F))
 rw[List.map_map]at h1
 have h2:(List.range (24*n*n)).map (tk n F ∘ mt n)=(List.range (24*n*n)).map (fun t=> -tk n F t):=List.map_congr_left fun t ht=>tk_mt hn (List.mem_range.1 ht)
 rw[h2,<- pA,<- pA,sS]at h1
 omega
theorem kept{n:Nat}(W F:Nat->Int)(hn:1<=n):sumN (mv n W F) (6*n*n)=sumN W (6*n*n):=by
 have e:sumN (mv n W F) (6*n*n)=sumN W (6*n*n) - sumN (fun c=>sumN (fun s=>tk n F (4*c+s)) 4) (6*n*n):=zR W _ _
 have f:=vC (tk n F) (6*n*n)
 rw[show 4*(6*n*n)=24*n*n by rw[Nat.mul_assoc,Nat.mul_assoc];omega,tk_all F hn]at f
 rw[e,f]
 omega
theorem tk_add(n:Nat)(F G:Nat->Int)(t:Nat):tk n (fun i=>F i+G i) t=tk n F t+tk n G t:=Int.mul_add _ _ _
theorem tk_neg(n:Nat)(F:Nat->Int)(t:Nat):tk n (fun i=> -F i) t= -tk n F t:=Int.mul_neg _ _
theorem mv_two(n:Nat)(W F G:Nat->Int)(c:Nat):mv n (mv n W F) G c=mv n W (fun i=>F i+G i) c:=by
 unfold mv
 have e:sumN (fun s=>tk n (fun i=>F i+G i) (4*c+s)) 4=sumN (fun s=>tk n F (4*c+s)+tk n G (4*c+s)) 4:=cH fun s _=>tk_add n F G _
 rw[e,zQ]
 omega
theorem mv_back(n:Nat)(W F:Nat->Int)(c:Nat):mv n (mv n W F) (fun i=> -F i) c=W c:=by
 unfold mv
 have e:sumN (fun s=>tk n (fun i=> -F i) (4*c+s)) 4=sumN (fun s=> -tk n F (4*c+s)) 4:=cH fun s _=>tk_neg n F _
 rw[e,sS]
 omega
theorem tk_congr{n:Nat}{F G:Nat->Int}{t:Nat}(hn:1<=n)(h:t<24*n*n)(e: ∀i,i<12*n*n->F i=G i):tk n F t=tk n G t:=by
 unfold tk
 rw[e _ (eD hn h)]
theorem nX{n:Nat}{W V F G:Nat->Int}{c:Nat}(hn:1<=n)(hc:c<6*n*n)(e:W c=V c)(f: ∀i,i<12*n*n->F i=G i):mv n W F c=mv n V G c:=by
 unfold mv
 rw[e,cH (fun s hs=>tk_congr hn (eK hc hs) f)]
theorem eE_iff{n k t:Nat}(hn:1<=n)(hk:k<12*n*n)(h:t<24*n*n):eE n t=k ↔ t=edT n k\/t=mt n (edT n k):=by
 obtain⟨t1,t2,t3⟩:=bI hn hk
 constructor
 ·intro e
  unfold eE at e
  by_cases l:isL n t=true
  ·rw[if_pos l]at e
   left
   rw[<- e,mJ hn h l]
  ·rw[if_neg l]at e
   right
   have l2:isL n (mt n t)=true:=by rw[gV hn h];simpa using l
   have:=mJ hn (cQ hn h) l2
   rw[e]at this
   rw[this,gI hn h]
 ·rintro(rfl | rfl)
  ·unfold eE;rw[if_pos t2,t3]
  ·rw[pV hn t1];unfold eE;rw[if_pos t2,t3]
theorem Eh{n k:Nat}(hn:1<=n)(hk:k<12*n*n):edT n k/4<mt n (edT n k)/4:=by
 obtain⟨t1,t2,t3⟩:=bI hn hk
 have h:=(gF hn t1).1
 rw[h]
 exact of_decide_eq_true t2
def oneF(k:Nat)(q:Int)(i:Nat):Int:=if i=k then q else 0
theorem tk_one{n k t:Nat}{q:Int}(hn:1<=n)(hk:k<12*n*n)(h:t<24*n*n):tk n (oneF k q) t=if t=edT n k then q else if t=mt n (edT n k)then -q else 0:=by
 obtain⟨t1,t2,t3⟩:=bI hn hk
 have i:=eE_iff hn hk h
 unfold tk oneF
 by_cases a:t=edT n k
 ·rw[if_pos (i.2 (Or.inl a)),if_pos a]
  unfold eS
  rw[a,if_pos t2]
  omega
 ·by_cases b:t=mt n (edT n k)
  ·rw[if_pos (i.2 (Or.inr b)),if_neg a,if_pos b,b,uZ hn t1]
   unfold eS
   rw[if_pos t2]
   omega
  ·rw[if_neg (fun e=>(i.1 e).elim a b),if_neg a,if_neg b]
   omega
theorem mv_one{n k c:Nat}{q:Int}(W:Nat->Int)(hn:1<=n)(hk:k<12*n*n)(hc:c<6*n*n):mv n W (oneF k q) c=if c=edT n k/4 then W c - q else if c=mt n (edT n k)/4 then W c+q else W c:=by
 have ne:=Eh hn hk
 have e:sumN (fun s=>tk n (oneF k q) (4*c+s)) 4=sumN (fun s=>if 4*c+s=edT n k then q else if 4*c+s=mt n (edT n k)then -q else 0) 4:=cH fun s hs=>tk_one hn hk (eK hc hs)
 unfold mv
 rw[e]
 generalize edT n k=a at*
 generalize mt n a=b at*
 show W c - (0+(if 4*c+0=a then q else if 4*c+0=b then -q else 0)+(if 4*c+1=a then q else if 4*c+1=b then -q else 0)+(if 4*c+2=a then q else if 4*c+2=b then -q else 0)+(if 4*c+3=a then q else if 4*c+3=b then -q else 0))=_
 by_cases ca:c=a/4
 ·rw[if_pos ca]
  have h4:a%4=0\/a%4=1\/a%4=2\/a%4=3:=by omega
  rcases h4 with h | h | h | h
  ·rw[if_pos (show 4*c+0=a by omega),if_neg (show¬4*c+1=a by omega),if_neg (show¬4*c+1=b by omega),if_neg (show¬4*c+2=a by omega),if_neg (show¬4*c+2=b by omega),if_neg (show¬4*c+3=a by omega),if_neg (show¬4*c+3=b by omega)];omega
  ·rw[if_neg (show¬4*c+0=a by omega),if_neg (show¬4*c+0=b by omega),if_pos (show 4*c+1=a by omega),if_neg (show¬4*c+2=a by omega),if_neg (show¬4*c+2=b by omega),if_neg (show¬4*c+3=a by omega),if_neg (show¬4*c+3=b by omega)];omega
  ·rw[if_neg (show¬4*c+0=a by omega),if_neg (show¬4*c+0=b by omega),if_neg (show¬4*c+1=a by omega),if_neg (show¬4*c+1=b by omega),if_pos (show 4*c+2=a by omega),if_neg (show¬4*c+3=a by omega),if_neg (show¬4*c+3=b by omega)];omega
  ·rw[if_neg (show¬4*c+0=a by omega),if_neg (show¬4*c+0=b by omega),if_neg (show¬4*c+1=a by omega),if_neg (show¬4*c+1=b by omega),if_neg (show¬4*c+2=a by omega),if_neg (show¬4*c+2=b by omega),if_pos (show 4*c+3=a by omega)];omega
 ·rw[if_neg ca]
  rw[if_neg (show¬4*c+0=a by omega),if_neg (show¬4*c+1=a by omega),if_neg (show¬4*c+2=a by omega),if_neg (show¬4*c+3=a by omega)]
  by_cases cb:c=b/4
  ·rw[if_pos cb]
   have h4:b%4=0\/b%4=1\/b%4=2\/b%4=3:=by omega
   rcases h4 with h | h | h | h
   ·rw[if_pos (show 4*c+0=b by omega),if_neg (show¬4*c+1=b by omega),if_neg (show¬4*c+2=b by omega),if_neg (show¬4*c+3=b by omega)];omega
   ·rw[if_neg (show¬4*c+0=b by omega),if_pos (show 4*c+1=b by omega),if_neg (show¬4*c+2=b by omega),if_neg (show¬4*c+3=b by omega)];omega
   ·rw[if_neg (show¬4*c+0=b by omega),if_neg (show¬4*c+1=b by omega),if_pos (show 4*c+2=b by omega),if_neg (show¬4*c+3=b by omega)];omega
   ·rw[if_neg (show¬4*c+0=b by omega),if_neg (show¬4*c+1=b by omega),if_neg (show¬4*c+2=b by omega),if_pos (show 4*c+3=b by omega)];omega
  ·rw[if_neg cb,if_neg (show¬4*c+0=b by omega),if_neg (show¬4*c+1=b by omega),if_neg (show¬4*c+2=b by omega),if_neg (show¬4*c+3=b by omega)];omega
end Ms
end
section
open Tf Cu
namespace St
open Ss Fc
section
variable {n r:Nat}
def okB(n:Nat)(B:Nat->Nat)(W:Nat->Int)(S:Nat->Nat):Prop:=(∀c,c<6*n*n->B c<18446744073709551616/\W c<=9223372036854775807)/\ ∀e,e<12*n*n->cnF (S e)
theorem spE_cn{G dt D:Nat}{B:Nat->Nat}{W:Nat->Int}{S:Nat->Nat}(e:Nat):cnF (spE n G dt D B W S e):=by
 obtain⟨h1,h2,h3,-⟩:=mN n G dt D B W S e
 exact⟨h1,h3,fun q=>by rw[q]at h2;revert h2;decide+kernel⟩
theorem og_tk(F:Nat->Int)(t:Nat):Sh.og n F t=if 0<Ms.tk n F t then Ms.tk n F t else 0:=by
 unfold Sh.og Ms.tk
 rw[Int.mul_comm]
theorem all_tk{W F:Nat->Int}(hn:1<=n){t:Nat}(ht:t<24*n*n):Ms.tk n (Sh.allF n W F) t=Sh.ct n W F t - Sh.ct n W F (mt n t):=by
 unfold Ms.tk
 rw[Int.mul_comm]
 exact Sh.oZ hn ht
end
end St
end
section
open Go.RowKit Go.Deep
namespace Sh
def IsI(w:World)(a0:Option Addr)(len:Nat)(xs:Nat->Int):Prop:= ∀k,k<len->(-9223372036854775808<=xs k/\xs k<=9223372036854775807)/\ ∃b o,a0=some ⟨b,o,none⟩/\b<w.heap.size/\w.cell? ⟨b,o+k,none⟩=some (.int .i64 (xs k))
theorem IsI.below{w w':World}{a0:Option Addr}{len:Nat}{xs:Nat->Int}(h:IsI w a0 len xs)(hb:Below w.heap.size w w'):IsI w' a0 len xs:=by
 intro k hk
 obtain⟨h1,b,o,h2,h3,h4⟩:=h k hk
 exact⟨h1,b,o,h2,Nat.lt_of_lt_of_le h3 hb.size,(Below.cell hb h3).trans h4⟩
theorem IsI.some0{w:World}{a0:Option Addr}{len:Nat}{xs:Nat->Int}(h:IsI w a0 len xs)(h0:0<len): ∃b o,a0=some ⟨b,o,none⟩:=by
 obtain⟨_,b,o,h2,_⟩:=h 0 h0
 exact⟨b,o,h2⟩
theorem IsI.at0{w:World}{b o len k:Nat}{xs:Nat->Int}(h:IsI w (some ⟨b,o,none⟩) len xs)(hk:k<len):(-9223372036854775808<=xs k/\xs k<=9223372036854775807)/\b<w.heap.size/\w.cell? ⟨b,o+k,none⟩=some (.int .i64 (xs k)):=by
 obtain⟨h1,b',o',h2,h3,h4⟩:=h k hk
 cases h2
 exact⟨h1,h3,h4⟩
theorem IsI.nil(w:World)(a0:Option Addr)(xs:Nat->Int):IsI w a0 0 xs:=fun k hk=>absurd hk (Nat.not_lt_zero k)
theorem IsI.congr{w:World}{a0:Option Addr}{len:Nat}{xs ys:Nat->Int}(h:IsI w a0 len xs)(e: ∀k,k<len->xs k=ys k):IsI w a0 len ys:=fun k hk=>by rw[<- e k hk];exact h k hk
theorem lU(b off j:Nat):(⟨b,off,none⟩:Addr).add j=⟨b,off+j,none⟩:=by unfold Addr.add;split<;>simp_all
theorem pC{w:World}{b n:Nat}{f:Nat->Int}(h:w.rowIs b 2 n (fun i=>.int .i64 (f i)))(hf: ∀i,i<n-> -9223372036854775808<=f i/\f i<=9223372036854775807):IsI w (some ⟨b,0,none⟩) n f:=fun k hk=>⟨hf k hk,b,0,rfl,h.lt,by rw[Nat.zero_add];exact h.cell hk⟩
theorem cX{w w':World}{b:Nat}{t:TypeId}{n:Nat}{f:Nat->Value}(h:w.rowIs b t n f)(a:Ab w w'):w'.rowIs b t n f:=h.of_block (Below.block a _ h.lt)
theorem fA:(Tryz.prog.info? 2).map (fun i=>(i.zero,i.size,i.bytes))=some (some (.int .i64 0),1,8):=by kernel_rfl
def Own(B:Nat)(v:Value)(l:List Int)(w:World):Prop:=w.ownsRow B 2 1 v l.length (l.map (Value.int .i64))
theorem Own.in{B:Nat}{v:Value}{l:List Int}{w:World}(h:Own B v l w)(hl: ∀x ∈ l,-9223372036854775808<=x/\x<=9223372036854775807): ∃a0 cap,v=.slice a0 l.length cap/\IsI w a0 l.length (fun j=>l.getD j 0):=by
 rcases h.2 with⟨rfl,h0⟩ | ⟨g,cap,cur,rfl,hb,hg,h1,h2,h3,h4⟩
 ·exact⟨none,0,by rw[h0],fun k hk=>by omega⟩
 ·refine⟨some ⟨g,0,none⟩,cap,rfl,fun k hk=> ?_⟩
  have hx:l.getD k 0=l[k]:=by simp[List.getD,hk]
  refine⟨by dsimp only;rw[hx];exact hl _ (List.getElem_mem _),g,0,rfl,lt_of_block hg,?_⟩
  have e:=h.cells (g:=g) rfl k (.int .i64 (l.getD k 0)) (by simp[hk])
  rw[lU]at e
  exact e
theorem Own.new(w:World)(B:Nat):Own B (.slice none 0 0) [] w:=⟨by simp,.inl ⟨rfl,rfl⟩⟩
theorem Own.to{B:Nat}{v:Value}{l:List Int}{w w':World}(h:Own B v l w)(hb:Ab w w'):Own B v l w':=by
 refine⟨h.1,?_⟩
 rcases h.2 with h0 | ⟨g,cap,cur,e,hb',hg,h1,h2,h3,h4⟩
 ·exact .inl h0
 ·exact .inr ⟨g,cap,cur,e,hb',hb.heap hg,h1,h2,h3,h4⟩
theorem xH: ∃i,Tryz.prog.info? 2=some i/\i.zero=some (.int .i64 0)/\i.size=1/\i.bytes=8:=by
 have h:=fA
 cases e:Tryz.prog.info? 2 with
 | none=>rw[e]at h;cases h
 | some i=>
  rw[e]at h
  simp at h
  exact⟨i,rfl,h.1,h.2.1,h.2.2⟩
theorem qQ(w:World)(B:Nat)(hB:B<=w.heap.size):Own B (.slice (some ⟨w.heap.size,0,none⟩) 0 0) [] (w.alloc (.cells #[] 2)):=
 ⟨by simp,.inr ⟨w.heap.size,0,#[],rfl,hB,heap_alloc_new _ _,Nat.le_refl _,by unfold maxLen;omega,by simp,by simp⟩⟩
theorem BP{ops:Array Oper}{rest:List Oper}{o:Oper}{a:Act}{w:World}{Q:Exit->Act->World->Prop}(hgd:o.guard=none)(s x:Operand)
  (ho:o.op=.call {callee:=.builtin .append,args:= #[s,x],argTypes:= #[46,46]})
  (B:Nat) (v:Value) (l:List Int) (hs:a.eval s=v) (hown:Own B v l w)
  (ad:Addr) (m c:Nat) (news:List Int) (hx:a.eval x=.slice (some ad) m c) (hl:news.length=m) (hnews: ∀j u,(news.map (Value.int .i64))[j]? =some u->w.cell? (ad.add j)=some u)
  (hm:0<m) (hlen:l.length+m<=1048576) (hB:B<=w.heap.size) (nm:Nat) (hnm:l.length+m=nm)
  (h: ∀g cap w',Own B (.slice (some ⟨g,0,none⟩) nm cap) (l++news) w'->w.grownBy w' v.ownBlock->(v.ownBlock=some g\/g=w.heap.size)->B<=g->wpList prog ops Q rest (a.put o.dst (.slice (some ⟨g,0,none⟩) nm cap)) w'):wpList prog ops Q (o :: rest) a w:=by
 subst hnm
 obtain⟨i0,hi,hz0,hz1,hz2⟩:=xH
 refine wpList_append_lies w hgd s x _ ho B 2 i0 (.int .i64 0) 1 8 underlying46 hi hz0 hz1 hz2 rfl (by decide) v l.length (l.map (Value.int .i64)) hs hown ad m c (news.map (Value.int .i64)) hx (by simpa using hl) hnews (fun u hu=>by
  obtain⟨y,_,rfl⟩:=List.mem_map.1 hu
  rfl) hm (by unfold maxLen;omega) (by omega) hB _ rfl ?_
 intro g cap w' o1 g1 e1 _
 have hb:B<=g:=by
  rcases o1.2 with⟨q,_⟩ | ⟨g2,_,_,q,hb,_⟩
  ·cases q
  ·injection q with q1 q2 q3
   injection q1 with q4
   injection q4 with q5
   omega
 refine h g cap w' ?_ g1 e1 hb
 unfold Own
 rw[List.length_append,List.map_append,hl]
 exact o1
theorem src_in{w:World}{pb:Option Addr}{L:Nat}{B:Nat->Int}(h:IsI w pb L B)(cb:Nat):Src prog 1 46 (.slice pb L cb) L ((List.range L).map fun k=>Value.int .i64 (B k)) w:=by
 have one: ∀u ∈ (List.range L).map (fun k=>Value.int .i64 (B k)),u.oneCell'=true:=fun u hu=>by
  obtain⟨k,_,rfl⟩:=List.mem_map.1 hu
  rfl
 cases pb with
 | none=>
  have:L=0:=by
   rcases Nat.eq_zero_or_pos L with h0 | h0
   ·exact h0
   ·obtain⟨_,b,o,h2,_⟩:=h 0 h0
    cases h2
  subst this
  exact Src.ofNil w underlying46 cb
 | some a=>
  refine Src.ofSlice w underlying46 a L cb _ (by simp) (fun j u hu=> ?_) one
  have hj:j<L:=by
   rcases Nat.lt_or_ge j L with h1 | h1
   ·exact h1
   ·rw[List.getElem?_eq_none (by simpa using h1)]at hu;cases hu
  obtain⟨_,b,o,h2,_,h4⟩:=h j hj
  cases h2
  simp[hj]at hu
  rw[lU,<- hu]
  exact h4
end Sh
end
section
open Go.RowKit
namespace Sh
theorem wrapu(v:Int):IntKind.u64.wrap v=v%18446744073709551616:=by rw[IntKind.wrap_u64]
theorem sT{a b m:Int}(ha:0<=a)(hb:0<=b)(ha2:a<=m)(hb2:b<=m):0<=a*b/\a*b<=m*m:=⟨Int.mul_nonneg ha hb,Int.mul_le_mul ha2 hb2 hb (by omega)⟩
end Sh
end
section
open Go.RowKit
namespace Sh
theorem zS(k:Nat):(0:Int)<2 ^ k:=Int.pow_pos (by decide)
end Sh
end
section
open Go.RowKit Go.Deep
namespace Sh
def W64(x:Int):Prop:= -9223372036854775808<=x/\x<=9223372036854775807
def PartC:Prop:= ∀(x y z:Int) (w:World),W64 x->W64 y->W64 z->Calls prog 93 #[.int .i64 x,.int .i64 y,.int .i64 z] w fun e w'=>e=.returned (.int .i64 (part x y z))/\Below w.heap.size w w'
def good(W:Int)(n:Nat)(f:Nat->Int):Prop:=0<=W/\(∀i,i<n->0<=f i)/\sumN f n<=9223372036854775807
def cutL(W:Int)(n:Nat)(f:Nat->Int):List Int:=(List.range n).map fun i=>mM W (sumN f n) (f i)
def CutC:Prop:= ∀(W:Int) (p:Option Addr) (n c:Nat) (f:Nat->Int) (w:World),W64 W->n<=65536->IsI w p n f->
 (good W n f->Calls prog 155 #[.int .i64 W,.slice p n c] w fun e w'=> ∃v,e=.returned (.tuple #[v,.int .i64 0])/\Below w.heap.size w w'/\Own w.heap.size v (cutL W n f) w')/\
 (¬good W n f->Calls prog 155 #[.int .i64 W,.slice p n c] w fun e w'=>e=.returned (.tuple #[.slice none 0 0,.int .i64 1])/\Below w.heap.size w w')
end Sh
end
section
open Go.RowKit Go.Deep Cu
namespace Sh
def fits(n lw:Nat)(W:Nat->Int)(lf:Nat)(F:Nat->Int):Prop:=lw=6*n*n/\lf=12*n*n/\(∀c,c<lw->0<=W c)/\(∀e,e<lf-> -4503599627370496<=F e/\F e<=4503599627370496)
def AllC:Prop:= ∀(n gb:Nat) (pw:Option Addr) (lw cw:Nat) (W:Nat->Int) (pf:Option Addr) (lf cf:Nat) (F:Nat->Int) (w:World),(1<=n/\n<=32)->GridOf n gb w->lw<=65536->lf<=65536->IsI w pw lw W->IsI w pf lf F->
 (fits n lw W lf F->Calls prog 75 #[.pointer (some ⟨gb,0,none⟩),.slice pw lw cw,.slice pf lf cf] w fun e w'=> ∃v,e=.returned (.tuple #[v,.int .i64 0])/\Below w.heap.size w w'/\Own w.heap.size v ((List.range (12*n*n)).map (allF n W F)) w')/\
 (¬fits n lw W lf F->Calls prog 75 #[.pointer (some ⟨gb,0,none⟩),.slice pw lw cw,.slice pf lf cf] w fun e w'=>e=.returned (.tuple #[.slice none 0 0,.int .i64 1])/\Below w.heap.size w w')
theorem allF_in{n:Nat}{W F:Nat->Int}{e:Nat}(hn:1<=n)(he:e<12*n*n)(hW: ∀c,c<6*n*n->0<=W c)(hF: ∀e,e<12*n*n-> -4503599627370496<=F e/\F e<=4503599627370496): -4503599627370496<=allF n W F e/\allF n W F e<=4503599627370496:=by
 have s:=FO hn he hW (m:=4503599627370496) ⟨by omega,by omega⟩ hF
 have b:=hF e he
 rcases Int.le_total 0 (F e)with h | h
 ·have:=s.1 h;omega
 ·have:=s.2 h;omega
end Sh
end
section
namespace Tr
open Sh
def tkA(h w:Int)(f:Nat->Int)(k:Nat):Int:=Sh.part h (sumN f (k+1)) w - Sh.part h (sumN f k) w
def okA(w:Int)(f:Nat->Int)(n:Nat):Prop:=(∀i,i<n->0<=f i)/\sumN f n<=w
theorem xI(h w:Int):Sh.part h 0 w=0:=by
 unfold Sh.part
 split
 ·rfl
 ·rw[Int.mul_zero,Int.zero_ediv]
  rfl
theorem tk_dry(h:Int)(f:Nat->Int)(k:Nat):tkA h 0 f k=0:=by
 have e: ∀y,Sh.part h y 0=0:=fun y=>by unfold Sh.part;rw[if_pos (by omega)]
 unfold tkA
 rw[e,e]
 rfl
section
variable {h w:Int} {f:Nat->Int} {n:Nat}
theorem okA.sum(o:okA w f n){k:Nat}(hk:k<=n):0<=sumN f k/\sumN f k<=w:=by
 have a:=fL o.1 hk
 have b:=fR (f:=f) (n:=k) (fun i hi=>o.1 i (by omega))
 have:=o.2
 exact⟨b,by omega⟩
theorem xJ(h w:Int)(f:Nat->Int): ∀n,sumN (tkA h w f) n=Sh.part h (sumN f n) w
 | 0=>(xI h w).symm
 | n+1=>by
  show sumN (tkA h w f) n+tkA h w f n=_
  rw[xJ h w f n]
  unfold tkA
  omega
theorem tk_own(h0:0<=h)(h1:h<=9223372036854775807)(o:okA w f n){k:Nat}(hk:k<n):tkA h w f k=Sh.part h (f k) w\/tkA h w f k=Sh.part h (f k) w+1:=by
 obtain⟨s0,s1⟩:=o.sum (k:=k) (by omega)
 obtain⟨t0,t1⟩:=o.sum (k:=k+1) (by omega)
 have fk:=o.1 k hk
 have st:sumN f (k+1)=sumN f k+f k:=rfl
 rcases Int.lt_or_le 0 w with hw | hw
 ·have a:=(jP h0 h1 s0 hw s1).1
  have b:=(jP h0 h1 t0 hw t1).1
  have c:=(jP h0 h1 fk hw (by omega)).1
  unfold tkA
  rw[a,b,c,st,Int.mul_add]
  have d1:=nQ (a:=h*sumN f k) hw
  have d2:=nQ (a:=h*f k) hw
  have d3:=nQ (a:=h*sumN f k+h*f k) hw
  generalize h*sumN f k=x at*
  generalize h*f k=y at*
  generalize x/w=p at*
  generalize y/w=q at*
  generalize(x+y)/w=r at*
  have l1:w*(p+q)<=w*r+(w - 1):=by rw[Int.mul_add];omega
  have l2:w*r<=w*(p+q)+(2*w - 2):=by rw[Int.mul_add];omega
  have m1:p+q<=r:=by
   rcases Int.lt_or_le r (p+q)with g | g
   ·have:w*(r+1)<=w*(p+q):=Int.mul_le_mul_of_nonneg_left (by omega) (by omega)
    rw[Int.mul_add]at this
    omega
   ·exact g
  have m2:r<=p+q+1:=by
   rcases Int.lt_or_le (p+q+1) r with g | g
   ·have:w*(p+q+2)<=w*r:=Int.mul_le_mul_of_nonneg_left (by omega) (by omega)
    rw[Int.mul_add]at this
    omega
   ·exact g
  omega
 ·left
  have e:w=0:=by omega
  have g:f k=0:=by omega
  rw[e,g,tk_dry,xI]
theorem tk_nn(h0:0<=h)(h1:h<=9223372036854775807)(o:okA w f n){k:Nat}(hk:k<n):0<=tkA h w f k:=by
 have a:=gP h (f k) w
 rcases tk_own h0 h1 o hk with e | e<;>omega
theorem tk_zero{k:Nat}(e:f k=0):tkA h w f k=0:=by
 have st:sumN f (k+1)=sumN f k+f k:=rfl
 unfold tkA
 rw[st,e,Int.add_zero]
 omega
theorem Ei(h0:0<=h)(h1:h<=9223372036854775807)(o:okA w f n):sumN (tkA h w f) n<=h/\(0<w->sumN f n=w->sumN (tkA h w f) n=h):=by
 obtain⟨s0,s1⟩:=o.sum (k:=n) (by omega)
 rw[xJ]
 rcases Int.lt_or_le 0 w with hw | hw
 ·obtain⟨a,b,c⟩:=jP h0 h1 s0 hw s1
  refine⟨c,fun _ e=> ?_⟩
  rw[a,e,Int.mul_ediv_cancel _ (by omega)]
 ·have e:Sh.part h (sumN f n) w=0:=by unfold Sh.part;rw[if_pos (by omega)]
  rw[e]
  exact⟨h0,fun h=>by omega⟩
theorem tk_in(h0:0<=h)(h1:h<=9223372036854775807)(o:okA w f n){k:Nat}(hk:k<n):tkA h w f k<=h:=by
 have a:=Ei h0 h1 o
 have c:=fL (f:=tkA h w f) (n:=n) (fun i hi=>tk_nn h0 h1 o hi) (m:=k+1) (by omega)
 have d:=fR (f:=tkA h w f) (n:=k) (fun i hi=>tk_nn h0 h1 o (by omega))
 have st:sumN (tkA h w f) (k+1)=sumN (tkA h w f) k+tkA h w f k:=rfl
 omega
end
end Tr
end
section
open Cu
namespace Sh
def allP(n:Nat)(W F:Nat->Int)(T e:Nat):Int:=(if edT n e<T then ct n W F (edT n e)else 0) - (if mt n (edT n e)<T then ct n W F (mt n (edT n e))else 0)
theorem FP(n:Nat)(W F:Nat->Int)(e:Nat):allP n W F 0 e=0:=by unfold allP;simp
theorem allP_all{n:Nat}{W F:Nat->Int}{e:Nat}(hn:1<=n)(he:e<12*n*n):allP n W F (24*n*n) e=allF n W F e:=by
 obtain⟨t1,-,-⟩:=bI hn he
 unfold allP allF
 rw[if_pos t1,if_pos (cQ hn t1)]
theorem mt_ne{n t:Nat}(hn:1<=n)(h:t<24*n*n):mt n t≠t:=fun e=>by
 have k:=gV hn h
 rw[e]at k
 cases q:isL n t<;>rw[q]at k<;>cases k
theorem FQ{n:Nat}{W F:Nat->Int}{T e:Nat}(hn:1<=n)(hT:T<24*n*n)(he:e<12*n*n)(hW: ∀c,c<6*n*n->0<=W c)(hF: ∀e,e<12*n*n-> -4503599627370496<=F e/\F e<=4503599627370496):
  allP n W F (T+1) e=if e=eE n T/\0<ct n W F T then ct n W F T*eS n T else allP n W F T e:=by
 obtain⟨t1,t2,t3⟩:=bI hn he
 have m1:=cQ hn t1
 have eE1:eE n (edT n e)=e:=by unfold eE;rw[if_pos t2,t3]
 have hm:=cQ hn hT
 have b: ∀t,t<24*n*n->og n F t<=9223372036854775807:=fun t ht=>by have:=jX (n:=n) (F:=F) (t:=t) (m:=4503599627370496) (by omega) (hF _ (eD hn ht));omega
 have cT:=mD (n:=n) (hW _ (aN hT)) (b T hT)
 have ne:=mt_ne hn hT
 by_cases q:e=eE n T
 ·have ed:edT n e=if isL n T=true then T else mt n T:=by rw[q];exact mP hn hT
  by_cases l:isL n T=true
  ·rw[if_pos l]at ed
   have es:eS n T=1:=by unfold eS;rw[if_pos l]
   unfold allP
   rw[ed,es,if_pos (show T<T+1 by omega),if_neg (show¬T<T by omega)]
   by_cases z:0<ct n W F T
   ·rw[if_pos (show e=eE n T/\0<ct n W F T from⟨q,z⟩)]
    have o:og n F (mt n T)=0:=(oY (F:=F) hn hT).resolve_left (by omega)
    rw[nV (hW _ (aN hm)) o]
    simp
   ·rw[if_neg (show¬(e=eE n T/\0<ct n W F T)from fun h=>z h.2)]
    have z0:ct n W F T=0:=by omega
    rw[z0]
    have k:(mt n T<T+1) ↔ (mt n T<T):=by omega
    simp only[k]
  ·rw[if_neg l]at ed
   have es:eS n T= -1:=by unfold eS;rw[if_neg l]
   unfold allP
   rw[ed,es,gI hn hT,if_pos (show T<T+1 by omega),if_neg (show¬T<T by omega)]
   by_cases z:0<ct n W F T
   ·rw[if_pos (show e=eE n T/\0<ct n W F T from⟨q,z⟩)]
    have o:og n F (mt n T)=0:=(oY (F:=F) hn hT).resolve_left (by omega)
    rw[nV (hW _ (aN hm)) o]
    simp
   ·rw[if_neg (show¬(e=eE n T/\0<ct n W F T)from fun h=>z h.2)]
    have z0:ct n W F T=0:=by omega
    rw[z0]
    have k:(mt n T<T+1) ↔ (mt n T<T):=by omega
    simp only[k]
 ·rw[if_neg (show¬(e=eE n T/\0<ct n W F T)from fun h=>q h.1)]
  have n1:edT n e≠T:=fun h=>q (by rw[<- h,eE1])
  have n2:mt n (edT n e)≠T:=fun h=>q (by rw[<- h,pV hn t1,eE1])
  unfold allP
  have k1:(edT n e<T+1) ↔ (edT n e<T):=by omega
  have k2:(mt n (edT n e)<T+1) ↔ (mt n (edT n e)<T):=by omega
  simp only[k1,k2]
end Sh
end
section
open Cu
namespace Tr
open Sh
def oA(n:Nat)(F:Nat->Int)(c:Nat)(s:Nat):Int:=og n F (4*c+s)
def tks(n:Nat)(W H F:Nat->Int)(t:Nat):Int:=tkA (H (t/4)) (W (t/4)) (oA n F (t/4)) (t%4)
def flF(n:Nat)(W H F:Nat->Int)(e:Nat):Int:=tks n W H F (edT n e) - tks n W H F (mt n (edT n e))
def BQ(n lw:Nat)(W:Nat->Int)(lh:Nat)(H:Nat->Int)(lf:Nat)(F:Nat->Int):Prop:=lw=6*n*n/\lh=6*n*n/\lf=12*n*n/\(∀c,c<lw->0<=W c)/\(∀c,c<lh->0<=H c)/\(∀e,e<lf-> -4503599627370496<=F e/\F e<=4503599627370496)/\(∀c,c<lw->oS n F c<=W c)
section
variable {n:Nat} {W H F:Nat->Int} {t c:Nat}
theorem oA_ok(h:oS n F c<=W c):okA (W c) (oA n F c) 4:=⟨fun _ _=>vA _ _ _,h⟩
theorem oA_t(t:Nat):oA n F (t/4) (t%4)=og n F t:=by
 unfold oA
 have:4*(t/4)+t%4=t:=by omega
 rw[this]
theorem mQ(h0:0<=H (t/4))(h1:H (t/4)<=9223372036854775807)(o:oS n F (t/4)<=W (t/4)):0<=tks n W H F t:=tk_nn h0 h1 (oA_ok o) (by omega)
theorem tks_le(h0:0<=H (t/4))(h1:H (t/4)<=9223372036854775807)(o:oS n F (t/4)<=W (t/4)):tks n W H F t<=H (t/4):=tk_in h0 h1 (oA_ok o) (by omega)
theorem hQ(h:og n F t=0):tks n W H F t=0:=tk_zero (by rw[oA_t];exact h)
theorem flF_side(hn:1<=n)(h:t<24*n*n):flF n W H F (eE n t)*eS n t=tks n W H F t - tks n W H F (mt n t):=by
 unfold flF
 rw[mP hn h]
 unfold eS
 by_cases c:isL n t=true
 ·rw[if_pos c,if_pos c];omega
 ·rw[if_neg c,if_neg c,gI hn h];omega
theorem FR(hn:1<=n){e:Nat}(he:e<12*n*n):eE n (edT n e)=e/\eS n (edT n e)=1:=by
 obtain⟨t1,t2,t3⟩:=bI hn he
 exact⟨by unfold eE;rw[if_pos t2,t3],by unfold eS;rw[if_pos t2]⟩
theorem flF_sign(hn:1<=n){e:Nat}(he:e<12*n*n)(hH: ∀c,c<6*n*n->0<=H c/\H c<=9223372036854775807)(o: ∀c,c<6*n*n->oS n F c<=W c):
  (0<=F e->0<=flF n W H F e)/\(F e<=0->flF n W H F e<=0):=by
 obtain⟨t1,t2,t3⟩:=bI hn he
 obtain⟨e1,e2⟩:=FR hn he
 have m1:=cQ hn t1
 have c1:=mQ (t:=edT n e) (hH _ (aN t1)).1 (hH _ (aN t1)).2 (o _ (aN t1))
 have c2:=mQ (t:=mt n (edT n e)) (hH _ (aN m1)).1 (hH _ (aN m1)).2 (o _ (aN m1))
 have o1:og n F (edT n e)=if 0<F e then F e else 0:=by unfold og;rw[e1,e2,Int.mul_one]
 have o2:og n F (mt n (edT n e))=if 0< -F e then -F e else 0:=by unfold og;rw[pV hn t1,uZ hn t1,e1,e2,Int.mul_neg,Int.mul_one]
 unfold flF
 constructor
 ·intro h
  have z:=hQ (W:=W) (H:=H) (show og n F (mt n (edT n e))=0 by rw[o2,if_neg (by omega)])
  omega
 ·intro h
  have z:=hQ (W:=W) (H:=H) (show og n F (edT n e)=0 by rw[o1,if_neg (by omega)])
  omega
theorem flF_in(hn:1<=n){e:Nat}(he:e<12*n*n)(hH: ∀c,c<6*n*n->0<=H c/\H c<=9223372036854775807)(o: ∀c,c<6*n*n->oS n F c<=W c): -9223372036854775807<=flF n W H F e/\flF n W H F e<=9223372036854775807:=by
 obtain⟨t1,t2,t3⟩:=bI hn he
 have m1:=cQ hn t1
 have a:=hH _ (aN t1)
 have b:=hH _ (aN m1)
 have c1:=mQ (t:=edT n e) a.1 a.2 (o _ (aN t1))
 have c2:=mQ (t:=mt n (edT n e)) b.1 b.2 (o _ (aN m1))
 have d1:=tks_le (t:=edT n e) a.1 a.2 (o _ (aN t1))
 have d2:=tks_le (t:=mt n (edT n e)) b.1 b.2 (o _ (aN m1))
 unfold flF
 omega
theorem BR(n:Nat)(W H F:Nat->Int)(c:Nat):sumN (fun s=>tks n W H F (4*c+s)) 4=Sh.part (H c) (oS n F c) (W c):=by
 have e:sumN (fun s=>tks n W H F (4*c+s)) 4=sumN (tkA (H c) (W c) (oA n F c)) 4:=by
  refine cH (fun s hs=> ?_)
  unfold tks
  rw[(mU hs).1,(mU hs).2]
 rw[e,xJ]
 rfl
theorem BS(h0:0<=H c)(h1:H c<=9223372036854775807)(o:oS n F c<=W c):Sh.part (H c) (oS n F c) (W c)<=H c/\(0<oS n F c->oS n F c=W c->Sh.part (H c) (oS n F c) (W c)=H c):=by
 have a:=Ei h0 h1 (oA_ok o)
 rw[xJ]at a
 refine⟨a.1,fun p q=>a.2 ?_ q⟩
 omega
theorem cut_og(hn:1<=n)(h:t<24*n*n)(hW: ∀c,c<6*n*n->0<=W c){m:Int}(hm:0<=m/\m<=9223372036854775807)(hF: ∀e,e<12*n*n-> -m<=F e/\F e<=m):og n (allF n W F) t=ct n W F t:=BO hn h hW hm hF
theorem cut_oS(hn:1<=n)(hc:c<6*n*n)(hW: ∀c,c<6*n*n->0<=W c){m:Int}(hm:0<=m/\m<=2305843009213693951)(hF: ∀e,e<12*n*n-> -m<=F e/\F e<=m):oS n (allF n W F) c<=W c:=by
 have e:oS n (allF n W F) c=sumN (fun s=>ct n W F (4*c+s)) 4:=by
  unfold oS
  exact cH (fun s hs=>cut_og hn (eK hc hs) hW ⟨hm.1,by omega⟩ hF)
 rw[e]
 have k:=sQ hc hn (hW c hc) hm hF
 rcases Int.lt_or_le (W c) (oS n F c)with q | q
 ·exact(k.2 q).1
 ·rw[k.1 q];exact q
end
def flP(n:Nat)(W H F:Nat->Int)(T:Nat)(e:Nat):Int:=(if edT n e<T then tks n W H F (edT n e)else 0) - (if mt n (edT n e)<T then tks n W H F (mt n (edT n e))else 0)
theorem flP_0(n:Nat)(W H F:Nat->Int)(e:Nat):flP n W H F 0 e=0:=by unfold flP;rw[if_neg (by omega),if_neg (by omega)];rfl
theorem flP_all{n:Nat}{W H F:Nat->Int}{e:Nat}(hn:1<=n)(he:e<12*n*n):flP n W H F (24*n*n) e=flF n W H F e:=by
 obtain⟨t1,_,_⟩:=bI hn he
 unfold flP flF
 rw[if_pos t1,if_pos (cQ hn t1)]
theorem flP_step{n:Nat}{W H F:Nat->Int}{T e:Nat}(hn:1<=n)(hT:T<24*n*n)(he:e<12*n*n)(hH: ∀c,c<6*n*n->0<=H c/\H c<=9223372036854775807)(o: ∀c,c<6*n*n->oS n F c<=W c):
  flP n W H F (T+1) e=if e=eE n T/\0<tks n W H F T then tks n W H F T*eS n T else flP n W H F T e:=by
 obtain⟨t1,t2,t3⟩:=bI hn he
 have m1:=cQ hn t1
 have eE1:eE n (edT n e)=e:=by unfold eE;rw[if_pos t2,t3]
 have cT:=mQ (t:=T) (hH _ (aN hT)).1 (hH _ (aN hT)).2 (o _ (aN hT))
 have gz:0<tks n W H F T->og n F (mt n T)=0:=fun z=>(oY (F:=F) hn hT).resolve_left (fun h=>by have:=hQ (W:=W) (H:=H) h;omega)
 have ne:=mt_ne hn hT
 by_cases q:e=eE n T
 ·have ed:edT n e=if isL n T=true then T else mt n T:=by rw[q];exact mP hn hT
  by_cases l:isL n T=true
  ·rw[if_pos l]at ed
   have es:eS n T=1:=by unfold eS;rw[if_pos l]
   unfold flP
   rw[ed,es,if_pos (show T<T+1 by omega),if_neg (show¬T<T by omega)]
   by_cases z:0<tks n W H F T
   ·rw[if_pos (show e=eE n T/\0<tks n W H F T from⟨q,z⟩)]
    rw[hQ (W:=W) (H:=H) (gz z)]
    simp
   ·rw[if_neg (show¬(e=eE n T/\0<tks n W H F T)from fun h=>z h.2)]
    have z0:tks n W H F T=0:=by omega
    rw[z0]
    have k:(mt n T<T+1) ↔ (mt n T<T):=by omega
    simp only[k]
  ·rw[if_neg l]at ed
   have es:eS n T= -1:=by unfold eS;rw[if_neg l]
   unfold flP
   rw[ed,es,gI hn hT,if_pos (show T<T+1 by omega),if_neg (show¬T<T by omega)]
   by_cases z:0<tks n W H F T
   ·rw[if_pos (show e=eE n T/\0<tks n W H F T from⟨q,z⟩)]
    rw[hQ (W:=W) (H:=H) (gz z)]
    simp
   ·rw[if_neg (show¬(e=eE n T/\0<tks n W H F T)from fun h=>z h.2)]
    have z0:tks n W H F T=0:=by omega
    rw[z0]
    have k:(mt n T<T+1) ↔ (mt n T<T):=by omega
    simp only[k]
 ·rw[if_neg (show¬(e=eE n T/\0<tks n W H F T)from fun h=>q h.1)]
  have n1:edT n e≠T:=fun h=>q (by rw[<- h,eE1])
  have n2:mt n (edT n e)≠T:=fun h=>q (by rw[<- h,pV hn t1,eE1])
  unfold flP
  have k1:(edT n e<T+1) ↔ (edT n e<T):=by omega
  have k2:(mt n (edT n e)<T+1) ↔ (mt n (edT n e)<T):=by omega
  simp only[k1,k2]
end Tr
end
section
open Go.RowKit Tf Cu Go.Deep
namespace Rv
def kb(x:Nat):Nat:=placeB (canonB x)
def kB(B:Nat->Nat)(c:Nat):Nat:=kb (B c)
def dnR(n:Nat)(B:Nat->Nat)(c:Nat):Int:=dnI (kB B) (fun s=>bsC n c s) c
def shR(n:Nat)(x:Int)(c:Nat):Bool:=flt (dpB x (arC n c)) 4602678819172646912
def runR(n:Nat)(B:Nat->Nat)(W T:Nat->Int):(Nat->Int) × (Nat->Int):=rvL (dnR n B) (shR n) (W,T) (ordL (kB B) (6*n*n))
def xK(n lb lw lt ls:Nat)(W T:Nat->Int):Prop:=(lb=6*n*n/\lw=6*n*n/\lt=6*n*n/\ls=12*n*n)/\okV (6*n*n) W/\okV (6*n*n) T
def RunC:Prop:= ∀(n gb:Nat) (pb:Option Addr) (lb cb:Nat) (B:Nat->Nat) (pw:Option Addr) (lw cw:Nat) (W:Nat->Int) (pt:Option Addr) (lt ct:Nat) (T:Nat->Int) (ps:Option Addr) (ls cs:Nat) (Sp:Nat->Nat) (sky st:Int) (w:World),(1<=n/\n<=32)->GridOf n gb w->IsFl w pb lb B->Sh.IsI w pw lw W->Sh.IsI w pt lt T->IsFl w ps ls Sp->
 (xK n lb lw lt ls W T->Calls prog 47 #[.pointer (some ⟨gb,0,none⟩),.agg #[.slice pb lb cb,.slice pw lw cw,.slice pt lt ct,.slice ps ls cs,.int .i64 sky,.int .i64 st]] w fun e w'=> ∃v u,e=.returned (.tuple #[v,u,.int .i64 0])/\Below w.heap.size w w'/\Sh.Own w.heap.size v ((List.range (6*n*n)).map (runR n B W T).1) w'/\Sh.Own w.heap.size u ((List.range (6*n*n)).map (runR n B W T).2) w'/\ ∀k,v.ownBlock=some k->u.ownBlock≠some k)/\
 (¬xK n lb lw lt ls W T->Calls prog 47 #[.pointer (some ⟨gb,0,none⟩),.agg #[.slice pb lb cb,.slice pw lw cw,.slice pt lt ct,.slice ps ls cs,.int .i64 sky,.int .i64 st]] w fun e w'=>e=.returned (.tuple #[.slice none 0 0,.slice none 0 0,.int .i64 1])/\Below w.heap.size w w')
theorem bsC_lt{n c s:Nat}(hn:1<=n)(hc:c<6*n*n)(hs:s<4):bsC n c s<6*n*n:=by
 have ht:4*c+s<24*n*n:=eK hc hs
 have h:=(gF hn ht).1
 have m:=aN (cQ hn ht)
 rw[h]at m
 have e1:(4*c+s)/4=c:=by omega
 have e2:(4*c+s)%4=s:=by omega
 rw[e1,e2]at m
 exact m
theorem okD_R{n:Nat}{B:Nat->Nat}(hn:1<=n):okD (6*n*n) (dnR n B):=fun c hc h=>by
 obtain⟨d,e,k,⟨s,hs,q⟩,-⟩:=dnI_yes h
 have e2:(dnR n B c).toNat=d:=by show(dnI _ _ _).toNat=d;rw[e];rfl
 rw[e2,<- q]
 refine⟨bsC_lt hn hc hs,fun h2=> ?_⟩
 rw[<- q,h2]at k
 omega
theorem runR_ok{n lb lw lt ls:Nat}{B:Nat->Nat}{W T:Nat->Int}(hn:1<=n)(g:xK n lb lw lt ls W T):(okV (6*n*n) (runR n B W T).1/\okV (6*n*n) (runR n B W T).2)/\Sh.sumN (runR n B W T).1 (6*n*n)=Sh.sumN W (6*n*n)/\Sh.sumN (runR n B W T).2 (6*n*n)=Sh.sumN T (6*n*n):=rvL_ok (okD_R hn) (fun _ h=>ordL_mem.1 h) g.2
end Rv
end
section
open Tf Cu
namespace St
open Ss Fc
def wtF(n:Nat)(lim:Int)(G dt D:Nat)(B:Nat->Nat)(W:Nat->Int)(S:Nat->Nat):Nat->Int:=flB n lim B W (spE n G dt D B W S) dt
def waF(n:Nat)(lim:Int)(G dt D:Nat)(B:Nat->Nat)(W:Nat->Int)(S:Nat->Nat):Nat->Int:=Sh.allF n W (wtF n lim G dt D B W S)
def trF(n:Nat)(lim:Int)(G dt D:Nat)(B:Nat->Nat)(W T:Nat->Int)(S:Nat->Nat):Nat->Int:=Tr.flF n W T (waF n lim G dt D B W S)
def mvW(n:Nat)(lim:Int)(G dt D:Nat)(B:Nat->Nat)(W:Nat->Int)(S:Nat->Nat):Nat->Int:=Ms.mv n W (waF n lim G dt D B W S)
def mvT(n:Nat)(lim:Int)(G dt D:Nat)(B:Nat->Nat)(W T:Nat->Int)(S:Nat->Nat):Nat->Int:=Ms.mv n T (trF n lim G dt D B W T S)
def raX(n:Nat)(lim:Int)(G dt D:Nat)(lr:Nat)(R:Nat->Int × Int × Int × Int)(B:Nat->Nat)(W:Nat->Int)(S:Nat->Nat)(sky st:Int):(Nat->Int) × Int:=Rn.rnN st R (mvW n lim G dt D B W S,sky) lr
def riX(n:Nat)(lim:Int)(G dt D:Nat)(rv:Bool)(lr:Nat)(R:Nat->Int × Int × Int × Int)(B:Nat->Nat)(W T:Nat->Int)(S:Nat->Nat)(sky st:Int):(Nat->Int) × (Nat->Int):=
 if rv=true then Rv.runR n B (raX n lim G dt D lr R B W S sky st).1 (mvT n lim G dt D B W T S)else((raX n lim G dt D lr R B W S sky st).1,mvT n lim G dt D B W T S)
def stN(st:Int):Int:=if st<4611686018427387904 then st+1 else st
def okP(n G dt D lr:Nat)(R:Nat->Int × Int × Int × Int):Prop:=(1<=n/\n<=32)/\(G<18446744073709551616/\dt<18446744073709551616/\D<18446744073709551616)/\lr<=1024/\ ∀k,k<lr->Rn.okR (6*n*n) (R k)
def okS(n:Nat)(B:Nat->Nat)(W T:Nat->Int)(S:Nat->Nat)(sky st:Int):Prop:=okN (6*n*n) B W T S sky st/\(∀c,c<6*n*n->B c<18446744073709551616)/\ ∀e,e<12*n*n->S e<18446744073709551616
theorem kQ{W:Nat->Int}{n i:Nat}(h: ∀j,j<n->0<=W j)(hi:i<n):W i<=Sh.sumN W n:=by
 have m:=Sh.fL h (m:=i+1) (by omega)
 have e:Sh.sumN W (i+1)=Sh.sumN W i+W i:=rfl
 have z:=Sh.fR (f:=W) (n:=i) (fun j hj=>h j (by omega))
 omega
section
variable {n:Nat}
theorem tk_og(F:Nat->Int)(t:Nat):Ms.tk n F t<=Sh.og n F t:=by
 rw[og_tk]
 split<;>omega
theorem Ej{f g:Nat->Int}{c:Nat}(h: ∀s,s<4->f (4*c+s)<=g (4*c+s)):Sh.sumN (fun s=>f (4*c+s)) 4<=Sh.sumN (fun s=>g (4*c+s)) 4:=by
 have h0:=h 0 (by omega)
 have h1:=h 1 (by omega)
 have h2:=h 2 (by omega)
 have h3:=h 3 (by omega)
 show 0+f (4*c+0)+f (4*c+1)+f (4*c+2)+f (4*c+3)<=0+g (4*c+0)+g (4*c+1)+g (4*c+2)+g (4*c+3)
 omega
theorem mv_nn{W F:Nat->Int}{c:Nat}(h:Sh.oS n F c<=W c):0<=Ms.mv n W F c:=by
 have k:=Ej (f:=Ms.tk n F) (g:=Sh.og n F) (c:=c) (fun s _=>tk_og _ _)
 unfold Sh.oS at h
 unfold Ms.mv
 omega
theorem mvt_nn{W T F:Nat->Int}(hn:1<=n){c:Nat}(hc:c<6*n*n)(hT: ∀c,c<6*n*n->0<=T c/\T c<=9223372036854775807)(o: ∀c,c<6*n*n->Sh.oS n F c<=W c):0<=Ms.mv n T (Tr.flF n W T F) c:=by
 have k:=Ej (f:=Ms.tk n (Tr.flF n W T F)) (g:=Tr.tks n W T F) (c:=c) (fun s hs=>by
  have ht:=eK hc hs
  have h2:=cQ hn ht
  have e:Ms.tk n (Tr.flF n W T F) (4*c+s)=Tr.tks n W T F (4*c+s) - Tr.tks n W T F (mt n (4*c+s)):=by
   unfold Ms.tk
   rw[Int.mul_comm]
   exact Tr.flF_side hn ht
  have z:=Tr.mQ (t:=mt n (4*c+s)) (hT _ (aN h2)).1 (hT _ (aN h2)).2 (o _ (aN h2))
  rw[e]
  omega)
 have m:=(Tr.BS (hT c hc).1 (hT c hc).2 (o c hc)).1
 rw[Tr.BR]at k
 unfold Ms.mv
 omega
end
section
variable {n G dt D lr:Nat} {lim:Int} {rv:Bool} {R:Nat->Int × Int × Int × Int} {B:Nat->Nat} {W T:Nat->Int} {S:Nat->Nat} {sky st:Int}
theorem okS_B(h:okS n B W T S sky st):okB n B W S:=by
 obtain⟨⟨-,k0,⟨w1,w2⟩,-,s1,-⟩,b,s⟩:=h
 have e2:2*(6*n*n)=12*n*n:=by rw[Nat.mul_assoc,Nat.mul_assoc];omega
 refine⟨fun c hc=>⟨b c hc,?_⟩,fun e he=>bS_cn (s e he) (s1 e (by omega))⟩
 have:=kQ w1 hc
 have:=k0.1
 omega
theorem sU(hp:okP n G dt D lr R)(h:okS n B W T S sky st){e:Nat}(_he:e<12*n*n): -4503599627370496<=wtF n lim G dt D B W S e/\wtF n lim G dt D B W S e<=4503599627370496:=by
 have k:=okS_B h
 exact qn_in (mN n G dt D B W S e).1 (mO hp.1.1 (fun i hi=>(k.1 i hi).1) (fun i hi=>(k.1 i hi).2) _ _).1 (sP _ _) hp.2.1.2.1
theorem wa_fit(hp:okP n G dt D lr R)(h:okS n B W T S sky st):Sh.fits n (6*n*n) W (12*n*n) (wtF n lim G dt D B W S):=⟨rfl,rfl,h.1.2.2.1.1,fun _ he=>sU hp h he⟩
theorem wa_in(hp:okP n G dt D lr R)(h:okS n B W T S sky st){e:Nat}(he:e<12*n*n): -4503599627370496<=waF n lim G dt D B W S e/\waF n lim G dt D B W S e<=4503599627370496:=Sh.allF_in hp.1.1 he h.1.2.2.1.1 (fun _ he=>sU hp h he)
theorem vD(hp:okP n G dt D lr R)(h:okS n B W T S sky st){c:Nat}(hc:c<6*n*n):Sh.oS n (waF n lim G dt D B W S) c<=W c:=Tr.cut_oS hp.1.1 hc h.1.2.2.1.1 (m:=4503599627370496) ⟨by omega,by omega⟩ (fun _ he=>sU hp h he)
theorem okT(h:okS n B W T S sky st){c:Nat}(hc:c<6*n*n):0<=T c/\T c<=9223372036854775807:=by
 have:=h.1.2.2.2.1.b hc
 omega
theorem tr_fit(hp:okP n G dt D lr R)(h:okS n B W T S sky st):Tr.BQ n (6*n*n) W (6*n*n) T (12*n*n) (waF n lim G dt D B W S):=⟨rfl,rfl,rfl,h.1.2.2.1.1,h.1.2.2.2.1.1,fun _ he=>wa_in hp h he,fun _ hc=>vD hp h hc⟩
theorem tr_in(hp:okP n G dt D lr R)(h:okS n B W T S sky st){e:Nat}(he:e<12*n*n): -9223372036854775807<=trF n lim G dt D B W T S e/\trF n lim G dt D B W T S e<=9223372036854775807:=Tr.flF_in hp.1.1 he (fun _ hc=>okT h hc) (fun _ hc=>vD hp h hc)
theorem BT(hp:okP n G dt D lr R)(h:okS n B W T S sky st):(∀c,c<6*n*n->0<=mvW n lim G dt D B W S c/\mvW n lim G dt D B W S c<=4503599627370496)/\Sh.sumN (mvW n lim G dt D B W S) (6*n*n)=Sh.sumN W (6*n*n):=by
 have k:Sh.sumN (mvW n lim G dt D B W S) (6*n*n)=Sh.sumN W (6*n*n):=Ms.kept W _ hp.1.1
 have nn: ∀c,c<6*n*n->0<=mvW n lim G dt D B W S c:=fun c hc=>mv_nn (vD hp h hc)
 refine⟨fun c hc=>⟨nn c hc,?_⟩,k⟩
 have:=kQ nn hc
 have:=h.1.2.2.1.2
 have:=h.1.2.1
 omega
theorem BU(hp:okP n G dt D lr R)(h:okS n B W T S sky st):Rv.okV (6*n*n) (mvT n lim G dt D B W T S)/\Sh.sumN (mvT n lim G dt D B W T S) (6*n*n)=Sh.sumN T (6*n*n):=by
 have k:Sh.sumN (mvT n lim G dt D B W T S) (6*n*n)=Sh.sumN T (6*n*n):=Ms.kept T _ hp.1.1
 exact⟨⟨fun c hc=>mvt_nn hp.1.1 hc (fun _ hc=>okT h hc) (fun _ hc=>vD hp h hc),by rw[k];exact h.1.2.2.2.1.2⟩,k⟩
theorem ra_good(hp:okP n G dt D lr R)(h:okS n B W T S sky st):Rn.sE (6*n*n) (mvW n lim G dt D B W S) sky lr R st:=⟨h.1.2.2.2.2.2.1,h.1.2.1,hp.2.2.1,(BT hp h).1,hp.2.2.2⟩
theorem ra_ok(hp:okP n G dt D lr R)(h:okS n B W T S sky st):Rv.okV (6*n*n) (raX n lim G dt D lr R B W S sky st).1/\0<=(raX n lim G dt D lr R B W S sky st).2/\Sh.sumN (raX n lim G dt D lr R B W S sky st).1 (6*n*n)+(raX n lim G dt D lr R B W S sky st).2=Sh.sumN W (6*n*n)+sky:=by
 have m:=BT (lim:=lim) hp h
 have nn:=Rn.wS (n:=6*n*n) (st:=st) (R:=R) (X:=(mvW n lim G dt D B W S,sky)) ⟨fun c hc=>(m.1 c hc).1,h.1.2.1.1⟩ (k:=lr) hp.2.2.2
 have k:=Rn.zG (n:=6*n*n) (st:=st) (R:=R) (X:=(mvW n lim G dt D B W S,sky)) (k:=lr) hp.2.2.2
 have e:Sh.sumN (raX n lim G dt D lr R B W S sky st).1 (6*n*n)+(raX n lim G dt D lr R B W S sky st).2=Sh.sumN W (6*n*n)+sky:=by
  refine k.trans ?_
  dsimp only
  rw[m.2]
 refine⟨⟨nn.1,?_⟩,nn.2,e⟩
 have:=nn.2
 have:=h.1.2.2.1.2
 have z:(raX n lim G dt D lr R B W S sky st).2=(Rn.rnN st R (mvW n lim G dt D B W S,sky) lr).2:=rfl
 omega
theorem Ek(hp:okP n G dt D lr R)(h:okS n B W T S sky st):Rv.xK n (6*n*n) (6*n*n) (6*n*n) (12*n*n) (raX n lim G dt D lr R B W S sky st).1 (mvT n lim G dt D B W T S):=⟨⟨rfl,rfl,rfl,rfl⟩,(ra_ok hp h).1,(BU hp h).1⟩
theorem ri_ok(hp:okP n G dt D lr R)(h:okS n B W T S sky st):(Rv.okV (6*n*n) (riX n lim G dt D rv lr R B W T S sky st).1/\Rv.okV (6*n*n) (riX n lim G dt D rv lr R B W T S sky st).2)/\Sh.sumN (riX n lim G dt D rv lr R B W T S sky st).1 (6*n*n)+(raX n lim G dt D lr R B W S sky st).2=Sh.sumN W (6*n*n)+sky/\Sh.sumN (riX n lim G dt D rv lr R B W T S sky st).2 (6*n*n)=Sh.sumN T (6*n*n):=by
 have g:=Ek (lim:=lim) hp h
 have m:=BU (lim:=lim) hp h
 have a:=ra_ok (lim:=lim) hp h
 unfold riX
 cases rv with
 | false=>
  rw[if_neg (by decide)]
  exact⟨⟨a.1,m.1⟩,a.2.2,m.2⟩
 | true=>
  rw[if_pos rfl]
  have k:=Rv.runR_ok (B:=B) hp.1.1 g
  refine⟨k.1,?_,?_⟩
  ·rw[k.2.1];exact a.2.2
  ·rw[k.2.2];exact m.2
theorem one_ok(hp:okP n G dt D lr R)(h:okS n B W T S sky st):okS n B (riX n lim G dt D rv lr R B W T S sky st).1 (riX n lim G dt D rv lr R B W T S sky st).2 (spE n G dt D B W S) (raX n lim G dt D lr R B W S sky st).2 (stN st):=by
 have k:=ri_ok (lim:=lim) (rv:=rv) hp h
 have a:=ra_ok (lim:=lim) hp h
 have w:=h.1.2.2.1.2
 have s:=Sh.fR k.1.1.1
 refine⟨⟨h.1.1,⟨a.2.1,by omega⟩,⟨k.1.1.1,by omega⟩,k.1.2,fun e _=> ?_,?_⟩,h.2.1,fun e _=>(mN n G dt D B W S e).1⟩
 ·have q:=mN n G dt D B W S e
  rw[bS_iff q.1]
  exact⟨q.2.2.1,q.2.2.2,(spE_cn e).2.2⟩
 ·have:=h.1.2.2.2.2.2
  unfold stN
  split<;>omega
end
end St
end
section
open Tf Ieee
theorem mv_w20:mv 4697254411347427328=1048576*one:=by
 have h:=dJ 20 4697254411347427328 (by decide)
 have e:(2:Nat) ^ 20=1048576:=by decide
 rw[e]at h;exact h
theorem mv_w53:mv 4845873199050653696=9007199254740992*one:=by
 have h:=dJ 53 4845873199050653696 (by decide)
 have e:(2:Nat) ^ 53=9007199254740992:=by decide
 rw[e]at h;exact h
theorem sv_20{b:Nat}(h1:rk b<=4697254411347427328)(h2: -4697254411347427328<=rk b): -(1048576*(one:Int))<=sv b/\sv b<=1048576*(one:Int):=by
 have a:=(lP b 4697254411347427328).2 (by rw[show rk 4697254411347427328=4697254411347427328 by decide];exact h1)
 have c:=(lP 13920626448202203136 b).2 (by rw[show rk 13920626448202203136= -4697254411347427328 by decide];exact h2)
 have e1:sv 4697254411347427328=(mv 4697254411347427328:Nat):=sF (by decide)
 have e2:sv 13920626448202203136= -((mv 4697254411347427328:Nat):Int):=by
  unfold sv
  rw[show ng 13920626448202203136=true by decide,show mg 13920626448202203136=4697254411347427328 by decide];rfl
 rw[e1,mv_w20]at a
 rw[e2,mv_w20]at c
 rw[Int.natCast_mul]at a c
 exact⟨c,a⟩
theorem rn_le{z:Bool}{v:Int}{r:Nat}(h:v.natAbs<=mv r)(hr:r<9218868437227405312):mg (rn z v)<=r/\mg (rn z v)<9218868437227405312/\sv (rn z v)=rd v:=by
 have a:rung 52 0 v.natAbs<=r:=rung_le2 (d:=0) (by rw[Nat.pow_zero,Nat.mul_one];exact h)
 have b:mg (rn z v)<=r:=by rw[rH];omega
 exact⟨b,by omega,rn_fin' z v (by omega)⟩
end
section
open Tf Cu
namespace St
open Ss Fc
theorem dp_52{w a:Int}(w2:w<=4503599627370496)(a2:a<=9223372036854775807):dpB w a<=4841369599423283200:=by
 by_cases h:w<1\/a<1
 ·rw[lQ h];omega
 ·have e:dpB 4503599627370496 1=4841369599423283200:=by decide+kernel
  have m:=dp_mono (w:=w) (w':=4503599627370496) (a:=a) w2 (by omega) a2
  have n:=dp_anti (w:=4503599627370496) (a:=1) (a':=a) (by omega) (by omega) (by omega) a2
  omega
theorem Br{b:Nat}{w a:Int}(hb:b<18446744073709551616)(h1:rk b<=4697254411347427328)(h2: -4697254411347427328<=rk b)(w2:w<=4503599627370496)(a2:a<=9223372036854775807):mg (lvl b w a)<9218868437227405312:=by
 have d:=dp_52 w2 a2
 have s1:=sv_20 h1 h2
 have mb:mg b<9218868437227405312:=by
  unfold rk at h1 h2
  cases q:ng b with
  | true=>rw[q,if_pos rfl]at h2;omega
  | false=>rw[q,if_neg (by decide)]at h1;omega
 have md:mg (dpB w a)=dpB w a:=aZ (by omega)
 have s2:sv (dpB w a)=(mv (dpB w a):Nat):=sF (by omega)
 have s3:mv (dpB w a)<=9007199254740992*one - 1048576*one:=by
  have k:mv (dpB w a)<=mv 4841369599423283200:=nD.2 d
  have e:mv 4841369599423283200=4503599627370496*one:=by
   have h:=dJ 52 4841369599423283200 (by decide)
   have e:(2:Nat) ^ 52=4503599627370496:=by decide
   rw[e]at h;exact h
  rw[e]at k
  generalize one=o at*
  omega
 unfold lvl
 rw[dA b _ hb (by omega) mb (by omega)]
 refine(rn_le (r:=4845873199050653696) ?_ (by omega)).2.1
 rw[mv_w53,s2]
 generalize one=o at*
 generalize mv (dpB w a)=m at*
 generalize sv b=v at*
 omega
section
variable {n G dt D lr:Nat} {lim:Int} {R:Nat->Int × Int × Int × Int} {B:Nat->Nat} {W T:Nat->Int} {S:Nat->Nat} {sky st:Int}
def rest(n:Nat)(B:Nat->Nat)(W:Nat->Int)(S:Nat->Nat):Prop:= ∀e,e<12*n*n->S e=0/\(opE n B W e=true->lvC n B W (eL n e)=lvC n B W (eR n e))
end
end St
end
end Go.Proofs.YtmhnilnaffjhmaaGreatDoor
