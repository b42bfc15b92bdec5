/-
  Some of the texts of this proof, one behind the other.
-/
import Derived.Deep.QuietTactic
import Derived.Test.YtaphajlpbgcfjaaGreatDoorRa09
set_option maxRecDepth 100000
set_option maxHeartbeats 400000000
namespace Go.Proofs.YtaphajlpbgcfjaaGreatDoor
open _root_.Go.Proofs.Tryz
section
namespace Tr
open Sh
def tkA(h w:Int)(f:Nat->Int)(k:Nat):Int:=Sh.part h (sumN f (k+1)) w - Sh.part h (sumN f k) w
def okA(w:Int)(f:Nat->Int)(n:Nat):Prop:=(∀i,i<n->0<=f i)/\sumN f n<=w
theorem yE(h w:Int):Sh.part h 0 w=0:=by
 unfold Sh.part
 split
 ·rfl
 ·rw[Int.mul_zero,Int.zero_ediv]
  rfl
theorem tk_dry(h:Int)(f:Nat->Int)(k:Nat):tkA h 0 f k=0:=by
 have e: ∀y,Sh.part h y 0=0:=fun y=>by unfold Sh.part;rw[if_pos (by omega)]
 unfold tkA
 rw[e,e]
 rfl
section
variable {h w:Int} {f:Nat->Int} {n:Nat}
theorem okA.sum(o:okA w f n){k:Nat}(hk:k<=n):0<=sumN f k/\sumN f k<=w:=by
 have a:=gC o.1 hk
 have b:=gH (f:=f) (n:=k) (fun i hi=>o.1 i (by omega))
 have:=o.2
 exact⟨b,by omega⟩
theorem yF(h w:Int)(f:Nat->Int): ∀n,sumN (tkA h w f) n=Sh.part h (sumN f n) w
 | 0=>(yE h w).symm
 | n+1=>by
  show sumN (tkA h w f) n+tkA h w f n=_
  rw[yF h w f n]
  unfold tkA
  omega
theorem tk_own(h0:0<=h)(h1:h<=9223372036854775807)(o:okA w f n){k:Nat}(hk:k<n):tkA h w f k=Sh.part h (f k) w\/tkA h w f k=Sh.part h (f k) w+1:=by
 obtain⟨s0,s1⟩:=o.sum (k:=k) (by omega)
 obtain⟨t0,t1⟩:=o.sum (k:=k+1) (by omega)
 have fk:=o.1 k hk
 have st:sumN f (k+1)=sumN f k+f k:=rfl
 rcases Int.lt_or_le 0 w with hw | hw
 ·have a:=(kF h0 h1 s0 hw s1).1
  have b:=(kF h0 h1 t0 hw t1).1
  have c:=(kF h0 h1 fk hw (by omega)).1
  unfold tkA
  rw[a,b,c,st,Int.mul_add]
  have d1:=nZ (a:=h*sumN f k) hw
  have d2:=nZ (a:=h*f k) hw
  have d3:=nZ (a:=h*sumN f k+h*f k) hw
  generalize h*sumN f k=x at*
  generalize h*f k=y at*
  generalize x/w=p at*
  generalize y/w=q at*
  generalize(x+y)/w=r at*
  have l1:w*(p+q)<=w*r+(w - 1):=by rw[Int.mul_add];omega
  have l2:w*r<=w*(p+q)+(2*w - 2):=by rw[Int.mul_add];omega
  have m1:p+q<=r:=by
   rcases Int.lt_or_le r (p+q)with g | g
   ·have:w*(r+1)<=w*(p+q):=Int.mul_le_mul_of_nonneg_left (by omega) (by omega)
    rw[Int.mul_add]at this
    omega
   ·exact g
  have m2:r<=p+q+1:=by
   rcases Int.lt_or_le (p+q+1) r with g | g
   ·have:w*(p+q+2)<=w*r:=Int.mul_le_mul_of_nonneg_left (by omega) (by omega)
    rw[Int.mul_add]at this
    omega
   ·exact g
  omega
 ·left
  have e:w=0:=by omega
  have g:f k=0:=by omega
  rw[e,g,tk_dry,yE]
theorem tk_nn(h0:0<=h)(h1:h<=9223372036854775807)(o:okA w f n){k:Nat}(hk:k<n):0<=tkA h w f k:=by
 have a:=hJ h (f k) w
 rcases tk_own h0 h1 o hk with e | e<;>omega
theorem tk_zero{k:Nat}(e:f k=0):tkA h w f k=0:=by
 have st:sumN f (k+1)=sumN f k+f k:=rfl
 unfold tkA
 rw[st,e,Int.add_zero]
 omega
theorem Fv(h0:0<=h)(h1:h<=9223372036854775807)(o:okA w f n):sumN (tkA h w f) n<=h/\(0<w->sumN f n=w->sumN (tkA h w f) n=h):=by
 obtain⟨s0,s1⟩:=o.sum (k:=n) (by omega)
 rw[yF]
 rcases Int.lt_or_le 0 w with hw | hw
 ·obtain⟨a,b,c⟩:=kF h0 h1 s0 hw s1
  refine⟨c,fun _ e=> ?_⟩
  rw[a,e,Int.mul_ediv_cancel _ (by omega)]
 ·have e:Sh.part h (sumN f n) w=0:=by unfold Sh.part;rw[if_pos (by omega)]
  rw[e]
  exact⟨h0,fun h=>by omega⟩
theorem tk_in(h0:0<=h)(h1:h<=9223372036854775807)(o:okA w f n){k:Nat}(hk:k<n):tkA h w f k<=h:=by
 have a:=Fv h0 h1 o
 have c:=gC (f:=tkA h w f) (n:=n) (fun i hi=>tk_nn h0 h1 o hi) (m:=k+1) (by omega)
 have d:=gH (f:=tkA h w f) (n:=k) (fun i hi=>tk_nn h0 h1 o (by omega))
 have st:sumN (tkA h w f) (k+1)=sumN (tkA h w f) k+tkA h w f k:=rfl
 omega
end
end Tr
end
section
open Cu
namespace Sh
def allP(n:Nat)(W F:Nat->Int)(T e:Nat):Int:=(if edT n e<T then ct n W F (edT n e)else 0) - (if mt n (edT n e)<T then ct n W F (mt n (edT n e))else 0)
theorem Hf(n:Nat)(W F:Nat->Int)(e:Nat):allP n W F 0 e=0:=by unfold allP;simp
theorem allP_all{n:Nat}{W F:Nat->Int}{e:Nat}(hn:1<=n)(he:e<12*n*n):allP n W F (24*n*n) e=allF n W F e:=by
 obtain⟨t1,-,-⟩:=bM hn he
 unfold allP allF
 rw[if_pos t1,if_pos (cY hn t1)]
theorem mt_ne{n t:Nat}(hn:1<=n)(h:t<24*n*n):mt n t≠t:=fun e=>by
 have k:=jE hn h
 rw[e]at k
 cases q:isL n t<;>rw[q]at k<;>cases k
theorem Hg{n:Nat}{W F:Nat->Int}{T e:Nat}(hn:1<=n)(hT:T<24*n*n)(he:e<12*n*n)(hW: ∀c,c<6*n*n->0<=W c)(hF: ∀e,e<12*n*n-> -4503599627370496<=F e/\F e<=4503599627370496):
  allP n W F (T+1) e=if e=eE n T/\0<ct n W F T then ct n W F T*eS n T else allP n W F T e:=by
 obtain⟨t1,t2,t3⟩:=bM hn he
 have m1:=cY hn t1
 have eE1:eE n (edT n e)=e:=by unfold eE;rw[if_pos t2,t3]
 have hm:=cY hn hT
 have b: ∀t,t<24*n*n->og n F t<=9223372036854775807:=fun t ht=>by have:=oH (n:=n) (F:=F) (t:=t) (m:=4503599627370496) (by omega) (hF _ (fS hn ht));omega
 have cT:=tN (n:=n) (hW _ (bC hT)) (b T hT)
 have ne:=mt_ne hn hT
 by_cases q:e=eE n T
 ·have ed:edT n e=if isL n T=true then T else mt n T:=by rw[q];exact pZ hn hT
  by_cases l:isL n T=true
  ·rw[if_pos l]at ed
   have es:eS n T=1:=by unfold eS;rw[if_pos l]
   unfold allP
   rw[ed,es,if_pos (show T<T+1 by omega),if_neg (show¬T<T by omega)]
   by_cases z:0<ct n W F T
   ·rw[if_pos (show e=eE n T/\0<ct n W F T from⟨q,z⟩)]
    have o:og n F (mt n T)=0:=(pY (F:=F) hn hT).resolve_left (by omega)
    rw[kL (hW _ (bC hm)) o]
    simp
   ·rw[if_neg (show¬(e=eE n T/\0<ct n W F T)from fun h=>z h.2)]
    have z0:ct n W F T=0:=by omega
    rw[z0]
    have k:(mt n T<T+1) ↔ (mt n T<T):=by omega
    simp only[k]
  ·rw[if_neg l]at ed
   have es:eS n T= -1:=by unfold eS;rw[if_neg l]
   unfold allP
   rw[ed,es,iU hn hT,if_pos (show T<T+1 by omega),if_neg (show¬T<T by omega)]
   by_cases z:0<ct n W F T
   ·rw[if_pos (show e=eE n T/\0<ct n W F T from⟨q,z⟩)]
    have o:og n F (mt n T)=0:=(pY (F:=F) hn hT).resolve_left (by omega)
    rw[kL (hW _ (bC hm)) o]
    simp
   ·rw[if_neg (show¬(e=eE n T/\0<ct n W F T)from fun h=>z h.2)]
    have z0:ct n W F T=0:=by omega
    rw[z0]
    have k:(mt n T<T+1) ↔ (mt n T<T):=by omega
    simp only[k]
 ·rw[if_neg (show¬(e=eE n T/\0<ct n W F T)from fun h=>q h.1)]
  have n1:edT n e≠T:=fun h=>q (by rw[<- h,eE1])
  have n2:mt n (edT n e)≠T:=fun h=>q (by rw[<- h,vZ hn t1,eE1])
  unfold allP
  have k1:(edT n e<T+1) ↔ (edT n e<T):=by omega
  have k2:(mt n (edT n e)<T+1) ↔ (mt n (edT n e)<T):=by omega
  simp only[k1,k2]
end Sh
end
section
open Cu
namespace Tr
open Sh
def oA(n:Nat)(F:Nat->Int)(c:Nat)(s:Nat):Int:=og n F (4*c+s)
def tks(n:Nat)(W H F:Nat->Int)(t:Nat):Int:=tkA (H (t/4)) (W (t/4)) (oA n F (t/4)) (t%4)
def flF(n:Nat)(W H F:Nat->Int)(e:Nat):Int:=tks n W H F (edT n e) - tks n W H F (mt n (edT n e))
def De(n lw:Nat)(W:Nat->Int)(lh:Nat)(H:Nat->Int)(lf:Nat)(F:Nat->Int):Prop:=lw=6*n*n/\lh=6*n*n/\lf=12*n*n/\(∀c,c<lw->0<=W c)/\(∀c,c<lh->0<=H c)/\(∀e,e<lf-> -4503599627370496<=F e/\F e<=4503599627370496)/\(∀c,c<lw->oS n F c<=W c)
section
variable {n:Nat} {W H F:Nat->Int} {t c:Nat}
theorem oA_ok(h:oS n F c<=W c):okA (W c) (oA n F c) 4:=⟨fun _ _=>Ax _ _ _,h⟩
theorem oA_t(t:Nat):oA n F (t/4) (t%4)=og n F t:=by
 unfold oA
 have:4*(t/4)+t%4=t:=by omega
 rw[this]
theorem tR(h0:0<=H (t/4))(h1:H (t/4)<=9223372036854775807)(o:oS n F (t/4)<=W (t/4)):0<=tks n W H F t:=tk_nn h0 h1 (oA_ok o) (by omega)
theorem tks_le(h0:0<=H (t/4))(h1:H (t/4)<=9223372036854775807)(o:oS n F (t/4)<=W (t/4)):tks n W H F t<=H (t/4):=tk_in h0 h1 (oA_ok o) (by omega)
theorem iQ(h:og n F t=0):tks n W H F t=0:=tk_zero (by rw[oA_t];exact h)
theorem flF_side(hn:1<=n)(h:t<24*n*n):flF n W H F (eE n t)*eS n t=tks n W H F t - tks n W H F (mt n t):=by
 unfold flF
 rw[pZ hn h]
 unfold eS
 by_cases c:isL n t=true
 ·rw[if_pos c,if_pos c];omega
 ·rw[if_neg c,if_neg c,iU hn h];omega
theorem flF_in(hn:1<=n){e:Nat}(he:e<12*n*n)(hH: ∀c,c<6*n*n->0<=H c/\H c<=9223372036854775807)(o: ∀c,c<6*n*n->oS n F c<=W c): -9223372036854775807<=flF n W H F e/\flF n W H F e<=9223372036854775807:=by
 obtain⟨t1,t2,t3⟩:=bM hn he
 have m1:=cY hn t1
 have a:=hH _ (bC t1)
 have b:=hH _ (bC m1)
 have c1:=tR (t:=edT n e) a.1 a.2 (o _ (bC t1))
 have c2:=tR (t:=mt n (edT n e)) b.1 b.2 (o _ (bC m1))
 have d1:=tks_le (t:=edT n e) a.1 a.2 (o _ (bC t1))
 have d2:=tks_le (t:=mt n (edT n e)) b.1 b.2 (o _ (bC m1))
 unfold flF
 omega
theorem Df(n:Nat)(W H F:Nat->Int)(c:Nat):sumN (fun s=>tks n W H F (4*c+s)) 4=Sh.part (H c) (oS n F c) (W c):=by
 have e:sumN (fun s=>tks n W H F (4*c+s)) 4=sumN (tkA (H c) (W c) (oA n F c)) 4:=by
  refine cV (fun s hs=> ?_)
  unfold tks
  rw[(nG hs).1,(nG hs).2]
 rw[e,yF]
 rfl
theorem Dg(h0:0<=H c)(h1:H c<=9223372036854775807)(o:oS n F c<=W c):Sh.part (H c) (oS n F c) (W c)<=H c/\(0<oS n F c->oS n F c=W c->Sh.part (H c) (oS n F c) (W c)=H c):=by
 have a:=Fv h0 h1 (oA_ok o)
 rw[yF]at a
 refine⟨a.1,fun p q=>a.2 ?_ q⟩
 omega
theorem cut_og(hn:1<=n)(h:t<24*n*n)(hW: ∀c,c<6*n*n->0<=W c){m:Int}(hm:0<=m/\m<=9223372036854775807)(hF: ∀e,e<12*n*n-> -m<=F e/\F e<=m):og n (allF n W F) t=ct n W F t:=Db hn h hW hm hF
theorem cut_oS(hn:1<=n)(hc:c<6*n*n)(hW: ∀c,c<6*n*n->0<=W c){m:Int}(hm:0<=m/\m<=2305843009213693951)(hF: ∀e,e<12*n*n-> -m<=F e/\F e<=m):oS n (allF n W F) c<=W c:=by
 have e:oS n (allF n W F) c=sumN (fun s=>ct n W F (4*c+s)) 4:=by
  unfold oS
  exact cV (fun s hs=>cut_og hn (gI hc hs) hW ⟨hm.1,by omega⟩ hF)
 rw[e]
 have k:=Dc hc hn (hW c hc) hm hF
 rcases Int.lt_or_le (W c) (oS n F c)with q | q
 ·exact(k.2 q).1
 ·rw[k.1 q];exact q
end
def flP(n:Nat)(W H F:Nat->Int)(T:Nat)(e:Nat):Int:=(if edT n e<T then tks n W H F (edT n e)else 0) - (if mt n (edT n e)<T then tks n W H F (mt n (edT n e))else 0)
theorem flP_0(n:Nat)(W H F:Nat->Int)(e:Nat):flP n W H F 0 e=0:=by unfold flP;rw[if_neg (by omega),if_neg (by omega)];rfl
theorem flP_all{n:Nat}{W H F:Nat->Int}{e:Nat}(hn:1<=n)(he:e<12*n*n):flP n W H F (24*n*n) e=flF n W H F e:=by
 obtain⟨t1,_,_⟩:=bM hn he
 unfold flP flF
 rw[if_pos t1,if_pos (cY hn t1)]
theorem flP_step{n:Nat}{W H F:Nat->Int}{T e:Nat}(hn:1<=n)(hT:T<24*n*n)(he:e<12*n*n)(hH: ∀c,c<6*n*n->0<=H c/\H c<=9223372036854775807)(o: ∀c,c<6*n*n->oS n F c<=W c):
  flP n W H F (T+1) e=if e=eE n T/\0<tks n W H F T then tks n W H F T*eS n T else flP n W H F T e:=by
 obtain⟨t1,t2,t3⟩:=bM hn he
 have m1:=cY hn t1
 have eE1:eE n (edT n e)=e:=by unfold eE;rw[if_pos t2,t3]
 have cT:=tR (t:=T) (hH _ (bC hT)).1 (hH _ (bC hT)).2 (o _ (bC hT))
 have gz:0<tks n W H F T->og n F (mt n T)=0:=fun z=>(pY (F:=F) hn hT).resolve_left (fun h=>by have:=iQ (W:=W) (H:=H) h;omega)
 have ne:=mt_ne hn hT
 by_cases q:e=eE n T
 ·have ed:edT n e=if isL n T=true then T else mt n T:=by rw[q];exact pZ hn hT
  by_cases l:isL n T=true
  ·rw[if_pos l]at ed
   have es:eS n T=1:=by unfold eS;rw[if_pos l]
   unfold flP
   rw[ed,es,if_pos (show T<T+1 by omega),if_neg (show¬T<T by omega)]
   by_cases z:0<tks n W H F T
   ·rw[if_pos (show e=eE n T/\0<tks n W H F T from⟨q,z⟩)]
    rw[iQ (W:=W) (H:=H) (gz z)]
    simp
   ·rw[if_neg (show¬(e=eE n T/\0<tks n W H F T)from fun h=>z h.2)]
    have z0:tks n W H F T=0:=by omega
    rw[z0]
    have k:(mt n T<T+1) ↔ (mt n T<T):=by omega
    simp only[k]
  ·rw[if_neg l]at ed
   have es:eS n T= -1:=by unfold eS;rw[if_neg l]
   unfold flP
   rw[ed,es,iU hn hT,if_pos (show T<T+1 by omega),if_neg (show¬T<T by omega)]
   by_cases z:0<tks n W H F T
   ·rw[if_pos (show e=eE n T/\0<tks n W H F T from⟨q,z⟩)]
    rw[iQ (W:=W) (H:=H) (gz z)]
    simp
   ·rw[if_neg (show¬(e=eE n T/\0<tks n W H F T)from fun h=>z h.2)]
    have z0:tks n W H F T=0:=by omega
    rw[z0]
    have k:(mt n T<T+1) ↔ (mt n T<T):=by omega
    simp only[k]
 ·rw[if_neg (show¬(e=eE n T/\0<tks n W H F T)from fun h=>q h.1)]
  have n1:edT n e≠T:=fun h=>q (by rw[<- h,eE1])
  have n2:mt n (edT n e)≠T:=fun h=>q (by rw[<- h,vZ hn t1,eE1])
  unfold flP
  have k1:(edT n e<T+1) ↔ (edT n e<T):=by omega
  have k2:(mt n (edT n e)<T+1) ↔ (mt n (edT n e)<T):=by omega
  simp only[k1,k2]
end Tr
end
section
open Go.RowKit Tf Cu Go.Deep
namespace Rv
def kb(x:Nat):Nat:=placeB (canonB x)
def kB(B:Nat->Nat)(c:Nat):Nat:=kb (B c)
def dnR(n:Nat)(B:Nat->Nat)(c:Nat):Int:=dnI (kB B) (fun s=>bsC n c s) c
def shR(n:Nat)(x:Int)(c:Nat):Bool:=flt (dpB x (arC n c)) 4602678819172646912
def runR(n:Nat)(B:Nat->Nat)(W T:Nat->Int):(Nat->Int) × (Nat->Int):=rvL (dnR n B) (shR n) (W,T) (ordL (kB B) (6*n*n))
def yG(n lb lw lt ls:Nat)(W T:Nat->Int):Prop:=(lb=6*n*n/\lw=6*n*n/\lt=6*n*n/\ls=12*n*n)/\okV (6*n*n) W/\okV (6*n*n) T
def RunC:Prop:= ∀(n gb:Nat) (pb:Option Addr) (lb cb:Nat) (B:Nat->Nat) (pw:Option Addr) (lw cw:Nat) (W:Nat->Int) (pt:Option Addr) (lt ct:Nat) (T:Nat->Int) (ps:Option Addr) (ls cs:Nat) (Sp:Nat->Nat) (sky st:Int) (w:World),(1<=n/\n<=32)->GridOf n gb w->IsFl w pb lb B->Sh.IsI w pw lw W->Sh.IsI w pt lt T->IsFl w ps ls Sp->
 (yG n lb lw lt ls W T->Calls prog 25 #[.pointer (some ⟨gb,0,none⟩),.agg #[.slice pb lb cb,.slice pw lw cw,.slice pt lt ct,.slice ps ls cs,.int .i64 sky,.int .i64 st]] w fun e w'=> ∃v u,e=.returned (.tuple #[v,u,.int .i64 0])/\Below w.heap.size w w'/\Sh.Own w.heap.size v ((List.range (6*n*n)).map (runR n B W T).1) w'/\Sh.Own w.heap.size u ((List.range (6*n*n)).map (runR n B W T).2) w'/\ ∀k,v.ownBlock=some k->u.ownBlock≠some k)/\
 (¬yG n lb lw lt ls W T->Calls prog 25 #[.pointer (some ⟨gb,0,none⟩),.agg #[.slice pb lb cb,.slice pw lw cw,.slice pt lt ct,.slice ps ls cs,.int .i64 sky,.int .i64 st]] w fun e w'=>e=.returned (.tuple #[.slice none 0 0,.slice none 0 0,.int .i64 1])/\Below w.heap.size w w')
theorem bsC_lt{n c s:Nat}(hn:1<=n)(hc:c<6*n*n)(hs:s<4):bsC n c s<6*n*n:=by
 have ht:4*c+s<24*n*n:=gI hc hs
 have h:=(fT hn ht).1
 have m:=bC (cY hn ht)
 rw[h]at m
 have e1:(4*c+s)/4=c:=by omega
 have e2:(4*c+s)%4=s:=by omega
 rw[e1,e2]at m
 exact m
theorem okD_R{n:Nat}{B:Nat->Nat}(hn:1<=n):okD (6*n*n) (dnR n B):=fun c hc h=>by
 obtain⟨d,e,k,⟨s,hs,q⟩,-⟩:=dnI_yes h
 have e2:(dnR n B c).toNat=d:=by show(dnI _ _ _).toNat=d;rw[e];rfl
 rw[e2,<- q]
 refine⟨bsC_lt hn hc hs,fun h2=> ?_⟩
 rw[<- q,h2]at k
 omega
theorem runR_ok{n lb lw lt ls:Nat}{B:Nat->Nat}{W T:Nat->Int}(hn:1<=n)(g:yG n lb lw lt ls W T):(okV (6*n*n) (runR n B W T).1/\okV (6*n*n) (runR n B W T).2)/\Sh.sumN (runR n B W T).1 (6*n*n)=Sh.sumN W (6*n*n)/\Sh.sumN (runR n B W T).2 (6*n*n)=Sh.sumN T (6*n*n):=rvL_ok (okD_R hn) (fun _ h=>ordL_mem.1 h) g.2
end Rv
end
section
open Tf Cu
namespace St
open Ss Fc
def wtF(n:Nat)(lim:Int)(G dt D:Nat)(B:Nat->Nat)(W:Nat->Int)(S:Nat->Nat):Nat->Int:=flB n lim B W (spE n G dt D B W S) dt
def waF(n:Nat)(lim:Int)(G dt D:Nat)(B:Nat->Nat)(W:Nat->Int)(S:Nat->Nat):Nat->Int:=Sh.allF n W (wtF n lim G dt D B W S)
def trF(n:Nat)(lim:Int)(G dt D:Nat)(B:Nat->Nat)(W T:Nat->Int)(S:Nat->Nat):Nat->Int:=Tr.flF n W T (waF n lim G dt D B W S)
def mvW(n:Nat)(lim:Int)(G dt D:Nat)(B:Nat->Nat)(W:Nat->Int)(S:Nat->Nat):Nat->Int:=Ms.mv n W (waF n lim G dt D B W S)
def mvT(n:Nat)(lim:Int)(G dt D:Nat)(B:Nat->Nat)(W T:Nat->Int)(S:Nat->Nat):Nat->Int:=Ms.mv n T (trF n lim G dt D B W T S)
def raX(n:Nat)(lim:Int)(G dt D:Nat)(lr:Nat)(R:Nat->Int × Int × Int × Int)(B:Nat->Nat)(W:Nat->Int)(S:Nat->Nat)(sky st:Int):(Nat->Int) × Int:=Rn.rnN st R (mvW n lim G dt D B W S,sky) lr
def riX(n:Nat)(lim:Int)(G dt D:Nat)(rv:Bool)(lr:Nat)(R:Nat->Int × Int × Int × Int)(B:Nat->Nat)(W T:Nat->Int)(S:Nat->Nat)(sky st:Int):(Nat->Int) × (Nat->Int):=
 if rv=true then Rv.runR n B (raX n lim G dt D lr R B W S sky st).1 (mvT n lim G dt D B W T S)else((raX n lim G dt D lr R B W S sky st).1,mvT n lim G dt D B W T S)
def stN(st:Int):Int:=if st<4611686018427387904 then st+1 else st
def okP(n G dt D lr:Nat)(R:Nat->Int × Int × Int × Int):Prop:=(1<=n/\n<=32)/\(G<18446744073709551616/\dt<18446744073709551616/\D<18446744073709551616)/\lr<=1024/\ ∀k,k<lr->Rn.okR (6*n*n) (R k)
def okS(n:Nat)(B:Nat->Nat)(W T:Nat->Int)(S:Nat->Nat)(sky st:Int):Prop:=okN (6*n*n) B W T S sky st/\(∀c,c<6*n*n->B c<18446744073709551616)/\ ∀e,e<12*n*n->S e<18446744073709551616
theorem qC{W:Nat->Int}{n i:Nat}(h: ∀j,j<n->0<=W j)(hi:i<n):W i<=Sh.sumN W n:=by
 have m:=Sh.gC h (m:=i+1) (by omega)
 have e:Sh.sumN W (i+1)=Sh.sumN W i+W i:=rfl
 have z:=Sh.gH (f:=W) (n:=i) (fun j hj=>h j (by omega))
 omega
section
variable {n:Nat}
theorem tk_og(F:Nat->Int)(t:Nat):Ms.tk n F t<=Sh.og n F t:=by
 rw[og_tk]
 split<;>omega
theorem Fw{f g:Nat->Int}{c:Nat}(h: ∀s,s<4->f (4*c+s)<=g (4*c+s)):Sh.sumN (fun s=>f (4*c+s)) 4<=Sh.sumN (fun s=>g (4*c+s)) 4:=by
 have h0:=h 0 (by omega)
 have h1:=h 1 (by omega)
 have h2:=h 2 (by omega)
 have h3:=h 3 (by omega)
 show 0+f (4*c+0)+f (4*c+1)+f (4*c+2)+f (4*c+3)<=0+g (4*c+0)+g (4*c+1)+g (4*c+2)+g (4*c+3)
 omega
theorem mv_nn{W F:Nat->Int}{c:Nat}(h:Sh.oS n F c<=W c):0<=Ms.mv n W F c:=by
 have k:=Fw (f:=Ms.tk n F) (g:=Sh.og n F) (c:=c) (fun s _=>tk_og _ _)
 unfold Sh.oS at h
 unfold Ms.mv
 omega
theorem mvt_nn{W T F:Nat->Int}(hn:1<=n){c:Nat}(hc:c<6*n*n)(hT: ∀c,c<6*n*n->0<=T c/\T c<=9223372036854775807)(o: ∀c,c<6*n*n->Sh.oS n F c<=W c):0<=Ms.mv n T (Tr.flF n W T F) c:=by
 have k:=Fw (f:=Ms.tk n (Tr.flF n W T F)) (g:=Tr.tks n W T F) (c:=c) (fun s hs=>by
  have ht:=gI hc hs
  have h2:=cY hn ht
  have e:Ms.tk n (Tr.flF n W T F) (4*c+s)=Tr.tks n W T F (4*c+s) - Tr.tks n W T F (mt n (4*c+s)):=by
   unfold Ms.tk
   rw[Int.mul_comm]
   exact Tr.flF_side hn ht
  have z:=Tr.tR (t:=mt n (4*c+s)) (hT _ (bC h2)).1 (hT _ (bC h2)).2 (o _ (bC h2))
  rw[e]
  omega)
 have m:=(Tr.Dg (hT c hc).1 (hT c hc).2 (o c hc)).1
 rw[Tr.Df]at k
 unfold Ms.mv
 omega
end
section
variable {n G dt D lr:Nat} {lim:Int} {rv:Bool} {R:Nat->Int × Int × Int × Int} {B:Nat->Nat} {W T:Nat->Int} {S:Nat->Nat} {sky st:Int}
theorem okS_B(h:okS n B W T S sky st):okB n B W S:=by
 obtain⟨⟨-,k0,⟨w1,w2⟩,-,s1,-⟩,b,s⟩:=h
 have e2:2*(6*n*n)=12*n*n:=by rw[Nat.mul_assoc,Nat.mul_assoc];omega
 refine⟨fun c hc=>⟨b c hc,?_⟩,fun e he=>bS_cn (s e he) (s1 e (by omega))⟩
 have:=qC w1 hc
 have:=k0.1
 omega
theorem AH(hp:okP n G dt D lr R)(h:okS n B W T S sky st){e:Nat}(_he:e<12*n*n): -4503599627370496<=wtF n lim G dt D B W S e/\wtF n lim G dt D B W S e<=4503599627370496:=by
 have k:=okS_B h
 exact qn_in (pX n G dt D B W S e).1 (mZ hp.1.1 (fun i hi=>(k.1 i hi).1) (fun i hi=>(k.1 i hi).2) _ _).1 (tM _ _) hp.2.1.2.1
theorem wa_fit(hp:okP n G dt D lr R)(h:okS n B W T S sky st):Sh.fits n (6*n*n) W (12*n*n) (wtF n lim G dt D B W S):=⟨rfl,rfl,h.1.2.2.1.1,fun _ he=>AH hp h he⟩
theorem wa_in(hp:okP n G dt D lr R)(h:okS n B W T S sky st){e:Nat}(he:e<12*n*n): -4503599627370496<=waF n lim G dt D B W S e/\waF n lim G dt D B W S e<=4503599627370496:=Sh.allF_in hp.1.1 he h.1.2.2.1.1 (fun _ he=>AH hp h he)
theorem wa_oS(hp:okP n G dt D lr R)(h:okS n B W T S sky st){c:Nat}(hc:c<6*n*n):Sh.oS n (waF n lim G dt D B W S) c<=W c:=Tr.cut_oS hp.1.1 hc h.1.2.2.1.1 (m:=4503599627370496) ⟨by omega,by omega⟩ (fun _ he=>AH hp h he)
theorem okT(h:okS n B W T S sky st){c:Nat}(hc:c<6*n*n):0<=T c/\T c<=9223372036854775807:=by
 have:=h.1.2.2.2.1.b hc
 omega
theorem tr_fit(hp:okP n G dt D lr R)(h:okS n B W T S sky st):Tr.De n (6*n*n) W (6*n*n) T (12*n*n) (waF n lim G dt D B W S):=⟨rfl,rfl,rfl,h.1.2.2.1.1,h.1.2.2.2.1.1,fun _ he=>wa_in hp h he,fun _ hc=>wa_oS hp h hc⟩
theorem tr_in(hp:okP n G dt D lr R)(h:okS n B W T S sky st){e:Nat}(he:e<12*n*n): -9223372036854775807<=trF n lim G dt D B W T S e/\trF n lim G dt D B W T S e<=9223372036854775807:=Tr.flF_in hp.1.1 he (fun _ hc=>okT h hc) (fun _ hc=>wa_oS hp h hc)
theorem Dh(hp:okP n G dt D lr R)(h:okS n B W T S sky st):(∀c,c<6*n*n->0<=mvW n lim G dt D B W S c/\mvW n lim G dt D B W S c<=4503599627370496)/\Sh.sumN (mvW n lim G dt D B W S) (6*n*n)=Sh.sumN W (6*n*n):=by
 have k:Sh.sumN (mvW n lim G dt D B W S) (6*n*n)=Sh.sumN W (6*n*n):=Ms.kept W _ hp.1.1
 have nn: ∀c,c<6*n*n->0<=mvW n lim G dt D B W S c:=fun c hc=>mv_nn (wa_oS hp h hc)
 refine⟨fun c hc=>⟨nn c hc,?_⟩,k⟩
 have:=qC nn hc
 have:=h.1.2.2.1.2
 have:=h.1.2.1
 omega
theorem Di(hp:okP n G dt D lr R)(h:okS n B W T S sky st):Rv.okV (6*n*n) (mvT n lim G dt D B W T S)/\Sh.sumN (mvT n lim G dt D B W T S) (6*n*n)=Sh.sumN T (6*n*n):=by
 have k:Sh.sumN (mvT n lim G dt D B W T S) (6*n*n)=Sh.sumN T (6*n*n):=Ms.kept T _ hp.1.1
 exact⟨⟨fun c hc=>mvt_nn hp.1.1 hc (fun _ hc=>okT h hc) (fun _ hc=>wa_oS hp h hc),by rw[k];exact h.1.2.2.2.1.2⟩,k⟩
theorem ra_good(hp:okP n G dt D lr R)(h:okS n B W T S sky st):Rn.tH (6*n*n) (mvW n lim G dt D B W S) sky lr R st:=⟨h.1.2.2.2.2.2.1,h.1.2.1,hp.2.2.1,(Dh hp h).1,hp.2.2.2⟩
theorem ra_ok(hp:okP n G dt D lr R)(h:okS n B W T S sky st):Rv.okV (6*n*n) (raX n lim G dt D lr R B W S sky st).1/\0<=(raX n lim G dt D lr R B W S sky st).2/\Sh.sumN (raX n lim G dt D lr R B W S sky st).1 (6*n*n)+(raX n lim G dt D lr R B W S sky st).2=Sh.sumN W (6*n*n)+sky:=by
 have m:=Dh (lim:=lim) hp h
 have nn:=Rn.xR (n:=6*n*n) (st:=st) (R:=R) (X:=(mvW n lim G dt D B W S,sky)) ⟨fun c hc=>(m.1 c hc).1,h.1.2.1.1⟩ (k:=lr) hp.2.2.2
 have k:=Rn.Ak (n:=6*n*n) (st:=st) (R:=R) (X:=(mvW n lim G dt D B W S,sky)) (k:=lr) hp.2.2.2
 have e:Sh.sumN (raX n lim G dt D lr R B W S sky st).1 (6*n*n)+(raX n lim G dt D lr R B W S sky st).2=Sh.sumN W (6*n*n)+sky:=by
  refine k.trans ?_
  dsimp only
  rw[m.2]
 refine⟨⟨nn.1,?_⟩,nn.2,e⟩
 have:=nn.2
 have:=h.1.2.2.1.2
 have z:(raX n lim G dt D lr R B W S sky st).2=(Rn.rnN st R (mvW n lim G dt D B W S,sky) lr).2:=rfl
 omega
theorem Fx(hp:okP n G dt D lr R)(h:okS n B W T S sky st):Rv.yG n (6*n*n) (6*n*n) (6*n*n) (12*n*n) (raX n lim G dt D lr R B W S sky st).1 (mvT n lim G dt D B W T S):=⟨⟨rfl,rfl,rfl,rfl⟩,(ra_ok hp h).1,(Di hp h).1⟩
theorem ri_ok(hp:okP n G dt D lr R)(h:okS n B W T S sky st):(Rv.okV (6*n*n) (riX n lim G dt D rv lr R B W T S sky st).1/\Rv.okV (6*n*n) (riX n lim G dt D rv lr R B W T S sky st).2)/\Sh.sumN (riX n lim G dt D rv lr R B W T S sky st).1 (6*n*n)+(raX n lim G dt D lr R B W S sky st).2=Sh.sumN W (6*n*n)+sky/\Sh.sumN (riX n lim G dt D rv lr R B W T S sky st).2 (6*n*n)=Sh.sumN T (6*n*n):=by
 have g:=Fx (lim:=lim) hp h
 have m:=Di (lim:=lim) hp h
 have a:=ra_ok (lim:=lim) hp h
 unfold riX
 cases rv with
 | false=>
  rw[if_neg (by decide)]
  exact⟨⟨a.1,m.1⟩,a.2.2,m.2⟩
 | true=>
  rw[if_pos rfl]
  have k:=Rv.runR_ok (B:=B) hp.1.1 g
  refine⟨k.1,?_,?_⟩
  ·rw[k.2.1];exact a.2.2
  ·rw[k.2.2];exact m.2
theorem Dk(hp:okP n G dt D lr R)(h:okS n B W T S sky st):okS n B (riX n lim G dt D rv lr R B W T S sky st).1 (riX n lim G dt D rv lr R B W T S sky st).2 (spE n G dt D B W S) (raX n lim G dt D lr R B W S sky st).2 (stN st):=by
 have k:=ri_ok (lim:=lim) (rv:=rv) hp h
 have a:=ra_ok (lim:=lim) hp h
 have w:=h.1.2.2.1.2
 have s:=Sh.gH k.1.1.1
 refine⟨⟨h.1.1,⟨a.2.1,by omega⟩,⟨k.1.1.1,by omega⟩,k.1.2,fun e _=> ?_,?_⟩,h.2.1,fun e _=>(pX n G dt D B W S e).1⟩
 ·have q:=pX n G dt D B W S e
  rw[bS_iff q.1]
  exact⟨q.2.2.1,q.2.2.2,(spE_cn e).2.2⟩
 ·have:=h.1.2.2.2.2.2
  unfold stN
  split<;>omega
end
end St
end
section
open Go.RowKit Go.Deep
namespace Sh
theorem AI{ops:Array Oper}{rest:List Oper}{o:Oper}{a:Act}{w:World}{Q:Exit->Act->World->Prop}(hgd:o.guard=none)(s x:Operand)
  (ho:o.op=.call {callee:=.builtin .append,args:= #[s,x],argTypes:= #[27,27]})
  (g:Nat) (hs:a.eval s=.slice (some ⟨g,0,none⟩) 0 0) (src:Value) (hx:a.eval x=src) (hsrc:Src prog 1 27 src 0 [] w)
  (h:wpList prog ops Q rest (a.put o.dst (.slice (some ⟨g,0,none⟩) 0 0)) w):wpList prog ops Q (o :: rest) a w:=by
 obtain⟨i0,hi,hz0,hz1,hz2⟩:=yD
 refine wpList_plain hgd fun _ hK=> ?_
 have hr:=run_append_room_src (P:=prog) w 27 27 o.type 2 i0 underlying27 hi g 0 0 0 src 0 [] (by rw[hz1];exact hsrc) (Nat.le_refl _) (fun j hj=>absurd hj (Nat.not_lt_zero j)) (fun j hj=>absurd hj (Nat.not_lt_zero j))
 unfold Oper.wp execOp
 simp only[ho,resolve,invoke,builtin,Sem.run_bind,Sem.run_pure,Result.andThen_ok,List.map_toArray,List.map_cons,List.map_nil,hs,hx,hr]
 exact hK _ _ h
theorem news_in{w:World}{b o N:Nat}{D:Nat->Int}(h:IsI w (some ⟨b,o,none⟩) N D): ∀j u,(((List.range N).map D).map (Value.int .i64))[j]? =some u->w.cell? ((⟨b,o,none⟩:Addr).add j)=some u:=fun j u hu=>by
 have hj:j<N:=by
  rcases Nat.lt_or_ge j N with h1 | h1
  ·exact h1
  ·rw[List.getElem?_eq_none (by simpa using h1)]at hu;cases hu
 simp[hj]at hu
 rw[mD,<- hu]
 exact(h.at0 hj).2.2
end Sh
end
section
open Go.RowKit Go.Deep
namespace Rn
open Sh
def W4(r:Int × Int × Int × Int):Prop:=Sh.W64 r.1/\Sh.W64 r.2.1/\Sh.W64 r.2.2.1/\Sh.W64 r.2.2.2
def IsRn(w:World)(p:Option Addr)(n:Nat)(R:Nat->Int × Int × Int × Int):Prop:=
 ∀k,k<n->W4 (R k)/\ ∃b o,p=some ⟨b,o,none⟩/\b<w.heap.size/\w.cell? ⟨b,o+k*4,none⟩=some (.int .i64 (R k).1)/\w.cell? ⟨b,o+k*4+1,none⟩=some (.int .i64 (R k).2.1)/\w.cell? ⟨b,o+k*4+2,none⟩=some (.int .i64 (R k).2.2.1)/\w.cell? ⟨b,o+k*4+3,none⟩=some (.int .i64 (R k).2.2.2)
theorem IsRn.below{w w':World}{p:Option Addr}{n:Nat}{R:Nat->Int × Int × Int × Int}(h:IsRn w p n R)(hb:Below w.heap.size w w'):IsRn w' p n R:=fun k hk=>by
 obtain⟨h1,b,o,e,l,c0,c1,c2,c3⟩:=h k hk
 exact⟨h1,b,o,e,Nat.lt_of_lt_of_le l hb.size,(hb.cell (p:=⟨b,_,none⟩) l).trans c0,(hb.cell (p:=⟨b,_,none⟩) l).trans c1,(hb.cell (p:=⟨b,_,none⟩) l).trans c2,(hb.cell (p:=⟨b,_,none⟩) l).trans c3⟩
theorem IsRn.nil(w:World)(p:Option Addr)(R:Nat->Int × Int × Int × Int):IsRn w p 0 R:=fun k hk=>absurd hk (Nat.not_lt_zero k)
theorem IsRn.some0{w:World}{p:Option Addr}{n:Nat}{R:Nat->Int × Int × Int × Int}(h:IsRn w p n R)(h0:0<n): ∃b o,p=some ⟨b,o,none⟩:=by
 obtain⟨_,b,o,e,_⟩:=h 0 h0
 exact⟨b,o,e⟩
theorem IsRn.at0{w:World}{b o n:Nat}{R:Nat->Int × Int × Int × Int}(h:IsRn w (some ⟨b,o,none⟩) n R){k:Nat}(hk:k<n):W4 (R k)/\b<w.heap.size/\w.cell? ⟨b,o+k*4,none⟩=some (.int .i64 (R k).1)/\w.cell? ⟨b,o+k*4+1,none⟩=some (.int .i64 (R k).2.1)/\w.cell? ⟨b,o+k*4+2,none⟩=some (.int .i64 (R k).2.2.1)/\w.cell? ⟨b,o+k*4+3,none⟩=some (.int .i64 (R k).2.2.2):=by
 obtain⟨h1,b',o',e,l,h2⟩:=h k hk
 cases e
 exact⟨h1,l,h2⟩
def vB(n:Int)(r:Int × Int × Int × Int):Bool:=decide (0<=r.1)&&decide (r.1<n)&&decide (-4503599627370496<=r.2.1)&&decide (r.2.1<=4503599627370496)&&decide (0<=r.2.2.1)&&decide (r.2.2.1<=r.2.2.2)
theorem Dl{n:Nat}{r:Int × Int × Int × Int}:vB (n:Int) r=true ↔ okR n r:=by
 unfold vB okR
 simp only[Bool.and_eq_true,decide_eq_true_eq]
 constructor
 ·rintro⟨⟨⟨⟨⟨a,b⟩,c⟩,d⟩,e⟩,f⟩
  exact⟨a,b,c,d,e,f⟩
 ·rintro⟨a,b,c,d,e,f⟩
  exact⟨⟨⟨⟨⟨a,b⟩,c⟩,d⟩,e⟩,f⟩
def FallC:Prop:= ∀(pw:Option Addr) (lw cw:Nat) (W:Nat->Int) (s:Int) (pr:Option Addr) (lr cr:Nat) (R:Nat->Int × Int × Int × Int) (st:Int) (w:World),Sh.W64 s->Sh.W64 st->lw<=17592186044416->lr<=17592186044416->IsI w pw lw W->IsRn w pr lr R->
 (tH lw W s lr R st->Calls prog 24 #[.slice pw lw cw,.int .i64 s,.slice pr lr cr,.int .i64 st] w fun e w'=> ∃v,e=.returned (.tuple #[v,.int .i64 (rnN st R (W,s) lr).2,.int .i64 0])/\Below w.heap.size w w'/\Own w.heap.size v ((List.range lw).map (rnN st R (W,s) lr).1) w')/\
 (¬tH lw W s lr R st->Calls prog 24 #[.slice pw lw cw,.int .i64 s,.slice pr lr cr,.int .i64 st] w fun e w'=>e=.returned (.tuple #[.slice none 0 0,.int .i64 0,.int .i64 1])/\Below w.heap.size w w')
end Rn
end
section
open Go.RowKit Tf Cu Go.Deep
namespace Ss
def Dj(v u:Value):Prop:= ∀k,v.ownBlock=some k->u.ownBlock≠some k
def OwnS(M:Nat)(v:Value)(nb nw nt ns:Nat)(B:Nat->Nat)(W T:Nat->Int)(S:Nat->Nat)(sky st:Int)(w:World):Prop:=
 ∃v1 v2 v3 v4,v=.agg #[v1,v2,v3,v4,.int .i64 sky,.int .i64 st]/\OwnG M v1 ((List.range nb).map B) w/\Sh.Own M v2 ((List.range nw).map W) w/\Sh.Own M v3 ((List.range nt).map T) w/\OwnG M v4 ((List.range ns).map S) w/\Dj v1 v4/\Dj v2 v3
def eqS(lb lw lt ls:Nat)(B:Nat->Nat)(W T:Nat->Int)(S:Nat->Nat)(sky st:Int)(lb' lw' lt' ls':Nat)(B':Nat->Nat)(W' T':Nat->Int)(S':Nat->Nat)(sky' st':Int):Bool:=
 eqL lb lb' B B'&&eqL lw lw' W W'&&eqL lt lt' T T'&&eqL ls ls' S S'&&decide (sky=sky')&&decide (st=st')
def LakeC:Prop:= ∀(side:Int) (pb:Option Addr) (lb cb:Nat) (B:Nat->Nat) (l:Nat) (w:World),Fr w->Sh.W64 side->lb<=131072->l<18446744073709551616->IsFl w pb lb B->
 (lkE side lb B l=0->Calls prog 29 #[.int .i64 side,.slice pb lb cb,.float .f64 l] w fun e w'=> ∃v,e=.returned (.tuple #[v,.int .i64 0])/\Below w.heap.size w w'/\OwnS w.heap.size v lb lb lb (2*lb) B (lkW side.toNat B l) (fun _=>0) (fun _=>0) 0 0 w')/\
 (lkE side lb B l≠0->Calls prog 29 #[.int .i64 side,.slice pb lb cb,.float .f64 l] w fun e w'=>e=.returned (.tuple #[.agg #[.slice none 0 0,.slice none 0 0,.slice none 0 0,.slice none 0 0,.int .i64 0,.int .i64 0],.int .i64 (lkE side lb B l)])/\Below w.heap.size w w')
theorem eP{α:Type} [DecidableEq α]{n:Nat}{f g:Nat->α}(h: ∀i,i<n->f i=g i):eqL n n f g=true:=decide_eq_true ⟨rfl,h⟩
theorem Fy{α:Type} [DecidableEq α]{n m:Nat}{f g:Nat->α}(h:n≠m):eqL n m f g=false:=decide_eq_false (fun q=>h q.1)
theorem eqL_no{α:Type} [DecidableEq α]{n m:Nat}{f g:Nat->α}{k:Nat}(hk:k<n)(h:f k≠g k):eqL n m f g=false:=decide_eq_false (fun q=>h (q.2 k hk))
end Ss
end
section
open Go.RowKit Tf Cu Go.Deep
attribute [local go_sem] aJ aK aP aQ aR aV aX aF
namespace Ss
theorem Hh(x:Nat)(w:World):
  Calls prog 91 #[.float .f64 x] w fun e w'=>e=.returned (.int .u64 ((x:Nat):Int))/\w'=w:=by
 go_enter func91,ntmps91
 go_wp2
 go_ret
 exact⟨rfl,rfl⟩
theorem rall20(pa pb:Option Addr)(n ca m cb:Nat)(xs ys:Nat->Nat)(w:World)(hn:n<=131072)(hm:m<=131072)(hA:IsFl w pa n xs)(hB:IsFl w pb m ys):
  Calls prog 16 #[.slice pa n ca,.slice pb m cb] w fun e w'=>e=.returned (.bool (eqL n m xs ys))/\Below w.heap.size w w':=by
 have HA:=hid hA
 have HB:=hid hB
 have HL:=hid (And.intro hn hm)
 clear hA hB hn hm
 by_cases hnm:n=m
 ·subst hnm
  have e1:((n:Int) != (n:Int))=false:=by simp
  go_enter func16,ntmps16
  go_wp2
  go_loopw [5] (fun iv wr=> ∃k:Nat,k<=n/\iv=.int .i64 (k:Nat)/\Ab w wr/\ ∀i,i<k->xs i=ys i) (fun iv _=>n - (intOf iv).toNat)
  case atStart=>exact⟨0,by omega,rfl,Ab.refl w,fun i hi=>absurd hi (Nat.not_lt_zero i)⟩
  case round=>
   obtain⟨k,hk,rfl,ar,g1⟩:=hrel
   have AR:=hid ar
   have G1:=hid g1
   clear ar g1
   by_cases hkn:k<n
   ·have HK:=hid hkn
    have kI:(k:Int)<n:=by omega
    have kB:(k:Int)<=131072:=by have:=HL.out;omega
    obtain⟨x,hx⟩:=aB (xs k)
    obtain⟨y,hy⟩:=aB (ys k)
    obtain⟨b1,o1,rfl⟩:=HA.out.some0 (show 0<n by omega)
    obtain⟨b2,o2,rfl⟩:=HB.out.some0 (show 0<n by omega)
    have X1:Hid (∀v,Ab wr v->v.cell? ⟨b1,o1+k,none⟩=some (.float .f64 x)):=fun v a=>by rw[<- hx];exact((HA.out.below (AR.out.trans a)).at0 hkn).2.2
    have X2:Hid (∀v,Ab wr v->v.cell? ⟨b2,o2+k,none⟩=some (.float .f64 y)):=fun v a=>by rw[<- hy];exact((HB.out.below (AR.out.trans a)).at0 hkn).2.2
    clear hkn hk
    by_cases q:x=y
    ·have SS:Hid (∀v,Calls prog 40 #[.float .f64 x,.float .f64 y] v fun e w'=>e=.returned (.bool true)/\Below v.heap.size v w'):=fun v=>by
      have h:=kZ x y v
      rw[show sameB x y=true by unfold sameB;exact decide_eq_true q]at h
      exact h.mono fun _ _ ⟨he,hw⟩=>⟨he,by rw[hw];exact Below.refl _ _⟩
     have XE:Hid (xs k=ys k):=by show _=_;rw[hx,hy,q]
     clear hx hy q
     go_upto_region 6 with fail
     obtain⟨UU,E,hF1,hF2⟩:=cls wr
     have HU:=hid hF2
     have HU1:=hid hF1
     have y1: ∀u,(E u).cell? ⟨b1,o1+k,none⟩=some (.float .f64 x):=fun u=>X1.out _ (hF1 u)
     have y2: ∀u,(E u).cell? ⟨b2,o2+k,none⟩=some (.float .f64 y):=fun u=>X2.out _ (hF1 u)
     have DD0:=HU.out _ (Ab.refl wr).drew
     clear hF1 hF2
     refine aO E (by kernel_rfl) (by kernel_rfl) DD0 ?_
     repeat(go_big_quiet_step (first | (with_reducible rfl) | (go_at_call 40;exact aH HU HU1 (SS.out _))))
     refine wpQuiet_nil ?_
     intro z hwz
     obtain⟨u0,hu⟩:=hwz
     have A2:Hid (Ab wr z):=by rw[hu];exact HU1.out u0
     clear hu u0
     clear HU HU1 DD0 y1 y2
     clear E UU
     go_wp2
     refine⟨⟨k+1,by have:=HK.out;omega,by simp,AR.out.trans A2.out,fun i hi=> ?_⟩,by have:=HK.out;simp[intOf];omega⟩
     by_cases l:i<k
     ·exact G1.out i l
     ·obtain rfl:i=k:=by omega
      exact XE.out
    ·have SS:Hid (∀v,Calls prog 40 #[.float .f64 x,.float .f64 y] v fun e w'=>e=.returned (.bool false)/\Below v.heap.size v w'):=fun v=>by
      have h:=kZ x y v
      rw[show sameB x y=false by unfold sameB;exact decide_eq_false q]at h
      exact h.mono fun _ _ ⟨he,hw⟩=>⟨he,by rw[hw];exact Below.refl _ _⟩
     have NE:Hid (eqL n n xs ys=false):=eqL_no HK.out (by rw[hx,hy];exact q)
     clear hx hy q
     go_upto_region 6 with fail
     obtain⟨UU,E,hF1,hF2⟩:=cls wr
     have HU:=hid hF2
     have HU1:=hid hF1
     have y1: ∀u,(E u).cell? ⟨b1,o1+k,none⟩=some (.float .f64 x):=fun u=>X1.out _ (hF1 u)
     have y2: ∀u,(E u).cell? ⟨b2,o2+k,none⟩=some (.float .f64 y):=fun u=>X2.out _ (hF1 u)
     have DD0:=HU.out _ (Ab.refl wr).drew
     clear hF1 hF2
     refine aO E (by kernel_rfl) (by kernel_rfl) DD0 ?_
     repeat(go_big_quiet_step (first | (with_reducible rfl) | (go_at_call 40;exact aH HU HU1 (SS.out _))))
     refine wpQuiet_nil ?_
     intro z hwz
     obtain⟨u0,hu⟩:=hwz
     have A2:Hid (Ab wr z):=by rw[hu];exact HU1.out u0
     clear hu u0
     clear HU HU1 DD0 y1 y2
     clear E UU
     go_wp2
     go_ret
     exact⟨by rw[NE.out];rfl,AR.out.trans A2.out⟩
   ·have e6:n=k:=by omega
    subst e6
    have E:Hid (eqL n n xs ys=true):=eP G1.out
    go_wp2
    go_ret
    exact⟨by rw[E.out];rfl,AR.out⟩
 ·have e1:((n:Int) != (m:Int))=true:=by simp;omega
  have E:Hid (eqL n m xs ys=false):=Fy hnm
  clear hnm
  go_enter func16,ntmps16
  go_wp2
  go_ret
  exact⟨by rw[E.out];rfl,Below.refl _ _⟩
end Ss
end
section
open Go.RowKit Go.Deep
namespace Rn
open Sh
theorem yH{ops:Array Oper}{rest:List Oper}{o:Oper}{a:Act}{w:World}{Q:Exit->Act->World->Prop}(hgd:o.guard=none)(s x:Operand)
  (ho:o.op=.call {callee:=.builtin .append,args:= #[s,x],argTypes:= #[27,27]})
  (B:Nat) (v:Value) (l:List Int) (hs:a.eval s=v) (hown:Own B v l w)
  (ad:Addr) (m c:Nat) (news:List Int) (hx:a.eval x=.slice (some ad) m c) (hl:news.length=m) (hnews: ∀j u,(news.map (Value.int .i64))[j]? =some u->w.cell? (ad.add j)=some u)
  (hm:0<m) (hlen:l.length+m<=17592186044416) (hB:B<=w.heap.size) (nm:Nat) (hnm:l.length+m=nm)
  (h: ∀g cap w',Own B (.slice (some ⟨g,0,none⟩) nm cap) (l++news) w'->w.grownBy w' v.ownBlock->(v.ownBlock=some g\/g=w.heap.size)->B<=g->wpList prog ops Q rest (a.put o.dst (.slice (some ⟨g,0,none⟩) nm cap)) w'):wpList prog ops Q (o :: rest) a w:=by
 subst hnm
 obtain⟨i0,hi,hz0,hz1,hz2⟩:=Sh.yD
 refine wpList_append_lies w hgd s x _ ho B 2 i0 (.int .i64 0) 1 8 underlying27 hi hz0 hz1 hz2 rfl (by decide) v l.length (l.map (Value.int .i64)) hs hown ad m c (news.map (Value.int .i64)) hx (by simpa using hl) hnews (fun u hu=>by
  obtain⟨y,_,rfl⟩:=List.mem_map.1 hu
  rfl) hm (by unfold maxLen;omega) (by omega) hB _ rfl ?_
 intro g cap w' o1 g1 e1 _
 have hb:B<=g:=by
  rcases o1.2 with⟨q,_⟩ | ⟨g2,_,_,q,hb,_⟩
  ·cases q
  ·injection q with q1 q2 q3
   injection q1 with q4
   injection q4 with q5
   omega
 refine h g cap w' ?_ g1 e1 hb
 unfold Own
 rw[List.length_append,List.map_append,hl]
 exact o1
theorem Hi{B:Nat}{v:Value}{l:List Int}{w:World}(h:Own B v l w)(h0:0<l.length): ∃g cap F,v=.slice (some ⟨g,0,none⟩) l.length cap/\B<=g/\l.length<=cap/\cap<=maxLen/\w.rowIs g 2 cap F/\ ∀i,i<l.length->F i=.int .i64 (l.getD i 0):=by
 rcases h.2 with⟨rfl,hz⟩ | ⟨g,cap,cur,e,hb,hg,h1,h2,h3,h4⟩
 ·omega
 ·refine⟨g,cap,fun i=>(cur[i]?).getD (.bool false),e,hb,h1,h2,⟨cur,hg,by omega,fun i hi=> ?_⟩,fun i hi=> ?_⟩
  ·have:i<cur.size:=by omega
   simp[this]
  ·have q:(cur.toList.take l.length)[i]? =(l.map (Value.int .i64))[i]? :=by
    have h4':cur.toList.take l.length=l.map (Value.int .i64):=by simpa using h4
    rw[h4']
   rw[List.getElem?_take,if_pos hi,Array.getElem?_toList]at q
   dsimp only
   rw[q]
   simp[hi,List.getD]
theorem Hj{B n:Nat}{v:Value}{x:Nat->Int}{w:World}(h:Own B v ((List.range n).map x) w)(h0:0<n): ∃g cap F,v=.slice (some ⟨g,0,none⟩) n cap/\B<=g/\n<=cap/\cap<=maxLen/\w.rowIs g 2 cap F/\ ∀i,i<n->F i=.int .i64 (x i):=by
 have e:((List.range n).map x).length=n:=by simp
 obtain⟨g,cap,F,h1,h2,h3,h4,h5,h6⟩:=Hi h (by rw[e];exact h0)
 rw[e]at h1 h3 h6
 exact⟨g,cap,F,h1,h2,h3,h4,h5,fun i hi=>by rw[h6 i hi];simp[List.getD,hi]⟩
theorem Hk{B g cap n:Nat}{F:Nat->Value}{x:Nat->Int}{w:World}(h:w.rowIs g 2 cap F)(hB:B<=g)(hn:n<=cap)(hc:cap<=maxLen)(hF: ∀i,i<n->F i=.int .i64 (x i)):Own B (.slice (some ⟨g,0,none⟩) n cap) ((List.range n).map x) w:=by
 obtain⟨c,hb,hs,hf⟩:=h
 refine⟨by simp,.inr ⟨g,cap,c,by simp,hB,hb,by simpa using hn,hc,by omega,?_⟩⟩
 apply List.ext_getElem?
 intro i
 rw[List.getElem?_take,List.length_map,List.length_range]
 by_cases hi:i<n
 ·have e:=hf i (by omega)
  rw[hF i hi]at e
  rw[if_pos (by omega)]
  rw[<- Array.getElem?_toList]at e
  rw[e]
  simp[hi]
 ·rw[if_neg (by omega),List.getElem?_eq_none (by simp;omega)]
theorem rn_skip{st:Int}{R:Nat->Int × Int × Int × Int}{X:(Nat->Int) × Int}{c:Nat}{r1 r2 r3 r4:Int}(hr:R c=(r1,r2,r3,r4))(h:st<r3\/r4<=st):rnN st R X (c+1)=rnN st R X c:=by
 show rn1 st (R c) (rnN st R X c)=_
 refine rn1_no ?_
 rw[hr]
 unfold fallB
 rcases h with h | h
 ·rw[decide_eq_false (show¬r3<=st by omega)]
  rfl
 ·rw[decide_eq_false (show¬st<r4 by omega),Bool.and_false]
theorem rn_fall{st:Int}{R:Nat->Int × Int × Int × Int}{X:(Nat->Int) × Int}{c k:Nat}{r2 r3 r4 sk x:Int}(hr:R c=((k:Int),r2,r3,r4))(h1: ¬st<r3)(h2: ¬r4<=st)(hs:(rnN st R X c).2=sk)(hx:(rnN st R X c).1 k=x):
  (rnN st R X (c+1)).2=sk - dn r2 sk x/\ ∀i,(rnN st R X (c+1)).1 i=if i=k then x+dn r2 sk x else(rnN st R X c).1 i:=by
 have f:fallB st (R c)=true:=by
  rw[hr]
  unfold fallB
  rw[decide_eq_true (show r3<=st by omega),decide_eq_true (show st<r4 by omega)]
  rfl
 have e:rnN st R X (c+1)=(fun i=>if i=k then(rnN st R X c).1 i+dn r2 sk x else(rnN st R X c).1 i,sk - dn r2 sk x):=by
  show rn1 st (R c) (rnN st R X c)=_
  unfold rn1
  rw[if_pos f,hr]
  simp only[Int.toNat_natCast,hs,hx]
 rw[e]
 refine⟨rfl,fun i=> ?_⟩
 dsimp only
 by_cases q:i=k
 ·rw[if_pos q,if_pos q,q,hx]
 ·rw[if_neg q,if_neg q]
end Rn
end
section
open Go.RowKit Tf
attribute [local go_sem] aJ aK aP aQ aR aV aX
theorem qD{P:Program}(w:World)(ts:Array TypeId)(t:TypeId){a b:Nat}(ha:a<=9218868437227405312)(hb:b<=9218868437227405312):
  (Builtin.min_ ts t #[.float .f64 a,.float .f64 b]).run P w=.ok (.float .f64 (min a b)) w:=by
 have h:FloatKind.f64.format.order a b=_:=Ar ha hb
 by_cases c:a<b
 ·rw[if_pos c]at h
  simp[Builtin.min_,Builtin.min2,h]
  omega
 ·rw[if_neg c]at h
  by_cases d:b<a
  ·rw[if_pos d]at h
   simp[Builtin.min_,Builtin.min2,h]
   omega
  ·rw[if_neg d]at h
   have e:a=b:=by omega
   subst e
   simp[Builtin.min_,Builtin.min2,h]
theorem Hl{P:Program}(w:World)(ts:Array TypeId)(t:TypeId){a b:Nat}(ha:a<=9218868437227405312)(hb:b<=9218868437227405312):
  (Builtin.max_ ts t #[.float .f64 a,.float .f64 b]).run P w=.ok (.float .f64 (max a b)) w:=by
 have h:FloatKind.f64.format.order a b=_:=Ar ha hb
 by_cases c:a<b
 ·rw[if_pos c]at h
  simp[Builtin.max_,Builtin.max2,h]
  omega
 ·rw[if_neg c]at h
  by_cases d:b<a
  ·rw[if_pos d]at h
   simp[Builtin.max_,Builtin.max2,h]
   omega
  ·rw[if_neg d]at h
   have e:a=b:=by omega
   subst e
   simp[Builtin.max_,Builtin.max2,h]
theorem plain_at(a b:Nat)(w:World):Calls prog 188 #[.float .f64 a,.float .f64 b] w fun e w'=>e=.returned (.float .f64 0)/\w'=w:=by
 go_enter func188,ntmps188
 go_wp2
 go_ret
 exact⟨rfl,rfl⟩
theorem Hm(a b:Nat)(w:World)(ha:a<=9218868437227405312)(hb:b<=9218868437227405312):Calls prog 189 #[.float .f64 a,.float .f64 b] w fun e w'=>e=.returned (.float .f64 (min a b))/\w'=w:=by
 have h: ∀ts t,(Builtin.min_ ts t #[.float .f64 a,.float .f64 b]).run prog w=.ok (.float .f64 (min a b)) w:=fun ts t=>qD w ts t ha hb
 generalize e:min a b=m at h ⊢
 clear e ha hb
 go_enter func189,ntmps189
 go_wp2
 go_ret
 exact⟨rfl,rfl⟩
theorem AJ(a b:Nat)(w:World)(ha:ps a=true)(hb:ps b=true):Calls prog 190 #[.float .f64 a,.float .f64 b] w fun e w'=>e=.returned (.float .f64 (sbee a b))/\w'=w:=by
 obtain⟨a0,a1⟩:=cH.1 ha
 obtain⟨b0,b1⟩:=cH.1 hb
 have fa:=(iO a1).1
 have fb:=(iO b1).1
 have h1: ∀t,(binOp .mul t (.float .f64 4611686018427387904) (.float .f64 a)).run prog w=.ok (.float .f64 (mlB 4611686018427387904 a)) w:=fun t=>run_float_arith w .mul t .f64 _ _ _ (xW (by decide) a1 (by decide) a0)
 have h2: ∀t,(binOp .mul t (.float .f64 4611686018427387904) (.float .f64 b)).run prog w=.ok (.float .f64 (mlB 4611686018427387904 b)) w:=fun t=>run_float_arith w .mul t .f64 _ _ _ (xW (by decide) b1 (by decide) b0)
 have h3: ∀ts t,(Builtin.min_ ts t #[.float .f64 (mlB 4611686018427387904 a),.float .f64 b]).run prog w=.ok (.float .f64 (min (mlB 4611686018427387904 a) b)) w:=fun ts t=>qD w ts t fa b1
 have h4: ∀ts t,(Builtin.min_ ts t #[.float .f64 a,.float .f64 (mlB 4611686018427387904 b)]).run prog w=.ok (.float .f64 (min a (mlB 4611686018427387904 b))) w:=fun ts t=>qD w ts t a1 fb
 have h5: ∀ts t,(Builtin.max_ ts t #[.float .f64 (min (mlB 4611686018427387904 a) b),.float .f64 (min a (mlB 4611686018427387904 b))]).run prog w=.ok (.float .f64 (sbee a b)) w:=fun ts t=>Hl w ts t (by omega) (by omega)
 generalize mlB 4611686018427387904 a=p at*
 generalize mlB 4611686018427387904 b=q at*
 generalize min p b=u at*
 generalize min a q=v at*
 generalize sbee a b=s at*
 clear a0 a1 b0 b1 fa fb ha hb
 go_enter func190,ntmps190
 go_wp2
 go_ret
 exact⟨rfl,rfl⟩
theorem leer_at(a b:Nat)(w:World)(ha:ps a=true)(hb:ps b=true):Calls prog 191 #[.float .f64 a,.float .f64 b] w fun e w'=> ∃r,e=.returned (.float .f64 r)/\(∃n,w'=w.drewN n)/\IsC r (lr a b):=by
 obtain⟨a0,a1⟩:=cH.1 ha
 obtain⟨b0,b1⟩:=cH.1 hb
 have fa:=iO a1
 have L:=leer_nn a1 b1 a0 b0
 have h1: ∀t,(binOp .mul t (.float .f64 4611686018427387904) (.float .f64 a)).run prog w=.ok (.float .f64 (mlB 4611686018427387904 a)) w:=fun t=>run_float_arith w .mul t .f64 _ _ _ (xW (by decide) a1 (by decide) a0)
 have h2: ∀t,(binOp .mul t (.float .f64 (mlB 4611686018427387904 a)) (.float .f64 b)).run prog w=.ok (.float .f64 (mlB (mlB 4611686018427387904 a) b)) w:=fun t=>run_float_arith w .mul t .f64 _ _ _ (xW fa.1 b1 (by omega) b0)
 have h3: ∀t,(binOp .add t (.float .f64 a) (.float .f64 b)).run prog w=.ok (.float .f64 (plB a b)) w:=fun t=>run_float_arith w .add t .f64 _ _ _ (add_pp a1 b1)
 obtain⟨r,n,h4,hc⟩:=gZ (P:=prog) w (mlB (mlB 4611686018427387904 a) b) (plB a b)
 have hc:IsC r (leer a b):=hc
 obtain⟨k1,k2⟩:=lr_le_of hc L
 have HL:=lr_le a b
 by_cases c:leer a b<9218868437227405312
 ·have e:lr a b=leer a b:=by unfold lr;rw[if_pos c]
  rw[decide_eq_true c]at k1
  have HC:Hid (IsC r (lr a b)):=by rw[e];exact hc
  generalize mlB (mlB 4611686018427387904 a) b=q at*
  generalize mlB 4611686018427387904 a=p at*
  generalize plB a b=s at*
  clear e k2 c L fa a0 a1 b0 b1 ha hb HL
  clear hc
  go_enter func191,ntmps191
  go_wp2
  go_ret
  exact⟨r,rfl,⟨n,rfl⟩,HC.out⟩
 ·have e:lr a b=0:=by unfold lr;rw[if_neg c]
  rw[decide_eq_false c]at k1
  have HC:Hid (IsC 0 (lr a b)):=by rw[e];exact⟨by decide,by decide⟩
  generalize mlB (mlB 4611686018427387904 a) b=q at*
  generalize mlB 4611686018427387904 a=p at*
  generalize plB a b=s at*
  clear e k2 c L fa a0 a1 b0 b1 ha hb HL
  clear hc
  go_enter func191,ntmps191
  go_wp2
  go_ret
  exact⟨0,rfl,⟨n,rfl⟩,HC.out⟩
theorem tS{P:Program}{w:World}{a:Addr}{m:Mode}(f:Fn)(x y:Array Value):(store a (.func f x y) m).run P w=stored P w a (.func f x y) m:=run_store P w a _ m rfl
attribute [local go_sem] tS
theorem cE(w:World):Calls prog 151 #[] w fun e w'=>e=.returned (.agg #[.func (.func 188) #[] #[],.func (.func 189) #[] #[],.func (.func 190) #[] #[],.func (.func 191) #[] #[]])/\Below w.heap.size w w':=by
 go_enter func151,ntmps151
 go_wp2
 refine bodyPost_ret ?_ rfl ⟨rfl,?_⟩
 ·exact results_cell_row results151 _ _ w.heap.size _ _ (0,0) _ rfl (heap_alloc_new w _) underlying197 rfl (by kernel_rfl)
 ·exact bl1 w _
theorem dJ(k:Int)(w:World):Calls prog 101 #[.int .i64 k] w fun e w'=>e=.returned (.bool (decide (0<=k/\k<=3)))/\Below w.heap.size w w':=by
 have L:=hid (cE w)
 by_cases c:0<=k
 ·have e:decide (0<=k/\k<=3)=decide (k<4):=by by_cases d:k<4<;>simp[d]<;>omega
  rw[e]
  clear e
  go_enter func101,ntmps101
  go_wp2_with fail
  refine L.out.mono ?_
  rintro e w1 ⟨rfl,b1⟩
  go_wp2
  go_ret
  exact⟨rfl,b1⟩
 ·have e:decide (0<=k/\k<=3)=false:=decide_eq_false (by omega)
  rw[e]
  clear e
  go_enter func101,ntmps101
  go_wp2
  go_ret
  exact⟨rfl,Below.refl _ _⟩
end
end Go.Proofs.YtaphajlpbgcfjaaGreatDoor
