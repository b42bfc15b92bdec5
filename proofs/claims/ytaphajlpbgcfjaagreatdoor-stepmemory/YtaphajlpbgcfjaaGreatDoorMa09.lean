/-
  Some of the texts of this proof, one behind the other.
-/
import Derived.Deep.QuietTactic
import Derived.Test.YtaphajlpbgcfjaaGreatDoorMa08
set_option maxRecDepth 100000
set_option maxHeartbeats 400000000
namespace Go.Proofs.YtaphajlpbgcfjaaGreatDoor
open _root_.Go.Proofs.Tryz
section
open Cu
namespace Sh
def allP(n:Nat)(W F:Nat->Int)(T e:Nat):Int:=(if edT n e<T then ct n W F (edT n e)else 0) - (if mt n (edT n e)<T then ct n W F (mt n (edT n e))else 0)
theorem F8(n:Nat)(W F:Nat->Int)(e:Nat):allP n W F 0 e=0:=by unfold allP;simp
theorem allP_all{n:Nat}{W F:Nat->Int}{e:Nat}(hn:1<=n)(he:e<12*n*n):allP n W F (24*n*n) e=allF n W F e:=by
 obtain⟨t1,-,-⟩:=bK hn he
 unfold allP allF
 rw[if_pos t1,if_pos (cV hn t1)]
theorem mt_ne{n t:Nat}(hn:1<=n)(h:t<24*n*n):mt n t≠t:=fun e=>by
 have k:=gJ hn h
 rw[e]at k
 cases q:isL n t<;>rw[q]at k<;>cases k
theorem Gd{n:Nat}{W F:Nat->Int}{T e:Nat}(hn:1<=n)(hT:T<24*n*n)(he:e<12*n*n)(hW: ∀c,c<6*n*n->0<=W c)(hF: ∀e,e<12*n*n-> -4503599627370496<=F e/\F e<=4503599627370496):
  allP n W F (T+1) e=if e=eE n T/\0<ct n W F T then ct n W F T*eS n T else allP n W F T e:=by
 obtain⟨t1,t2,t3⟩:=bK hn he
 have m1:=cV hn t1
 have eE1:eE n (edT n e)=e:=by unfold eE;rw[if_pos t2,t3]
 have hm:=cV hn hT
 have b: ∀t,t<24*n*n->og n F t<=9223372036854775807:=fun t ht=>by have:=nJ (n:=n) (F:=F) (t:=t) (m:=4503599627370496) (by omega) (hF _ (eV hn ht));omega
 have cT:=sD (n:=n) (hW _ (aZ hT)) (b T hT)
 have ne:=mt_ne hn hT
 by_cases q:e=eE n T
 ·have ed:edT n e=if isL n T=true then T else mt n T:=by rw[q];exact oU hn hT
  by_cases l:isL n T=true
  ·rw[if_pos l]at ed
   have es:eS n T=1:=by unfold eS;rw[if_pos l]
   unfold allP
   rw[ed,es,if_pos (show T<T+1 by omega),if_neg (show¬T<T by omega)]
   by_cases z:0<ct n W F T
   ·rw[if_pos (show e=eE n T/\0<ct n W F T from⟨q,z⟩)]
    have o:og n F (mt n T)=0:=(oT (F:=F) hn hT).resolve_left (by omega)
    rw[jE (hW _ (aZ hm)) o]
    simp
   ·rw[if_neg (show¬(e=eE n T/\0<ct n W F T)from fun h=>z h.2)]
    have z0:ct n W F T=0:=by omega
    rw[z0]
    have k:(mt n T<T+1) ↔ (mt n T<T):=by omega
    simp only[k]
  ·rw[if_neg l]at ed
   have es:eS n T= -1:=by unfold eS;rw[if_neg l]
   unfold allP
   rw[ed,es,gW hn hT,if_pos (show T<T+1 by omega),if_neg (show¬T<T by omega)]
   by_cases z:0<ct n W F T
   ·rw[if_pos (show e=eE n T/\0<ct n W F T from⟨q,z⟩)]
    have o:og n F (mt n T)=0:=(oT (F:=F) hn hT).resolve_left (by omega)
    rw[jE (hW _ (aZ hm)) o]
    simp
   ·rw[if_neg (show¬(e=eE n T/\0<ct n W F T)from fun h=>z h.2)]
    have z0:ct n W F T=0:=by omega
    rw[z0]
    have k:(mt n T<T+1) ↔ (mt n T<T):=by omega
    simp only[k]
 ·rw[if_neg (show¬(e=eE n T/\0<ct n W F T)from fun h=>q h.1)]
  have n1:edT n e≠T:=fun h=>q (by rw[<- h,eE1])
  have n2:mt n (edT n e)≠T:=fun h=>q (by rw[<- h,uV hn t1,eE1])
  unfold allP
  have k1:(edT n e<T+1) ↔ (edT n e<T):=by omega
  have k2:(mt n (edT n e)<T+1) ↔ (mt n (edT n e)<T):=by omega
  simp only[k1,k2]
end Sh
end
section
open Cu
namespace Tr
open Sh
def oA(n:Nat)(F:Nat->Int)(c:Nat)(s:Nat):Int:=og n F (4*c+s)
def tks(n:Nat)(W H F:Nat->Int)(t:Nat):Int:=tkA (H (t/4)) (W (t/4)) (oA n F (t/4)) (t%4)
def flF(n:Nat)(W H F:Nat->Int)(e:Nat):Int:=tks n W H F (edT n e) - tks n W H F (mt n (edT n e))
def BV(n lw:Nat)(W:Nat->Int)(lh:Nat)(H:Nat->Int)(lf:Nat)(F:Nat->Int):Prop:=lw=6*n*n/\lh=6*n*n/\lf=12*n*n/\(∀c,c<lw->0<=W c)/\(∀c,c<lh->0<=H c)/\(∀e,e<lf-> -4503599627370496<=F e/\F e<=4503599627370496)/\(∀c,c<lw->oS n F c<=W c)
section
variable {n:Nat} {W H F:Nat->Int} {t c:Nat}
theorem oA_ok(h:oS n F c<=W c):okA (W c) (oA n F c) 4:=⟨fun _ _=>zF _ _ _,h⟩
theorem oA_t(t:Nat):oA n F (t/4) (t%4)=og n F t:=by
 unfold oA
 have:4*(t/4)+t%4=t:=by omega
 rw[this]
theorem sI(h0:0<=H (t/4))(h1:H (t/4)<=9223372036854775807)(o:oS n F (t/4)<=W (t/4)):0<=tks n W H F t:=tk_nn h0 h1 (oA_ok o) (by omega)
theorem tks_le(h0:0<=H (t/4))(h1:H (t/4)<=9223372036854775807)(o:oS n F (t/4)<=W (t/4)):tks n W H F t<=H (t/4):=tk_in h0 h1 (oA_ok o) (by omega)
theorem gR(h:og n F t=0):tks n W H F t=0:=tk_zero (by rw[oA_t];exact h)
theorem flF_side(hn:1<=n)(h:t<24*n*n):flF n W H F (eE n t)*eS n t=tks n W H F t - tks n W H F (mt n t):=by
 unfold flF
 rw[oU hn h]
 unfold eS
 by_cases c:isL n t=true
 ·rw[if_pos c,if_pos c];omega
 ·rw[if_neg c,if_neg c,gW hn h];omega
theorem flF_in(hn:1<=n){e:Nat}(he:e<12*n*n)(hH: ∀c,c<6*n*n->0<=H c/\H c<=9223372036854775807)(o: ∀c,c<6*n*n->oS n F c<=W c): -9223372036854775807<=flF n W H F e/\flF n W H F e<=9223372036854775807:=by
 obtain⟨t1,t2,t3⟩:=bK hn he
 have m1:=cV hn t1
 have a:=hH _ (aZ t1)
 have b:=hH _ (aZ m1)
 have c1:=sI (t:=edT n e) a.1 a.2 (o _ (aZ t1))
 have c2:=sI (t:=mt n (edT n e)) b.1 b.2 (o _ (aZ m1))
 have d1:=tks_le (t:=edT n e) a.1 a.2 (o _ (aZ t1))
 have d2:=tks_le (t:=mt n (edT n e)) b.1 b.2 (o _ (aZ m1))
 unfold flF
 omega
theorem BX(n:Nat)(W H F:Nat->Int)(c:Nat):sumN (fun s=>tks n W H F (4*c+s)) 4=Sh.part (H c) (oS n F c) (W c):=by
 have e:sumN (fun s=>tks n W H F (4*c+s)) 4=sumN (tkA (H c) (W c) (oA n F c)) 4:=by
  refine cQ (fun s hs=> ?_)
  unfold tks
  rw[(lZ hs).1,(lZ hs).2]
 rw[e,wX]
 rfl
theorem BZ(h0:0<=H c)(h1:H c<=9223372036854775807)(o:oS n F c<=W c):Sh.part (H c) (oS n F c) (W c)<=H c/\(0<oS n F c->oS n F c=W c->Sh.part (H c) (oS n F c) (W c)=H c):=by
 have a:=Es h0 h1 (oA_ok o)
 rw[wX]at a
 refine⟨a.1,fun p q=>a.2 ?_ q⟩
 omega
theorem cut_og(hn:1<=n)(h:t<24*n*n)(hW: ∀c,c<6*n*n->0<=W c){m:Int}(hm:0<=m/\m<=9223372036854775807)(hF: ∀e,e<12*n*n-> -m<=F e/\F e<=m):og n (allF n W F) t=ct n W F t:=BQ hn h hW hm hF
theorem cut_oS(hn:1<=n)(hc:c<6*n*n)(hW: ∀c,c<6*n*n->0<=W c){m:Int}(hm:0<=m/\m<=2305843009213693951)(hF: ∀e,e<12*n*n-> -m<=F e/\F e<=m):oS n (allF n W F) c<=W c:=by
 have e:oS n (allF n W F) c=sumN (fun s=>ct n W F (4*c+s)) 4:=by
  unfold oS
  exact cQ (fun s hs=>cut_og hn (eU hc hs) hW ⟨hm.1,by omega⟩ hF)
 rw[e]
 have k:=BR hc hn (hW c hc) hm hF
 rcases Int.lt_or_le (W c) (oS n F c)with q | q
 ·exact(k.2 q).1
 ·rw[k.1 q];exact q
end
def flP(n:Nat)(W H F:Nat->Int)(T:Nat)(e:Nat):Int:=(if edT n e<T then tks n W H F (edT n e)else 0) - (if mt n (edT n e)<T then tks n W H F (mt n (edT n e))else 0)
theorem flP_0(n:Nat)(W H F:Nat->Int)(e:Nat):flP n W H F 0 e=0:=by unfold flP;rw[if_neg (by omega),if_neg (by omega)];rfl
theorem flP_all{n:Nat}{W H F:Nat->Int}{e:Nat}(hn:1<=n)(he:e<12*n*n):flP n W H F (24*n*n) e=flF n W H F e:=by
 obtain⟨t1,_,_⟩:=bK hn he
 unfold flP flF
 rw[if_pos t1,if_pos (cV hn t1)]
theorem flP_step{n:Nat}{W H F:Nat->Int}{T e:Nat}(hn:1<=n)(hT:T<24*n*n)(he:e<12*n*n)(hH: ∀c,c<6*n*n->0<=H c/\H c<=9223372036854775807)(o: ∀c,c<6*n*n->oS n F c<=W c):
  flP n W H F (T+1) e=if e=eE n T/\0<tks n W H F T then tks n W H F T*eS n T else flP n W H F T e:=by
 obtain⟨t1,t2,t3⟩:=bK hn he
 have m1:=cV hn t1
 have eE1:eE n (edT n e)=e:=by unfold eE;rw[if_pos t2,t3]
 have cT:=sI (t:=T) (hH _ (aZ hT)).1 (hH _ (aZ hT)).2 (o _ (aZ hT))
 have gz:0<tks n W H F T->og n F (mt n T)=0:=fun z=>(oT (F:=F) hn hT).resolve_left (fun h=>by have:=gR (W:=W) (H:=H) h;omega)
 have ne:=mt_ne hn hT
 by_cases q:e=eE n T
 ·have ed:edT n e=if isL n T=true then T else mt n T:=by rw[q];exact oU hn hT
  by_cases l:isL n T=true
  ·rw[if_pos l]at ed
   have es:eS n T=1:=by unfold eS;rw[if_pos l]
   unfold flP
   rw[ed,es,if_pos (show T<T+1 by omega),if_neg (show¬T<T by omega)]
   by_cases z:0<tks n W H F T
   ·rw[if_pos (show e=eE n T/\0<tks n W H F T from⟨q,z⟩)]
    rw[gR (W:=W) (H:=H) (gz z)]
    simp
   ·rw[if_neg (show¬(e=eE n T/\0<tks n W H F T)from fun h=>z h.2)]
    have z0:tks n W H F T=0:=by omega
    rw[z0]
    have k:(mt n T<T+1) ↔ (mt n T<T):=by omega
    simp only[k]
  ·rw[if_neg l]at ed
   have es:eS n T= -1:=by unfold eS;rw[if_neg l]
   unfold flP
   rw[ed,es,gW hn hT,if_pos (show T<T+1 by omega),if_neg (show¬T<T by omega)]
   by_cases z:0<tks n W H F T
   ·rw[if_pos (show e=eE n T/\0<tks n W H F T from⟨q,z⟩)]
    rw[gR (W:=W) (H:=H) (gz z)]
    simp
   ·rw[if_neg (show¬(e=eE n T/\0<tks n W H F T)from fun h=>z h.2)]
    have z0:tks n W H F T=0:=by omega
    rw[z0]
    have k:(mt n T<T+1) ↔ (mt n T<T):=by omega
    simp only[k]
 ·rw[if_neg (show¬(e=eE n T/\0<tks n W H F T)from fun h=>q h.1)]
  have n1:edT n e≠T:=fun h=>q (by rw[<- h,eE1])
  have n2:mt n (edT n e)≠T:=fun h=>q (by rw[<- h,uV hn t1,eE1])
  unfold flP
  have k1:(edT n e<T+1) ↔ (edT n e<T):=by omega
  have k2:(mt n (edT n e)<T+1) ↔ (mt n (edT n e)<T):=by omega
  simp only[k1,k2]
end Tr
end
section
open Go.RowKit Tf Cu Go.Deep
namespace Rv
def kb(x:Nat):Nat:=placeB (canonB x)
def kB(B:Nat->Nat)(c:Nat):Nat:=kb (B c)
def dnR(n:Nat)(B:Nat->Nat)(c:Nat):Int:=dnI (kB B) (fun s=>bsC n c s) c
def shR(n:Nat)(x:Int)(c:Nat):Bool:=flt (dpB x (arC n c)) 4602678819172646912
def runR(n:Nat)(B:Nat->Nat)(W T:Nat->Int):(Nat->Int) × (Nat->Int):=rvL (dnR n B) (shR n) (W,T) (ordL (kB B) (6*n*n))
def sJ(n lb lw lt ls:Nat)(W T:Nat->Int):Prop:=(lb=6*n*n/\lw=6*n*n/\lt=6*n*n/\ls=12*n*n)/\okV (6*n*n) W/\okV (6*n*n) T
def OwnN(B:Nat)(v:Value)(l:List Nat)(w:World):Prop:=w.ownsRow B 3 1 v l.length (l.map fun c=>Value.int .i64 (c:Nat))
def DownC:Prop:= ∀(n gb:Nat) (pb:Option Addr) (lb cb:Nat) (B:Nat->Nat) (cell:Int) (w:World),(1<=n/\n<=32)->GridOf n gb w->IsFl w pb lb B->Sh.W64 cell->
 Calls prog 86 #[.pointer (some ⟨gb,0,none⟩),.slice pb lb cb,.int .i64 cell] w fun e w'=>e=.returned (.int .i64 (if lb=6*n*n/\0<=cell/\cell<(6*n*n:Nat)then dnR n B cell.toNat else -1))/\Below w.heap.size w w'
def OrderC:Prop:= ∀(pb:Option Addr) (lb cb:Nat) (B:Nat->Nat) (w:World),lb<=65536->IsFl w pb lb B->
 Calls prog 85 #[.slice pb lb cb] w fun e w'=> ∃v,e=.returned v/\Below w.heap.size w w'/\OwnN w.heap.size v (ordL (kB B) lb) w'
def RunC:Prop:= ∀(n gb:Nat) (pb:Option Addr) (lb cb:Nat) (B:Nat->Nat) (pw:Option Addr) (lw cw:Nat) (W:Nat->Int) (pt:Option Addr) (lt ct:Nat) (T:Nat->Int) (ps:Option Addr) (ls cs:Nat) (Sp:Nat->Nat) (sky st:Int) (w:World),(1<=n/\n<=32)->GridOf n gb w->IsFl w pb lb B->Sh.IsI w pw lw W->Sh.IsI w pt lt T->IsFl w ps ls Sp->
 (sJ n lb lw lt ls W T->Calls prog 25 #[.pointer (some ⟨gb,0,none⟩),.agg #[.slice pb lb cb,.slice pw lw cw,.slice pt lt ct,.slice ps ls cs,.int .i64 sky,.int .i64 st]] w fun e w'=> ∃v u,e=.returned (.tuple #[v,u,.int .i64 0])/\Below w.heap.size w w'/\Sh.Own w.heap.size v ((List.range (6*n*n)).map (runR n B W T).1) w'/\Sh.Own w.heap.size u ((List.range (6*n*n)).map (runR n B W T).2) w'/\ ∀k,v.ownBlock=some k->u.ownBlock≠some k)/\
 (¬sJ n lb lw lt ls W T->Calls prog 25 #[.pointer (some ⟨gb,0,none⟩),.agg #[.slice pb lb cb,.slice pw lw cw,.slice pt lt ct,.slice ps ls cs,.int .i64 sky,.int .i64 st]] w fun e w'=>e=.returned (.tuple #[.slice none 0 0,.slice none 0 0,.int .i64 1])/\Below w.heap.size w w')
theorem bsC_lt{n c s:Nat}(hn:1<=n)(hc:c<6*n*n)(hs:s<4):bsC n c s<6*n*n:=by
 have ht:4*c+s<24*n*n:=eU hc hs
 have h:=(fQ hn ht).1
 have m:=aZ (cV hn ht)
 rw[h]at m
 have e1:(4*c+s)/4=c:=by omega
 have e2:(4*c+s)%4=s:=by omega
 rw[e1,e2]at m
 exact m
theorem okD_R{n:Nat}{B:Nat->Nat}(hn:1<=n):okD (6*n*n) (dnR n B):=fun c hc h=>by
 obtain⟨d,e,k,⟨s,hs,q⟩,-⟩:=dnI_yes h
 have e2:(dnR n B c).toNat=d:=by show(dnI _ _ _).toNat=d;rw[e];rfl
 rw[e2,<- q]
 refine⟨bsC_lt hn hc hs,fun h2=> ?_⟩
 rw[<- q,h2]at k
 omega
theorem runR_ok{n lb lw lt ls:Nat}{B:Nat->Nat}{W T:Nat->Int}(hn:1<=n)(g:sJ n lb lw lt ls W T):(okV (6*n*n) (runR n B W T).1/\okV (6*n*n) (runR n B W T).2)/\Sh.sumN (runR n B W T).1 (6*n*n)=Sh.sumN W (6*n*n)/\Sh.sumN (runR n B W T).2 (6*n*n)=Sh.sumN T (6*n*n):=BJ (okD_R hn) (fun _ h=>yW.1 h) g.2
end Rv
end
section
open Tf Cu
namespace St
open Ss Fc
def wtF(n:Nat)(lim:Int)(G dt D:Nat)(B:Nat->Nat)(W:Nat->Int)(S:Nat->Nat):Nat->Int:=flB n lim B W (spE n G dt D B W S) dt
def waF(n:Nat)(lim:Int)(G dt D:Nat)(B:Nat->Nat)(W:Nat->Int)(S:Nat->Nat):Nat->Int:=Sh.allF n W (wtF n lim G dt D B W S)
def trF(n:Nat)(lim:Int)(G dt D:Nat)(B:Nat->Nat)(W T:Nat->Int)(S:Nat->Nat):Nat->Int:=Tr.flF n W T (waF n lim G dt D B W S)
def mvW(n:Nat)(lim:Int)(G dt D:Nat)(B:Nat->Nat)(W:Nat->Int)(S:Nat->Nat):Nat->Int:=Ms.mv n W (waF n lim G dt D B W S)
def mvT(n:Nat)(lim:Int)(G dt D:Nat)(B:Nat->Nat)(W T:Nat->Int)(S:Nat->Nat):Nat->Int:=Ms.mv n T (trF n lim G dt D B W T S)
def raX(n:Nat)(lim:Int)(G dt D:Nat)(lr:Nat)(R:Nat->Int × Int × Int × Int)(B:Nat->Nat)(W:Nat->Int)(S:Nat->Nat)(sky st:Int):(Nat->Int) × Int:=Rn.rnN st R (mvW n lim G dt D B W S,sky) lr
def riX(n:Nat)(lim:Int)(G dt D:Nat)(rv:Bool)(lr:Nat)(R:Nat->Int × Int × Int × Int)(B:Nat->Nat)(W T:Nat->Int)(S:Nat->Nat)(sky st:Int):(Nat->Int) × (Nat->Int):=
 if rv=true then Rv.runR n B (raX n lim G dt D lr R B W S sky st).1 (mvT n lim G dt D B W T S)else((raX n lim G dt D lr R B W S sky st).1,mvT n lim G dt D B W T S)
def stN(st:Int):Int:=if st<4611686018427387904 then st+1 else st
def okP(n G dt D lr:Nat)(R:Nat->Int × Int × Int × Int):Prop:=(1<=n/\n<=32)/\(G<18446744073709551616/\dt<18446744073709551616/\D<18446744073709551616)/\lr<=1024/\ ∀k,k<lr->Rn.okR (6*n*n) (R k)
def okS(n:Nat)(B:Nat->Nat)(W T:Nat->Int)(S:Nat->Nat)(sky st:Int):Prop:=okN (6*n*n) B W T S sky st/\(∀c,c<6*n*n->B c<18446744073709551616)/\ ∀e,e<12*n*n->S e<18446744073709551616
theorem oW{W:Nat->Int}{n i:Nat}(h: ∀j,j<n->0<=W j)(hi:i<n):W i<=Sh.sumN W n:=by
 have m:=Sh.eI h (m:=i+1) (by omega)
 have e:Sh.sumN W (i+1)=Sh.sumN W i+W i:=rfl
 have z:=Sh.fH (f:=W) (n:=i) (fun j hj=>h j (by omega))
 omega
section
variable {n:Nat}
theorem tk_og(F:Nat->Int)(t:Nat):Ms.tk n F t<=Sh.og n F t:=by
 rw[og_tk]
 split<;>omega
theorem Et{f g:Nat->Int}{c:Nat}(h: ∀s,s<4->f (4*c+s)<=g (4*c+s)):Sh.sumN (fun s=>f (4*c+s)) 4<=Sh.sumN (fun s=>g (4*c+s)) 4:=by
 have h0:=h 0 (by omega)
 have h1:=h 1 (by omega)
 have h2:=h 2 (by omega)
 have h3:=h 3 (by omega)
 show 0+f (4*c+0)+f (4*c+1)+f (4*c+2)+f (4*c+3)<=0+g (4*c+0)+g (4*c+1)+g (4*c+2)+g (4*c+3)
 omega
theorem mv_nn{W F:Nat->Int}{c:Nat}(h:Sh.oS n F c<=W c):0<=Ms.mv n W F c:=by
 have k:=Et (f:=Ms.tk n F) (g:=Sh.og n F) (c:=c) (fun s _=>tk_og _ _)
 unfold Sh.oS at h
 unfold Ms.mv
 omega
theorem mvt_nn{W T F:Nat->Int}(hn:1<=n){c:Nat}(hc:c<6*n*n)(hT: ∀c,c<6*n*n->0<=T c/\T c<=9223372036854775807)(o: ∀c,c<6*n*n->Sh.oS n F c<=W c):0<=Ms.mv n T (Tr.flF n W T F) c:=by
 have k:=Et (f:=Ms.tk n (Tr.flF n W T F)) (g:=Tr.tks n W T F) (c:=c) (fun s hs=>by
  have ht:=eU hc hs
  have h2:=cV hn ht
  have e:Ms.tk n (Tr.flF n W T F) (4*c+s)=Tr.tks n W T F (4*c+s) - Tr.tks n W T F (mt n (4*c+s)):=by
   unfold Ms.tk
   rw[Int.mul_comm]
   exact Tr.flF_side hn ht
  have z:=Tr.sI (t:=mt n (4*c+s)) (hT _ (aZ h2)).1 (hT _ (aZ h2)).2 (o _ (aZ h2))
  rw[e]
  omega)
 have m:=(Tr.BZ (hT c hc).1 (hT c hc).2 (o c hc)).1
 rw[Tr.BX]at k
 unfold Ms.mv
 omega
end
section
variable {n G dt D lr:Nat} {lim:Int} {rv:Bool} {R:Nat->Int × Int × Int × Int} {B:Nat->Nat} {W T:Nat->Int} {S:Nat->Nat} {sky st:Int}
theorem okS_B(h:okS n B W T S sky st):okB n B W S:=by
 obtain⟨⟨-,k0,⟨w1,w2⟩,-,s1,-⟩,b,s⟩:=h
 have e2:2*(6*n*n)=12*n*n:=by rw[Nat.mul_assoc,Nat.mul_assoc];omega
 refine⟨fun c hc=>⟨b c hc,?_⟩,fun e he=>bS_cn (s e he) (s1 e (by omega))⟩
 have:=oW w1 hc
 have:=k0.1
 omega
theorem zJ(hp:okP n G dt D lr R)(h:okS n B W T S sky st){e:Nat}(_he:e<12*n*n): -4503599627370496<=wtF n lim G dt D B W S e/\wtF n lim G dt D B W S e<=4503599627370496:=by
 have k:=okS_B h
 exact qn_in (oQ n G dt D B W S e).1 (lU hp.1.1 (fun i hi=>(k.1 i hi).1) (fun i hi=>(k.1 i hi).2) _ _).1 (sC _ _) hp.2.1.2.1
theorem wa_fit(hp:okP n G dt D lr R)(h:okS n B W T S sky st):Sh.fits n (6*n*n) W (12*n*n) (wtF n lim G dt D B W S):=⟨rfl,rfl,h.1.2.2.1.1,fun _ he=>zJ hp h he⟩
theorem wa_in(hp:okP n G dt D lr R)(h:okS n B W T S sky st){e:Nat}(he:e<12*n*n): -4503599627370496<=waF n lim G dt D B W S e/\waF n lim G dt D B W S e<=4503599627370496:=Sh.allF_in hp.1.1 he h.1.2.2.1.1 (fun _ he=>zJ hp h he)
theorem wa_oS(hp:okP n G dt D lr R)(h:okS n B W T S sky st){c:Nat}(hc:c<6*n*n):Sh.oS n (waF n lim G dt D B W S) c<=W c:=Tr.cut_oS hp.1.1 hc h.1.2.2.1.1 (m:=4503599627370496) ⟨by omega,by omega⟩ (fun _ he=>zJ hp h he)
theorem okT(h:okS n B W T S sky st){c:Nat}(hc:c<6*n*n):0<=T c/\T c<=9223372036854775807:=by
 have:=h.1.2.2.2.1.b hc
 omega
theorem tr_fit(hp:okP n G dt D lr R)(h:okS n B W T S sky st):Tr.BV n (6*n*n) W (6*n*n) T (12*n*n) (waF n lim G dt D B W S):=⟨rfl,rfl,rfl,h.1.2.2.1.1,h.1.2.2.2.1.1,fun _ he=>wa_in hp h he,fun _ hc=>wa_oS hp h hc⟩
theorem tr_in(hp:okP n G dt D lr R)(h:okS n B W T S sky st){e:Nat}(he:e<12*n*n): -9223372036854775807<=trF n lim G dt D B W T S e/\trF n lim G dt D B W T S e<=9223372036854775807:=Tr.flF_in hp.1.1 he (fun _ hc=>okT h hc) (fun _ hc=>wa_oS hp h hc)
theorem Ca(hp:okP n G dt D lr R)(h:okS n B W T S sky st):(∀c,c<6*n*n->0<=mvW n lim G dt D B W S c/\mvW n lim G dt D B W S c<=4503599627370496)/\Sh.sumN (mvW n lim G dt D B W S) (6*n*n)=Sh.sumN W (6*n*n):=by
 have k:Sh.sumN (mvW n lim G dt D B W S) (6*n*n)=Sh.sumN W (6*n*n):=Ms.kept W _ hp.1.1
 have nn: ∀c,c<6*n*n->0<=mvW n lim G dt D B W S c:=fun c hc=>mv_nn (wa_oS hp h hc)
 refine⟨fun c hc=>⟨nn c hc,?_⟩,k⟩
 have:=oW nn hc
 have:=h.1.2.2.1.2
 have:=h.1.2.1
 omega
theorem Cb(hp:okP n G dt D lr R)(h:okS n B W T S sky st):Rv.okV (6*n*n) (mvT n lim G dt D B W T S)/\Sh.sumN (mvT n lim G dt D B W T S) (6*n*n)=Sh.sumN T (6*n*n):=by
 have k:Sh.sumN (mvT n lim G dt D B W T S) (6*n*n)=Sh.sumN T (6*n*n):=Ms.kept T _ hp.1.1
 exact⟨⟨fun c hc=>mvt_nn hp.1.1 hc (fun _ hc=>okT h hc) (fun _ hc=>wa_oS hp h hc),by rw[k];exact h.1.2.2.2.1.2⟩,k⟩
theorem ra_good(hp:okP n G dt D lr R)(h:okS n B W T S sky st):Rn.rV (6*n*n) (mvW n lim G dt D B W S) sky lr R st:=⟨h.1.2.2.2.2.2.1,h.1.2.1,hp.2.2.1,(Ca hp h).1,hp.2.2.2⟩
theorem ra_ok(hp:okP n G dt D lr R)(h:okS n B W T S sky st):Rv.okV (6*n*n) (raX n lim G dt D lr R B W S sky st).1/\0<=(raX n lim G dt D lr R B W S sky st).2/\Sh.sumN (raX n lim G dt D lr R B W S sky st).1 (6*n*n)+(raX n lim G dt D lr R B W S sky st).2=Sh.sumN W (6*n*n)+sky:=by
 have m:=Ca (lim:=lim) hp h
 have nn:=Rn.wJ (n:=6*n*n) (st:=st) (R:=R) (X:=(mvW n lim G dt D B W S,sky)) ⟨fun c hc=>(m.1 c hc).1,h.1.2.1.1⟩ (k:=lr) hp.2.2.2
 have k:=Rn.yY (n:=6*n*n) (st:=st) (R:=R) (X:=(mvW n lim G dt D B W S,sky)) (k:=lr) hp.2.2.2
 have e:Sh.sumN (raX n lim G dt D lr R B W S sky st).1 (6*n*n)+(raX n lim G dt D lr R B W S sky st).2=Sh.sumN W (6*n*n)+sky:=by
  refine k.trans ?_
  dsimp only
  rw[m.2]
 refine⟨⟨nn.1,?_⟩,nn.2,e⟩
 have:=nn.2
 have:=h.1.2.2.1.2
 have z:(raX n lim G dt D lr R B W S sky st).2=(Rn.rnN st R (mvW n lim G dt D B W S,sky) lr).2:=rfl
 omega
theorem Eu(hp:okP n G dt D lr R)(h:okS n B W T S sky st):Rv.sJ n (6*n*n) (6*n*n) (6*n*n) (12*n*n) (raX n lim G dt D lr R B W S sky st).1 (mvT n lim G dt D B W T S):=⟨⟨rfl,rfl,rfl,rfl⟩,(ra_ok hp h).1,(Cb hp h).1⟩
theorem ri_ok(hp:okP n G dt D lr R)(h:okS n B W T S sky st):(Rv.okV (6*n*n) (riX n lim G dt D rv lr R B W T S sky st).1/\Rv.okV (6*n*n) (riX n lim G dt D rv lr R B W T S sky st).2)/\Sh.sumN (riX n lim G dt D rv lr R B W T S sky st).1 (6*n*n)+(raX n lim G dt D lr R B W S sky st).2=Sh.sumN W (6*n*n)+sky/\Sh.sumN (riX n lim G dt D rv lr R B W T S sky st).2 (6*n*n)=Sh.sumN T (6*n*n):=by
 have g:=Eu (lim:=lim) hp h
 have m:=Cb (lim:=lim) hp h
 have a:=ra_ok (lim:=lim) hp h
 unfold riX
 cases rv with
 | false=>
  rw[if_neg (by decide)]
  exact⟨⟨a.1,m.1⟩,a.2.2,m.2⟩
 | true=>
  rw[if_pos rfl]
  have k:=Rv.runR_ok (B:=B) hp.1.1 g
  refine⟨k.1,?_,?_⟩
  ·rw[k.2.1];exact a.2.2
  ·rw[k.2.2];exact m.2
theorem Cc(hp:okP n G dt D lr R)(h:okS n B W T S sky st):okS n B (riX n lim G dt D rv lr R B W T S sky st).1 (riX n lim G dt D rv lr R B W T S sky st).2 (spE n G dt D B W S) (raX n lim G dt D lr R B W S sky st).2 (stN st):=by
 have k:=ri_ok (lim:=lim) (rv:=rv) hp h
 have a:=ra_ok (lim:=lim) hp h
 have w:=h.1.2.2.1.2
 have s:=Sh.fH k.1.1.1
 refine⟨⟨h.1.1,⟨a.2.1,by omega⟩,⟨k.1.1.1,by omega⟩,k.1.2,fun e _=> ?_,?_⟩,h.2.1,fun e _=>(oQ n G dt D B W S e).1⟩
 ·have q:=oQ n G dt D B W S e
  rw[bS_iff q.1]
  exact⟨q.2.2.1,q.2.2.2,(spE_cn e).2.2⟩
 ·have:=h.1.2.2.2.2.2
  unfold stN
  split<;>omega
end
end St
end
section
open Go.RowKit Go.Deep
namespace Sh
theorem zK{ops:Array Oper}{rest:List Oper}{o:Oper}{a:Act}{w:World}{Q:Exit->Act->World->Prop}(hgd:o.guard=none)(s x:Operand)
  (ho:o.op=.call {callee:=.builtin .append,args:= #[s,x],argTypes:= #[27,27]})
  (g:Nat) (hs:a.eval s=.slice (some ⟨g,0,none⟩) 0 0) (src:Value) (hx:a.eval x=src) (hsrc:Src prog 1 27 src 0 [] w)
  (h:wpList prog ops Q rest (a.put o.dst (.slice (some ⟨g,0,none⟩) 0 0)) w):wpList prog ops Q (o :: rest) a w:=by
 obtain⟨i0,hi,hz0,hz1,hz2⟩:=wV
 refine wpList_plain hgd fun _ hK=> ?_
 have hr:=run_append_room_src (P:=prog) w 27 27 o.type 2 i0 underlying27 hi g 0 0 0 src 0 [] (by rw[hz1];exact hsrc) (Nat.le_refl _) (fun j hj=>absurd hj (Nat.not_lt_zero j)) (fun j hj=>absurd hj (Nat.not_lt_zero j))
 unfold Oper.wp execOp
 simp only[ho,resolve,invoke,builtin,Sem.run_bind,Sem.run_pure,Result.andThen_ok,List.map_toArray,List.map_cons,List.map_nil,hs,hx,hr]
 exact hK _ _ h
theorem news_in{w:World}{b o N:Nat}{D:Nat->Int}(h:IsI w (some ⟨b,o,none⟩) N D): ∀j u,(((List.range N).map D).map (Value.int .i64))[j]? =some u->w.cell? ((⟨b,o,none⟩:Addr).add j)=some u:=fun j u hu=>by
 have hj:j<N:=by
  rcases Nat.lt_or_ge j N with h1 | h1
  ·exact h1
  ·rw[List.getElem?_eq_none (by simpa using h1)]at hu;cases hu
 simp[hj]at hu
 rw[jF,<- hu]
 exact(h.at0 hj).2.2
end Sh
end
section
open Go.RowKit Go.Deep
namespace Rn
open Sh
def W4(r:Int × Int × Int × Int):Prop:=Sh.W64 r.1/\Sh.W64 r.2.1/\Sh.W64 r.2.2.1/\Sh.W64 r.2.2.2
def IsRn(w:World)(p:Option Addr)(n:Nat)(R:Nat->Int × Int × Int × Int):Prop:=
 ∀k,k<n->W4 (R k)/\ ∃b o,p=some ⟨b,o,none⟩/\b<w.heap.size/\w.cell? ⟨b,o+k*4,none⟩=some (.int .i64 (R k).1)/\w.cell? ⟨b,o+k*4+1,none⟩=some (.int .i64 (R k).2.1)/\w.cell? ⟨b,o+k*4+2,none⟩=some (.int .i64 (R k).2.2.1)/\w.cell? ⟨b,o+k*4+3,none⟩=some (.int .i64 (R k).2.2.2)
theorem IsRn.below{w w':World}{p:Option Addr}{n:Nat}{R:Nat->Int × Int × Int × Int}(h:IsRn w p n R)(hb:Below w.heap.size w w'):IsRn w' p n R:=fun k hk=>by
 obtain⟨h1,b,o,e,l,c0,c1,c2,c3⟩:=h k hk
 exact⟨h1,b,o,e,Nat.lt_of_lt_of_le l hb.size,(hb.cell (p:=⟨b,_,none⟩) l).trans c0,(hb.cell (p:=⟨b,_,none⟩) l).trans c1,(hb.cell (p:=⟨b,_,none⟩) l).trans c2,(hb.cell (p:=⟨b,_,none⟩) l).trans c3⟩
theorem IsRn.nil(w:World)(p:Option Addr)(R:Nat->Int × Int × Int × Int):IsRn w p 0 R:=fun k hk=>absurd hk (Nat.not_lt_zero k)
theorem IsRn.some0{w:World}{p:Option Addr}{n:Nat}{R:Nat->Int × Int × Int × Int}(h:IsRn w p n R)(h0:0<n): ∃b o,p=some ⟨b,o,none⟩:=by
 obtain⟨_,b,o,e,_⟩:=h 0 h0
 exact⟨b,o,e⟩
theorem IsRn.at0{w:World}{b o n:Nat}{R:Nat->Int × Int × Int × Int}(h:IsRn w (some ⟨b,o,none⟩) n R){k:Nat}(hk:k<n):W4 (R k)/\b<w.heap.size/\w.cell? ⟨b,o+k*4,none⟩=some (.int .i64 (R k).1)/\w.cell? ⟨b,o+k*4+1,none⟩=some (.int .i64 (R k).2.1)/\w.cell? ⟨b,o+k*4+2,none⟩=some (.int .i64 (R k).2.2.1)/\w.cell? ⟨b,o+k*4+3,none⟩=some (.int .i64 (R k).2.2.2):=by
 obtain⟨h1,b',o',e,l,h2⟩:=h k hk
 cases e
 exact⟨h1,l,h2⟩
def vB(n:Int)(r:Int × Int × Int × Int):Bool:=decide (0<=r.1)&&decide (r.1<n)&&decide (-4503599627370496<=r.2.1)&&decide (r.2.1<=4503599627370496)&&decide (0<=r.2.2.1)&&decide (r.2.2.1<=r.2.2.2)
theorem Cd{n:Nat}{r:Int × Int × Int × Int}:vB (n:Int) r=true ↔ okR n r:=by
 unfold vB okR
 simp only[Bool.and_eq_true,decide_eq_true_eq]
 constructor
 ·rintro⟨⟨⟨⟨⟨a,b⟩,c⟩,d⟩,e⟩,f⟩
  exact⟨a,b,c,d,e,f⟩
 ·rintro⟨a,b,c,d,e,f⟩
  exact⟨⟨⟨⟨⟨a,b⟩,c⟩,d⟩,e⟩,f⟩
def FallC:Prop:= ∀(pw:Option Addr) (lw cw:Nat) (W:Nat->Int) (s:Int) (pr:Option Addr) (lr cr:Nat) (R:Nat->Int × Int × Int × Int) (st:Int) (w:World),Sh.W64 s->Sh.W64 st->lw<=17592186044416->lr<=17592186044416->IsI w pw lw W->IsRn w pr lr R->
 (rV lw W s lr R st->Calls prog 24 #[.slice pw lw cw,.int .i64 s,.slice pr lr cr,.int .i64 st] w fun e w'=> ∃v,e=.returned (.tuple #[v,.int .i64 (rnN st R (W,s) lr).2,.int .i64 0])/\Below w.heap.size w w'/\Own w.heap.size v ((List.range lw).map (rnN st R (W,s) lr).1) w')/\
 (¬rV lw W s lr R st->Calls prog 24 #[.slice pw lw cw,.int .i64 s,.slice pr lr cr,.int .i64 st] w fun e w'=>e=.returned (.tuple #[.slice none 0 0,.int .i64 0,.int .i64 1])/\Below w.heap.size w w')
end Rn
end
section
open Go.RowKit Tf Cu Go.Deep
namespace Ss
def Dj(v u:Value):Prop:= ∀k,v.ownBlock=some k->u.ownBlock≠some k
def OwnS(M:Nat)(v:Value)(nb nw nt ns:Nat)(B:Nat->Nat)(W T:Nat->Int)(S:Nat->Nat)(sky st:Int)(w:World):Prop:=
 ∃v1 v2 v3 v4,v=.agg #[v1,v2,v3,v4,.int .i64 sky,.int .i64 st]/\OwnG M v1 ((List.range nb).map B) w/\Sh.Own M v2 ((List.range nw).map W) w/\Sh.Own M v3 ((List.range nt).map T) w/\OwnG M v4 ((List.range ns).map S) w/\Dj v1 v4/\Dj v2 v3
def eqS(lb lw lt ls:Nat)(B:Nat->Nat)(W T:Nat->Int)(S:Nat->Nat)(sky st:Int)(lb' lw' lt' ls':Nat)(B':Nat->Nat)(W' T':Nat->Int)(S':Nat->Nat)(sky' st':Int):Bool:=
 eqL lb lb' B B'&&eqL lw lw' W W'&&eqL lt lt' T T'&&eqL ls ls' S S'&&decide (sky=sky')&&decide (st=st')
theorem jH{α:Type} [DecidableEq α]{n:Nat}{f g:Nat->α}(h: ∀i,i<n->f i=g i):eqL n n f g=true:=decide_eq_true ⟨rfl,h⟩
theorem Ev{α:Type} [DecidableEq α]{n m:Nat}{f g:Nat->α}(h:n≠m):eqL n m f g=false:=decide_eq_false (fun q=>h q.1)
theorem eqL_no{α:Type} [DecidableEq α]{n m:Nat}{f g:Nat->α}{k:Nat}(hk:k<n)(h:f k≠g k):eqL n m f g=false:=decide_eq_false (fun q=>h (q.2 k hk))
end Ss
end
section
open Go.RowKit Tf Cu Go.Deep
attribute [local go_sem] aK aL aP aQ aR aV aW aF
namespace Ss
theorem rall20(pa pb:Option Addr)(n ca m cb:Nat)(xs ys:Nat->Nat)(w:World)(hn:n<=131072)(hm:m<=131072)(hA:IsFl w pa n xs)(hB:IsFl w pb m ys):
  Calls prog 16 #[.slice pa n ca,.slice pb m cb] w fun e w'=>e=.returned (.bool (eqL n m xs ys))/\Below w.heap.size w w':=by
 have HA:=hid hA
 have HB:=hid hB
 have HL:=hid (And.intro hn hm)
 clear hA hB hn hm
 by_cases hnm:n=m
 ·subst hnm
  have e1:((n:Int) != (n:Int))=false:=by simp
  go_enter func16,ntmps16
  go_wp2
  go_loopw [5] (fun iv wr=> ∃k:Nat,k<=n/\iv=.int .i64 (k:Nat)/\Ab w wr/\ ∀i,i<k->xs i=ys i) (fun iv _=>n - (intOf iv).toNat)
  case atStart=>exact⟨0,by omega,rfl,Ab.refl w,fun i hi=>absurd hi (Nat.not_lt_zero i)⟩
  case round=>
   obtain⟨k,hk,rfl,ar,g1⟩:=hrel
   have AR:=hid ar
   have G1:=hid g1
   clear ar g1
   by_cases hkn:k<n
   ·have HK:=hid hkn
    have kI:(k:Int)<n:=by omega
    have kB:(k:Int)<=131072:=by have:=HL.out;omega
    obtain⟨x,hx⟩:=aD (xs k)
    obtain⟨y,hy⟩:=aD (ys k)
    obtain⟨b1,o1,rfl⟩:=HA.out.some0 (show 0<n by omega)
    obtain⟨b2,o2,rfl⟩:=HB.out.some0 (show 0<n by omega)
    have X1:Hid (∀v,Ab wr v->v.cell? ⟨b1,o1+k,none⟩=some (.float .f64 x)):=fun v a=>by rw[<- hx];exact((HA.out.below (AR.out.trans a)).at0 hkn).2.2
    have X2:Hid (∀v,Ab wr v->v.cell? ⟨b2,o2+k,none⟩=some (.float .f64 y)):=fun v a=>by rw[<- hy];exact((HB.out.below (AR.out.trans a)).at0 hkn).2.2
    clear hkn hk
    by_cases q:x=y
    ·have SS:Hid (∀v,Calls prog 40 #[.float .f64 x,.float .f64 y] v fun e w'=>e=.returned (.bool true)/\Below v.heap.size v w'):=fun v=>by
      have h:=kA x y v
      rw[show sameB x y=true by unfold sameB;exact decide_eq_true q]at h
      exact h.mono fun _ _ ⟨he,hw⟩=>⟨he,by rw[hw];exact Below.refl _ _⟩
     have XE:Hid (xs k=ys k):=by show _=_;rw[hx,hy,q]
     clear hx hy q
     go_upto_region 6 with fail
     obtain⟨UU,E,hF1,hF2⟩:=cls wr
     have HU:=hid hF2
     have HU1:=hid hF1
     have y1: ∀u,(E u).cell? ⟨b1,o1+k,none⟩=some (.float .f64 x):=fun u=>X1.out _ (hF1 u)
     have y2: ∀u,(E u).cell? ⟨b2,o2+k,none⟩=some (.float .f64 y):=fun u=>X2.out _ (hF1 u)
     have DD0:=HU.out _ (Ab.refl wr).drew
     clear hF1 hF2
     refine aJ E (by kernel_rfl) (by kernel_rfl) DD0 ?_
     repeat(go_big_quiet_step (first | (with_reducible rfl) | (go_at_call 40;exact aH HU HU1 (SS.out _))))
     refine wpQuiet_nil ?_
     intro z hwz
     obtain⟨u0,hu⟩:=hwz
     have A2:Hid (Ab wr z):=by rw[hu];exact HU1.out u0
     clear hu u0
     clear HU HU1 DD0 y1 y2
     clear E UU
     go_wp2
     refine⟨⟨k+1,by have:=HK.out;omega,by simp,AR.out.trans A2.out,fun i hi=> ?_⟩,by have:=HK.out;simp[intOf];omega⟩
     by_cases l:i<k
     ·exact G1.out i l
     ·obtain rfl:i=k:=by omega
      exact XE.out
    ·have SS:Hid (∀v,Calls prog 40 #[.float .f64 x,.float .f64 y] v fun e w'=>e=.returned (.bool false)/\Below v.heap.size v w'):=fun v=>by
      have h:=kA x y v
      rw[show sameB x y=false by unfold sameB;exact decide_eq_false q]at h
      exact h.mono fun _ _ ⟨he,hw⟩=>⟨he,by rw[hw];exact Below.refl _ _⟩
     have NE:Hid (eqL n n xs ys=false):=eqL_no HK.out (by rw[hx,hy];exact q)
     clear hx hy q
     go_upto_region 6 with fail
     obtain⟨UU,E,hF1,hF2⟩:=cls wr
     have HU:=hid hF2
     have HU1:=hid hF1
     have y1: ∀u,(E u).cell? ⟨b1,o1+k,none⟩=some (.float .f64 x):=fun u=>X1.out _ (hF1 u)
     have y2: ∀u,(E u).cell? ⟨b2,o2+k,none⟩=some (.float .f64 y):=fun u=>X2.out _ (hF1 u)
     have DD0:=HU.out _ (Ab.refl wr).drew
     clear hF1 hF2
     refine aJ E (by kernel_rfl) (by kernel_rfl) DD0 ?_
     repeat(go_big_quiet_step (first | (with_reducible rfl) | (go_at_call 40;exact aH HU HU1 (SS.out _))))
     refine wpQuiet_nil ?_
     intro z hwz
     obtain⟨u0,hu⟩:=hwz
     have A2:Hid (Ab wr z):=by rw[hu];exact HU1.out u0
     clear hu u0
     clear HU HU1 DD0 y1 y2
     clear E UU
     go_wp2
     go_ret
     exact⟨by rw[NE.out];rfl,AR.out.trans A2.out⟩
   ·have e6:n=k:=by omega
    subst e6
    have E:Hid (eqL n n xs ys=true):=jH G1.out
    go_wp2
    go_ret
    exact⟨by rw[E.out];rfl,AR.out⟩
 ·have e1:((n:Int) != (m:Int))=true:=by simp;omega
  have E:Hid (eqL n m xs ys=false):=Ev hnm
  clear hnm
  go_enter func16,ntmps16
  go_wp2
  go_ret
  exact⟨by rw[E.out];rfl,Below.refl _ _⟩
end Ss
end
section
open Go.RowKit Go.Deep
namespace Rn
open Sh
theorem wY{ops:Array Oper}{rest:List Oper}{o:Oper}{a:Act}{w:World}{Q:Exit->Act->World->Prop}(hgd:o.guard=none)(s x:Operand)
  (ho:o.op=.call {callee:=.builtin .append,args:= #[s,x],argTypes:= #[27,27]})
  (B:Nat) (v:Value) (l:List Int) (hs:a.eval s=v) (hown:Own B v l w)
  (ad:Addr) (m c:Nat) (news:List Int) (hx:a.eval x=.slice (some ad) m c) (hl:news.length=m) (hnews: ∀j u,(news.map (Value.int .i64))[j]? =some u->w.cell? (ad.add j)=some u)
  (hm:0<m) (hlen:l.length+m<=17592186044416) (hB:B<=w.heap.size) (nm:Nat) (hnm:l.length+m=nm)
  (h: ∀g cap w',Own B (.slice (some ⟨g,0,none⟩) nm cap) (l++news) w'->w.grownBy w' v.ownBlock->(v.ownBlock=some g\/g=w.heap.size)->B<=g->wpList prog ops Q rest (a.put o.dst (.slice (some ⟨g,0,none⟩) nm cap)) w'):wpList prog ops Q (o :: rest) a w:=by
 subst hnm
 obtain⟨i0,hi,hz0,hz1,hz2⟩:=Sh.wV
 refine wpList_append_lies w hgd s x _ ho B 2 i0 (.int .i64 0) 1 8 underlying27 hi hz0 hz1 hz2 rfl (by decide) v l.length (l.map (Value.int .i64)) hs hown ad m c (news.map (Value.int .i64)) hx (by simpa using hl) hnews (fun u hu=>by
  obtain⟨y,_,rfl⟩:=List.mem_map.1 hu
  rfl) hm (by unfold maxLen;omega) (by omega) hB _ rfl ?_
 intro g cap w' o1 g1 e1 _
 have hb:B<=g:=by
  rcases o1.2 with⟨q,_⟩ | ⟨g2,_,_,q,hb,_⟩
  ·cases q
  ·injection q with q1 q2 q3
   injection q1 with q4
   injection q4 with q5
   omega
 refine h g cap w' ?_ g1 e1 hb
 unfold Own
 rw[List.length_append,List.map_append,hl]
 exact o1
theorem Gf{B:Nat}{v:Value}{l:List Int}{w:World}(h:Own B v l w)(h0:0<l.length): ∃g cap F,v=.slice (some ⟨g,0,none⟩) l.length cap/\B<=g/\l.length<=cap/\cap<=maxLen/\w.rowIs g 2 cap F/\ ∀i,i<l.length->F i=.int .i64 (l.getD i 0):=by
 rcases h.2 with⟨rfl,hz⟩ | ⟨g,cap,cur,e,hb,hg,h1,h2,h3,h4⟩
 ·omega
 ·refine⟨g,cap,fun i=>(cur[i]?).getD (.bool false),e,hb,h1,h2,⟨cur,hg,by omega,fun i hi=> ?_⟩,fun i hi=> ?_⟩
  ·have:i<cur.size:=by omega
   simp[this]
  ·have q:(cur.toList.take l.length)[i]? =(l.map (Value.int .i64))[i]? :=by
    have h4':cur.toList.take l.length=l.map (Value.int .i64):=by simpa using h4
    rw[h4']
   rw[List.getElem?_take,if_pos hi,Array.getElem?_toList]at q
   dsimp only
   rw[q]
   simp[hi,List.getD]
theorem oX{B n:Nat}{v:Value}{x:Nat->Int}{w:World}(h:Own B v ((List.range n).map x) w)(h0:0<n): ∃g cap F,v=.slice (some ⟨g,0,none⟩) n cap/\B<=g/\n<=cap/\cap<=maxLen/\w.rowIs g 2 cap F/\ ∀i,i<n->F i=.int .i64 (x i):=by
 have e:((List.range n).map x).length=n:=by simp
 obtain⟨g,cap,F,h1,h2,h3,h4,h5,h6⟩:=Gf h (by rw[e];exact h0)
 rw[e]at h1 h3 h6
 exact⟨g,cap,F,h1,h2,h3,h4,h5,fun i hi=>by rw[h6 i hi];simp[List.getD,hi]⟩
theorem Gg{B g cap n:Nat}{F:Nat->Value}{x:Nat->Int}{w:World}(h:w.rowIs g 2 cap F)(hB:B<=g)(hn:n<=cap)(hc:cap<=maxLen)(hF: ∀i,i<n->F i=.int .i64 (x i)):Own B (.slice (some ⟨g,0,none⟩) n cap) ((List.range n).map x) w:=by
 obtain⟨c,hb,hs,hf⟩:=h
 refine⟨by simp,.inr ⟨g,cap,c,by simp,hB,hb,by simpa using hn,hc,by omega,?_⟩⟩
 apply List.ext_getElem?
 intro i
 rw[List.getElem?_take,List.length_map,List.length_range]
 by_cases hi:i<n
 ·have e:=hf i (by omega)
  rw[hF i hi]at e
  rw[if_pos (by omega)]
  rw[<- Array.getElem?_toList]at e
  rw[e]
  simp[hi]
 ·rw[if_neg (by omega),List.getElem?_eq_none (by simp;omega)]
theorem rn_skip{st:Int}{R:Nat->Int × Int × Int × Int}{X:(Nat->Int) × Int}{c:Nat}{r1 r2 r3 r4:Int}(hr:R c=(r1,r2,r3,r4))(h:st<r3\/r4<=st):rnN st R X (c+1)=rnN st R X c:=by
 show rn1 st (R c) (rnN st R X c)=_
 refine rn1_no ?_
 rw[hr]
 unfold fallB
 rcases h with h | h
 ·rw[decide_eq_false (show¬r3<=st by omega)]
  rfl
 ·rw[decide_eq_false (show¬st<r4 by omega),Bool.and_false]
theorem rn_fall{st:Int}{R:Nat->Int × Int × Int × Int}{X:(Nat->Int) × Int}{c k:Nat}{r2 r3 r4 sk x:Int}(hr:R c=((k:Int),r2,r3,r4))(h1: ¬st<r3)(h2: ¬r4<=st)(hs:(rnN st R X c).2=sk)(hx:(rnN st R X c).1 k=x):
  (rnN st R X (c+1)).2=sk - dn r2 sk x/\ ∀i,(rnN st R X (c+1)).1 i=if i=k then x+dn r2 sk x else(rnN st R X c).1 i:=by
 have f:fallB st (R c)=true:=by
  rw[hr]
  unfold fallB
  rw[decide_eq_true (show r3<=st by omega),decide_eq_true (show st<r4 by omega)]
  rfl
 have e:rnN st R X (c+1)=(fun i=>if i=k then(rnN st R X c).1 i+dn r2 sk x else(rnN st R X c).1 i,sk - dn r2 sk x):=by
  show rn1 st (R c) (rnN st R X c)=_
  unfold rn1
  rw[if_pos f,hr]
  simp only[Int.toNat_natCast,hs,hx]
 rw[e]
 refine⟨rfl,fun i=> ?_⟩
 dsimp only
 by_cases q:i=k
 ·rw[if_pos q,if_pos q,q,hx]
 ·rw[if_neg q,if_neg q]
end Rn
end
section
open Go.RowKit Tf
attribute [local go_sem] aK aL aP aQ aR aV aW
theorem oY{P:Program}(w:World)(ts:Array TypeId)(t:TypeId){a b:Nat}(ha:a<=9218868437227405312)(hb:b<=9218868437227405312):
  (Builtin.min_ ts t #[.float .f64 a,.float .f64 b]).run P w=.ok (.float .f64 (min a b)) w:=by
 have h:FloatKind.f64.format.order a b=_:=zC ha hb
 by_cases c:a<b
 ·rw[if_pos c]at h
  simp[Builtin.min_,Builtin.min2,h]
  omega
 ·rw[if_neg c]at h
  by_cases d:b<a
  ·rw[if_pos d]at h
   simp[Builtin.min_,Builtin.min2,h]
   omega
  ·rw[if_neg d]at h
   have e:a=b:=by omega
   subst e
   simp[Builtin.min_,Builtin.min2,h]
theorem Gh{P:Program}(w:World)(ts:Array TypeId)(t:TypeId){a b:Nat}(ha:a<=9218868437227405312)(hb:b<=9218868437227405312):
  (Builtin.max_ ts t #[.float .f64 a,.float .f64 b]).run P w=.ok (.float .f64 (max a b)) w:=by
 have h:FloatKind.f64.format.order a b=_:=zC ha hb
 by_cases c:a<b
 ·rw[if_pos c]at h
  simp[Builtin.max_,Builtin.max2,h]
  omega
 ·rw[if_neg c]at h
  by_cases d:b<a
  ·rw[if_pos d]at h
   simp[Builtin.max_,Builtin.max2,h]
   omega
  ·rw[if_neg d]at h
   have e:a=b:=by omega
   subst e
   simp[Builtin.max_,Builtin.max2,h]
theorem plain_at(a b:Nat)(w:World):Calls prog 188 #[.float .f64 a,.float .f64 b] w fun e w'=>e=.returned (.float .f64 0)/\w'=w:=by
 go_enter func188,ntmps188
 go_wp2
 go_ret
 exact⟨rfl,rfl⟩
theorem Gi(a b:Nat)(w:World)(ha:a<=9218868437227405312)(hb:b<=9218868437227405312):Calls prog 189 #[.float .f64 a,.float .f64 b] w fun e w'=>e=.returned (.float .f64 (min a b))/\w'=w:=by
 have h: ∀ts t,(Builtin.min_ ts t #[.float .f64 a,.float .f64 b]).run prog w=.ok (.float .f64 (min a b)) w:=fun ts t=>oY w ts t ha hb
 generalize e:min a b=m at h ⊢
 clear e ha hb
 go_enter func189,ntmps189
 go_wp2
 go_ret
 exact⟨rfl,rfl⟩
theorem zL(a b:Nat)(w:World)(ha:ps a=true)(hb:ps b=true):Calls prog 190 #[.float .f64 a,.float .f64 b] w fun e w'=>e=.returned (.float .f64 (sbee a b))/\w'=w:=by
 obtain⟨a0,a1⟩:=cA.1 ha
 obtain⟨b0,b1⟩:=cA.1 hb
 have fa:=(gQ a1).1
 have fb:=(gQ b1).1
 have h1: ∀t,(binOp .mul t (.float .f64 4611686018427387904) (.float .f64 a)).run prog w=.ok (.float .f64 (mlB 4611686018427387904 a)) w:=fun t=>run_float_arith w .mul t .f64 _ _ _ (wO (by decide) a1 (by decide) a0)
 have h2: ∀t,(binOp .mul t (.float .f64 4611686018427387904) (.float .f64 b)).run prog w=.ok (.float .f64 (mlB 4611686018427387904 b)) w:=fun t=>run_float_arith w .mul t .f64 _ _ _ (wO (by decide) b1 (by decide) b0)
 have h3: ∀ts t,(Builtin.min_ ts t #[.float .f64 (mlB 4611686018427387904 a),.float .f64 b]).run prog w=.ok (.float .f64 (min (mlB 4611686018427387904 a) b)) w:=fun ts t=>oY w ts t fa b1
 have h4: ∀ts t,(Builtin.min_ ts t #[.float .f64 a,.float .f64 (mlB 4611686018427387904 b)]).run prog w=.ok (.float .f64 (min a (mlB 4611686018427387904 b))) w:=fun ts t=>oY w ts t a1 fb
 have h5: ∀ts t,(Builtin.max_ ts t #[.float .f64 (min (mlB 4611686018427387904 a) b),.float .f64 (min a (mlB 4611686018427387904 b))]).run prog w=.ok (.float .f64 (sbee a b)) w:=fun ts t=>Gh w ts t (by omega) (by omega)
 generalize mlB 4611686018427387904 a=p at*
 generalize mlB 4611686018427387904 b=q at*
 generalize min p b=u at*
 generalize min a q=v at*
 generalize sbee a b=s at*
 clear a0 a1 b0 b1 fa fb ha hb
 go_enter func190,ntmps190
 go_wp2
 go_ret
 exact⟨rfl,rfl⟩
theorem leer_at(a b:Nat)(w:World)(ha:ps a=true)(hb:ps b=true):Calls prog 191 #[.float .f64 a,.float .f64 b] w fun e w'=> ∃r,e=.returned (.float .f64 r)/\(∃n,w'=w.drewN n)/\IsC r (lr a b):=by
 obtain⟨a0,a1⟩:=cA.1 ha
 obtain⟨b0,b1⟩:=cA.1 hb
 have fa:=gQ a1
 have L:=leer_nn a1 b1 a0 b0
 have h1: ∀t,(binOp .mul t (.float .f64 4611686018427387904) (.float .f64 a)).run prog w=.ok (.float .f64 (mlB 4611686018427387904 a)) w:=fun t=>run_float_arith w .mul t .f64 _ _ _ (wO (by decide) a1 (by decide) a0)
 have h2: ∀t,(binOp .mul t (.float .f64 (mlB 4611686018427387904 a)) (.float .f64 b)).run prog w=.ok (.float .f64 (mlB (mlB 4611686018427387904 a) b)) w:=fun t=>run_float_arith w .mul t .f64 _ _ _ (wO fa.1 b1 (by omega) b0)
 have h3: ∀t,(binOp .add t (.float .f64 a) (.float .f64 b)).run prog w=.ok (.float .f64 (plB a b)) w:=fun t=>run_float_arith w .add t .f64 _ _ _ (add_pp a1 b1)
 obtain⟨r,n,h4,hc⟩:=gB (P:=prog) w (mlB (mlB 4611686018427387904 a) b) (plB a b)
 have hc:IsC r (leer a b):=hc
 obtain⟨k1,k2⟩:=lr_le_of hc L
 have HL:=lr_le a b
 by_cases c:leer a b<9218868437227405312
 ·have e:lr a b=leer a b:=by unfold lr;rw[if_pos c]
  rw[decide_eq_true c]at k1
  have HC:Hid (IsC r (lr a b)):=by rw[e];exact hc
  generalize mlB (mlB 4611686018427387904 a) b=q at*
  generalize mlB 4611686018427387904 a=p at*
  generalize plB a b=s at*
  clear e k2 c L fa a0 a1 b0 b1 ha hb HL
  clear hc
  go_enter func191,ntmps191
  go_wp2
  go_ret
  exact⟨r,rfl,⟨n,rfl⟩,HC.out⟩
 ·have e:lr a b=0:=by unfold lr;rw[if_neg c]
  rw[decide_eq_false c]at k1
  have HC:Hid (IsC 0 (lr a b)):=by rw[e];exact⟨by decide,by decide⟩
  generalize mlB (mlB 4611686018427387904 a) b=q at*
  generalize mlB 4611686018427387904 a=p at*
  generalize plB a b=s at*
  clear e k2 c L fa a0 a1 b0 b1 ha hb HL
  clear hc
  go_enter func191,ntmps191
  go_wp2
  go_ret
  exact⟨0,rfl,⟨n,rfl⟩,HC.out⟩
theorem sK{P:Program}{w:World}{a:Addr}{m:Mode}(f:Fn)(x y:Array Value):(store a (.func f x y) m).run P w=stored P w a (.func f x y) m:=run_store P w a _ m rfl
attribute [local go_sem] sK
theorem bW(w:World):Calls prog 151 #[] w fun e w'=>e=.returned (.agg #[.func (.func 188) #[] #[],.func (.func 189) #[] #[],.func (.func 190) #[] #[],.func (.func 191) #[] #[]])/\Below w.heap.size w w':=by
 go_enter func151,ntmps151
 go_wp2
 refine bodyPost_ret ?_ rfl ⟨rfl,?_⟩
 ·exact results_cell_row results151 _ _ w.heap.size _ _ (0,0) _ rfl (heap_alloc_new w _) underlying197 rfl (by kernel_rfl)
 ·exact bl1 w _
theorem dC(k:Int)(w:World):Calls prog 101 #[.int .i64 k] w fun e w'=>e=.returned (.bool (decide (0<=k/\k<=3)))/\Below w.heap.size w w':=by
 have L:=hid (bW w)
 by_cases c:0<=k
 ·have e:decide (0<=k/\k<=3)=decide (k<4):=by by_cases d:k<4<;>simp[d]<;>omega
  rw[e]
  clear e
  go_enter func101,ntmps101
  go_wp2_with fail
  refine L.out.mono ?_
  rintro e w1 ⟨rfl,b1⟩
  go_wp2
  go_ret
  exact⟨rfl,b1⟩
 ·have e:decide (0<=k/\k<=3)=false:=decide_eq_false (by omega)
  rw[e]
  clear e
  go_enter func101,ntmps101
  go_wp2
  go_ret
  exact⟨rfl,Below.refl _ _⟩
end
end Go.Proofs.YtaphajlpbgcfjaaGreatDoor
