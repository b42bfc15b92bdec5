/-
  Some of the texts of this proof, one behind the other.
-/
import Derived.Deep.RegionWith
import Derived.Test.YtaphajlpbgcfjaaGreatDoorMa10
set_option maxRecDepth 100000
set_option maxHeartbeats 400000000
namespace Go.Proofs.YtaphajlpbgcfjaaGreatDoor
open _root_.Go.Proofs.Tryz
section
open Go.RowKit Tf Cu Go.Deep
attribute [local go_sem] aK aL aP aQ aR aV aW aF
namespace Ss
def SeaIn(M g:Nat)(p1:Option Addr)(c1:Nat)(p2:Option Addr)(c2:Nat)(p3:Option Addr)(c3:Nat)(p4:Option Addr)(c4:Nat)(n1 n2 n3 n4:Nat)(A:Nat->Nat)(B C:Nat->Int)(D:Nat->Nat)(sk st:Int)(v:World):Prop:=
 v.heap[g]? =some (.cells #[.slice p1 n1 c1,.slice p2 n2 c2,.slice p3 n3 c3,.slice p4 n4 c4,.int .i64 sk,.int .i64 st] 29)/\(IsFl v p1 n1 A/\Sh.IsI v p2 n2 B/\Sh.IsI v p3 n3 C/\IsFl v p4 n4 D)/\(OV 22 M (.slice p1 n1 c1) (((List.range n1).map A).map (Value.float .f64)) v/\OV 2 M (.slice p2 n2 c2) (((List.range n2).map B).map (Value.int .i64)) v/\OV 2 M (.slice p3 n3 c3) (((List.range n3).map C).map (Value.int .i64)) v/\OV 22 M (.slice p4 n4 c4) (((List.range n4).map D).map (Value.float .f64)) v)/\(∀k,((Value.slice p1 n1 c1).ownBlock=some k\/(Value.slice p2 n2 c2).ownBlock=some k\/(Value.slice p3 n3 c3).ownBlock=some k\/(Value.slice p4 n4 c4).ownBlock=some k)->k<g)/\(Dj (.slice p1 n1 c1) (.slice p2 n2 c2)/\Dj (.slice p1 n1 c1) (.slice p3 n3 c3)/\Dj (.slice p1 n1 c1) (.slice p4 n4 c4)/\Dj (.slice p2 n2 c2) (.slice p3 n3 c3)/\Dj (.slice p2 n2 c2) (.slice p4 n4 c4)/\Dj (.slice p3 n3 c3) (.slice p4 n4 c4))
def Bnd(n1 n2 n3 n4:Nat)(A:Nat->Nat)(B C:Nat->Int)(D:Nat->Nat):Prop:=(∀i,i<n1->A i<18446744073709551616)/\(∀i,i<n2->Sh.W64 (B i))/\(∀i,i<n3->Sh.W64 (C i))/\(∀i,i<n4->D i<18446744073709551616)
theorem sea_new{M:Nat}{vv:Value}{n1 n2 n3 n4:Nat}{A:Nat->Nat}{B C:Nat->Int}{D:Nat->Nat}{sk st:Int}{u:World}(h:OwnS M vv n1 n2 n3 n4 A B C D sk st u)(hb:Bnd n1 n2 n3 n4 A B C D):
  ∃p1 c1 p2 c2 p3 c3 p4 c4,vv=.agg #[.slice p1 n1 c1,.slice p2 n2 c2,.slice p3 n3 c3,.slice p4 n4 c4,.int .i64 sk,.int .i64 st]/\SeaIn M u.heap.size p1 c1 p2 c2 p3 c3 p4 c4 n1 n2 n3 n4 A B C D sk st (u.alloc (.cells #[.slice p1 n1 c1,.slice p2 n2 c2,.slice p3 n3 c3,.slice p4 n4 c4,.int .i64 sk,.int .i64 st] 29)):=by
 obtain⟨p1,c1,p2,c2,p3,c3,p4,c4,e,⟨i1,i2,i3,i4⟩,⟨o1,o2,o3,o4⟩,dj⟩:=wZ h hb.1 hb.2.1 hb.2.2.1 hb.2.2.2
 have a: ∀o,Ab u (u.alloc o):=fun o=>bl1 _ _
 exact⟨p1,c1,p2,c2,p3,c3,p4,c4,e,heap_alloc_new _ _,⟨i1.below (a _),i2.below (a _),i3.below (a _),i4.below (a _)⟩,⟨o1.to (a _),o2.to (a _),o3.to (a _),o4.to (a _)⟩,fun k q=>by
  rcases q with q | q | q | q
  ·exact(o1.blk q).2
  ·exact(o2.blk q).2
  ·exact(o3.blk q).2
  ·exact(o4.blk q).2,dj⟩
theorem chk_zero{side:Int}{lb lw lt ls:Nat}{B:Nat->Nat}{W T:Nat->Int}{S:Nat->Nat}{sky st:Int}(h1:1<=side/\side<=32)(hl:lb=6*side.toNat*side.toNat/\lw=6*side.toNat*side.toNat/\lt=6*side.toNat*side.toNat/\ls=2*(6*side.toNat*side.toNat))(h:okN (6*side.toNat*side.toNat) B W T S sky st):chk side lb lw lt ls B W T S sky st=(0,0):=by
 unfold chk
 rw[if_pos h1]
 exact chN_zero ⟨hl,h⟩
end Ss
end
section
open Go.RowKit Tf Cu Go.Deep
namespace St
open Ss Fc
def erS(n:Nat)(sd:Int)(dt gr dr:Nat)(lim:Int)(lr:Nat)(R:Nat->Int × Int × Int × Int)(lb lw lt ls:Nat)(B:Nat->Nat)(W T:Nat->Int)(S:Nat->Nat)(sky st:Int):Int:=
 if sd≠(n:Int)then 1 else if plE sd dt gr dr lim lr R≠0 then plE sd dt gr dr lim lr R else(chk sd lb lw lt ls B W T S sky st).2
def OneC:Prop:= ∀(n gb:Nat) (sd:Int) (dt gr dr:Nat) (lim:Int) (rv:Bool) (pr:Option Addr) (lr cr:Nat) (R:Nat->Int × Int × Int × Int) (pb:Option Addr) (lb cb:Nat) (B:Nat->Nat) (pw:Option Addr) (lw cw:Nat) (W:Nat->Int) (pt:Option Addr) (lt ct:Nat) (T:Nat->Int) (ps:Option Addr) (ls cs:Nat) (S:Nat->Nat) (sky st:Int) (w:World),(1<=n/\n<=32)->GridOf n gb w->Fr w->(Sh.W64 sd/\Sh.W64 lim/\Sh.W64 sky/\Sh.W64 st)->(dt<18446744073709551616/\gr<18446744073709551616/\dr<18446744073709551616)->lr<=281474976710656->(lb<=281474976710656/\lw<=281474976710656/\lt<=281474976710656/\ls<=281474976710656)->Rn.IsRn w pr lr R->IsFl w pb lb B->Sh.IsI w pw lw W->Sh.IsI w pt lt T->IsFl w ps ls S->
 ((erS n sd dt gr dr lim lr R lb lw lt ls B W T S sky st)=0->Calls prog 14 #[.pointer (some ⟨gb,0,none⟩),.agg #[.int .i64 sd,.float .f64 dt,.float .f64 gr,.float .f64 dr,.int .i64 lim,.bool rv,.slice pr lr cr],.agg #[.slice pb lb cb,.slice pw lw cw,.slice pt lt ct,.slice ps ls cs,.int .i64 sky,.int .i64 st]] w fun e w'=> ∃v,e=.returned (.tuple #[v,.int .i64 0])/\Below w.heap.size w w'/\OwnS w.heap.size v lb lw lt ls B (riX n lim gr dt dr rv lr R B W T S sky st).1 (riX n lim gr dt dr rv lr R B W T S sky st).2 (spE n gr dt dr B W S) (raX n lim gr dt dr lr R B W S sky st).2 (stN st) w')/\
 ((erS n sd dt gr dr lim lr R lb lw lt ls B W T S sky st)≠0->Calls prog 14 #[.pointer (some ⟨gb,0,none⟩),.agg #[.int .i64 sd,.float .f64 dt,.float .f64 gr,.float .f64 dr,.int .i64 lim,.bool rv,.slice pr lr cr],.agg #[.slice pb lb cb,.slice pw lw cw,.slice pt lt ct,.slice ps ls cs,.int .i64 sky,.int .i64 st]] w fun e w'=>e=.returned (.tuple #[.agg #[.slice none 0 0,.slice none 0 0,.slice none 0 0,.slice none 0 0,.int .i64 0,.int .i64 0],.int .i64 (erS n sd dt gr dr lim lr R lb lw lt ls B W T S sky st)])/\Below w.heap.size w w')
def OneB(rv:Bool):Prop:= ∀(n gb:Nat) (sd:Int) (dt gr dr:Nat) (lim:Int) (pr:Option Addr) (lr cr:Nat) (R:Nat->Int × Int × Int × Int) (pb:Option Addr) (lb cb:Nat) (B:Nat->Nat) (pw:Option Addr) (lw cw:Nat) (W:Nat->Int) (pt:Option Addr) (lt ct:Nat) (T:Nat->Int) (ps:Option Addr) (ls cs:Nat) (S:Nat->Nat) (sky st:Int) (w:World),(1<=n/\n<=32)->GridOf n gb w->Fr w->(Sh.W64 sd/\Sh.W64 lim/\Sh.W64 sky/\Sh.W64 st)->(dt<18446744073709551616/\gr<18446744073709551616/\dr<18446744073709551616)->lr<=281474976710656->(lb<=281474976710656/\lw<=281474976710656/\lt<=281474976710656/\ls<=281474976710656)->Rn.IsRn w pr lr R->IsFl w pb lb B->Sh.IsI w pw lw W->Sh.IsI w pt lt T->IsFl w ps ls S->
 ((erS n sd dt gr dr lim lr R lb lw lt ls B W T S sky st)=0->Calls prog 14 #[.pointer (some ⟨gb,0,none⟩),.agg #[.int .i64 sd,.float .f64 dt,.float .f64 gr,.float .f64 dr,.int .i64 lim,.bool rv,.slice pr lr cr],.agg #[.slice pb lb cb,.slice pw lw cw,.slice pt lt ct,.slice ps ls cs,.int .i64 sky,.int .i64 st]] w fun e w'=> ∃v,e=.returned (.tuple #[v,.int .i64 0])/\Below w.heap.size w w'/\OwnS w.heap.size v lb lw lt ls B (riX n lim gr dt dr rv lr R B W T S sky st).1 (riX n lim gr dt dr rv lr R B W T S sky st).2 (spE n gr dt dr B W S) (raX n lim gr dt dr lr R B W S sky st).2 (stN st) w')/\
 ((erS n sd dt gr dr lim lr R lb lw lt ls B W T S sky st)≠0->Calls prog 14 #[.pointer (some ⟨gb,0,none⟩),.agg #[.int .i64 sd,.float .f64 dt,.float .f64 gr,.float .f64 dr,.int .i64 lim,.bool rv,.slice pr lr cr],.agg #[.slice pb lb cb,.slice pw lw cw,.slice pt lt ct,.slice ps ls cs,.int .i64 sky,.int .i64 st]] w fun e w'=>e=.returned (.tuple #[.agg #[.slice none 0 0,.slice none 0 0,.slice none 0 0,.slice none 0 0,.int .i64 0,.int .i64 0],.int .i64 (erS n sd dt gr dr lim lr R lb lw lt ls B W T S sky st)])/\Below w.heap.size w w')
def OneF:Prop:=OneB false
theorem oneF_of(h:OneC):OneF:=fun n gb sd dt gr dr lim=>h n gb sd dt gr dr lim false
def FlowC:Prop:= ∀(n gb:Nat) (sd:Int) (dt gr dr:Nat) (lim:Int) (rv:Bool) (pr:Option Addr) (lr cr:Nat) (R:Nat->Int × Int × Int × Int) (pb:Option Addr) (lb cb:Nat) (B:Nat->Nat) (pw:Option Addr) (lw cw:Nat) (W:Nat->Int) (pt:Option Addr) (lt ct:Nat) (T:Nat->Int) (ps:Option Addr) (ls cs:Nat) (S:Nat->Nat) (sky st:Int) (w:World),(1<=n/\n<=32)->GridOf n gb w->Fr w->(Sh.W64 sd/\Sh.W64 lim/\Sh.W64 sky/\Sh.W64 st)->(dt<18446744073709551616/\gr<18446744073709551616/\dr<18446744073709551616)->lr<=281474976710656->(lb<=281474976710656/\lw<=281474976710656/\lt<=281474976710656/\ls<=281474976710656)->Rn.IsRn w pr lr R->IsFl w pb lb B->Sh.IsI w pw lw W->Sh.IsI w pt lt T->IsFl w ps ls S->
 ((erS n sd dt gr dr lim lr R lb lw lt ls B W T S sky st)=0->Calls prog 17 #[.pointer (some ⟨gb,0,none⟩),.agg #[.int .i64 sd,.float .f64 dt,.float .f64 gr,.float .f64 dr,.int .i64 lim,.bool rv,.slice pr lr cr],.agg #[.slice pb lb cb,.slice pw lw cw,.slice pt lt ct,.slice ps ls cs,.int .i64 sky,.int .i64 st]] w fun e w'=> ∃v1 v2,e=.returned (.tuple #[.agg #[v1,v2],.int .i64 0])/\Below w.heap.size w w'/\Sh.Own w.heap.size v1 ((List.range (12*n*n)).map (waF n lim gr dt dr B W S)) w'/\Sh.Own w.heap.size v2 ((List.range (12*n*n)).map (trF n lim gr dt dr B W T S)) w'/\Dj v1 v2)/\
 ((erS n sd dt gr dr lim lr R lb lw lt ls B W T S sky st)≠0->Calls prog 17 #[.pointer (some ⟨gb,0,none⟩),.agg #[.int .i64 sd,.float .f64 dt,.float .f64 gr,.float .f64 dr,.int .i64 lim,.bool rv,.slice pr lr cr],.agg #[.slice pb lb cb,.slice pw lw cw,.slice pt lt ct,.slice ps ls cs,.int .i64 sky,.int .i64 st]] w fun e w'=>e=.returned (.tuple #[.agg #[.slice none 0 0,.slice none 0 0],.int .i64 (erS n sd dt gr dr lim lr R lb lw lt ls B W T S sky st)])/\Below w.heap.size w w')
def PlanB:Prop:= ∀(sd:Int) (dt gr dr:Nat) (lim:Int) (rv:Bool) (pr:Option Addr) (lr cr:Nat) (R:Nat->Int × Int × Int × Int) (w:World),Sh.W64 sd->Sh.W64 lim->(dt<18446744073709551616/\gr<18446744073709551616/\dr<18446744073709551616)->lr<=281474976710656->Rn.IsRn w pr lr R->
 Calls prog 11 #[.agg #[.int .i64 sd,.float .f64 dt,.float .f64 gr,.float .f64 dr,.int .i64 lim,.bool rv,.slice pr lr cr]] w fun e w'=>e=.returned (.int .i64 (plE sd dt gr dr lim lr R))/\Below w.heap.size w w'
def CheckB:Prop:= ∀(side:Int) (pb:Option Addr) (lb cb:Nat) (B:Nat->Nat) (pw:Option Addr) (lw cw:Nat) (W:Nat->Int) (pt:Option Addr) (lt ct:Nat) (T:Nat->Int) (ps:Option Addr) (ls cs:Nat) (S:Nat->Nat) (sky st:Int) (w:World),Sh.W64 side->Sh.W64 sky->Sh.W64 st->(lb<=281474976710656/\lw<=281474976710656/\lt<=281474976710656/\ls<=281474976710656)->IsFl w pb lb B->Sh.IsI w pw lw W->Sh.IsI w pt lt T->IsFl w ps ls S->
 Calls prog 12 #[.int .i64 side,.agg #[.slice pb lb cb,.slice pw lw cw,.slice pt lt ct,.slice ps ls cs,.int .i64 sky,.int .i64 st]] w fun e w'=>e=.returned (.tuple #[.int .i64 (chk side lb lw lt ls B W T S sky st).1,.int .i64 (chk side lb lw lt ls B W T S sky st).2])/\Below w.heap.size w w'
theorem rB_ok{m:Nat}{r:Int × Int × Int × Int}(h:rB (m:Int) r=true):Rn.okR m r:=by
 unfold rB at h
 simp only[Bool.and_eq_true,decide_eq_true_eq]at h
 unfold Rn.okR
 omega
theorem xA{sd:Int}{dt gr dr:Nat}{lim:Int}{lr:Nat}{R:Nat->Int × Int × Int × Int}(h:plE sd dt gr dr lim lr R=0):(1<=sd/\sd<=32)/\lr<=1024/\ ∀k,k<lr->Rn.okR (6*sd.toNat*sd.toNat) (R k):=by
 unfold plE at h
 by_cases a:1<=sd/\sd<=32
 ·rw[if_neg (fun q=>q a)]at h
  split at h
  ·exact absurd h (by decide)
  ·by_cases c:lr<=1024/\ ∀k,k<lr->rB ((6*sd.toNat*sd.toNat:Nat):Int) (R k)=true
   ·exact⟨a,c.1,fun k hk=>rB_ok (c.2 k hk)⟩
   ·rw[if_pos c]at h
    exact absurd h (by decide)
 ·rw[if_pos a]at h
  exact absurd h (by decide)
theorem chk_ok{side:Int}{lb lw lt ls:Nat}{B:Nat->Nat}{W T:Nat->Int}{S:Nat->Nat}{sky st:Int}(c:(chk side lb lw lt ls B W T S sky st).2=0):(1<=side/\side<=32)/\(lb=6*side.toNat*side.toNat/\lw=6*side.toNat*side.toNat/\lt=6*side.toNat*side.toNat/\ls=2*(6*side.toNat*side.toNat))/\okN (6*side.toNat*side.toNat) B W T S sky st:=by
 unfold chk at c
 by_cases q:1<=side/\side<=32
 ·rw[if_pos q]at c
  obtain⟨a,b⟩:=chN_ok.1 c
  exact⟨q,a,b⟩
 ·rw[if_neg q]at c
  exact absurd c (by decide)
theorem er_ok{n:Nat}{sd:Int}{dt gr dr:Nat}{lim:Int}{lr:Nat}{R:Nat->Int × Int × Int × Int}{lb lw lt ls:Nat}{B:Nat->Nat}{W T:Nat->Int}{S:Nat->Nat}{sky st:Int}(h:(erS n sd dt gr dr lim lr R lb lw lt ls B W T S sky st)=0)(hf:dt<18446744073709551616/\gr<18446744073709551616/\dr<18446744073709551616)(hB: ∀i,i<lb->B i<18446744073709551616)(hS: ∀i,i<ls->S i<18446744073709551616):
  sd=(n:Int)/\plE sd dt gr dr lim lr R=0/\(chk sd lb lw lt ls B W T S sky st).2=0/\(lb=6*n*n/\lw=6*n*n/\lt=6*n*n/\ls=12*n*n)/\okP n gr dt dr lr R/\okS n B W T S sky st:=by
 unfold erS at h
 by_cases a:sd=(n:Int)
 ·rw[if_neg (fun q=>q a)]at h
  by_cases b:plE sd dt gr dr lim lr R=0
  ·rw[if_neg (fun q=>q b)]at h
   obtain⟨p1,p2,p3⟩:=xA b
   obtain⟨-,s2,s3⟩:=chk_ok h
   have e2:2*(6*n*n)=12*n*n:=by rw[Nat.mul_assoc,Nat.mul_assoc];omega
   rw[a,Int.toNat_natCast]at p3 s2 s3
   rw[e2]at s2
   refine⟨a,b,h,s2,⟨by omega,⟨hf.2.1,hf.1,hf.2.2⟩,p2,p3⟩,s3,fun c hc=>hB c (by omega),fun e he=>hS e (by omega)⟩
  ·rw[if_pos b]at h
   exact absurd h b
 ·rw[if_pos a]at h
  exact absurd h (by decide)
theorem Ex{n:Nat}{sd:Int}{dt gr dr:Nat}{lim:Int}{lr:Nat}{R:Nat->Int × Int × Int × Int}{lb lw lt ls:Nat}{B:Nat->Nat}{W T:Nat->Int}{S:Nat->Nat}{sky st:Int}(a:sd=(n:Int))(b:plE sd dt gr dr lim lr R=0)(c:(chk sd lb lw lt ls B W T S sky st).2=0):(erS n sd dt gr dr lim lr R lb lw lt ls B W T S sky st)=0:=by
 unfold erS
 rw[if_neg (fun q=>q a),if_neg (fun q=>q b),c]
end St
end
section
open Go.RowKit Tf Cu Go.Deep
attribute [local go_sem] aK aL aP aQ aR aV aW aF
namespace St
open Ss Fc
theorem wh21(pa pb:Option Addr)(n ca m cb:Nat)(xs ys:Nat->Int)(w:World)(hn:n<=131072)(hm:m<=131072)(hA:Sh.IsI w pa n xs)(hB:Sh.IsI w pb m ys):
  Calls prog 22 #[.slice pa n ca,.slice pb m cb] w fun e w'=>e=.returned (.bool (eqL n m xs ys))/\Below w.heap.size w w':=by
 have HA:=hid hA
 have HB:=hid hB
 have HL:=hid (And.intro hn hm)
 clear hA hB hn hm
 by_cases hnm:n=m
 ·subst hnm
  have e1:((n:Int) != (n:Int))=false:=by simp
  go_enter func22,ntmps22
  go_wp2
  go_loopw [5] (fun iv wr=> ∃k:Nat,k<=n/\iv=.int .i64 (k:Nat)/\Ab w wr/\ ∀i,i<k->xs i=ys i) (fun iv _=>n - (intOf iv).toNat)
  case atStart=>exact⟨0,by omega,rfl,Ab.refl w,fun i hi=>absurd hi (Nat.not_lt_zero i)⟩
  case round=>
   obtain⟨k,hk,rfl,ar,g1⟩:=hrel
   have AR:=hid ar
   have G1:=hid g1
   clear ar g1
   by_cases hkn:k<n
   ·have HK:=hid hkn
    have kI:(k:Int)<n:=by omega
    have kB:(k:Int)<=131072:=by have:=HL.out;omega
    obtain⟨x,hx⟩:=aD (xs k)
    obtain⟨y,hy⟩:=aD (ys k)
    obtain⟨b1,o1,rfl⟩:=HA.out.some0 (show 0<n by omega)
    obtain⟨b2,o2,rfl⟩:=HB.out.some0 (show 0<n by omega)
    have X1:Hid (∀v,Ab wr v->v.cell? ⟨b1,o1+k,none⟩=some (.int .i64 x)):=fun v a=>by rw[<- hx];exact((HA.out.below (AR.out.trans a)).at0 hkn).2.2
    have X2:Hid (∀v,Ab wr v->v.cell? ⟨b2,o2+k,none⟩=some (.int .i64 y)):=fun v a=>by rw[<- hy];exact((HB.out.below (AR.out.trans a)).at0 hkn).2.2
    clear hkn hk
    by_cases q:x=y
    ·have d1:(x != y)=false:=by simp[q]
     have XE:Hid (xs k=ys k):=by show _=_;rw[hx,hy,q]
     clear hx hy q
     go_upto_region 6 with fail
     obtain⟨UU,E,hF1,hF2⟩:=cls wr
     have HU:=hid hF2
     have HU1:=hid hF1
     have y1: ∀u,(E u).cell? ⟨b1,o1+k,none⟩=some (.int .i64 x):=fun u=>X1.out _ (hF1 u)
     have y2: ∀u,(E u).cell? ⟨b2,o2+k,none⟩=some (.int .i64 y):=fun u=>X2.out _ (hF1 u)
     have DD0:=HU.out _ (Ab.refl wr).drew
     clear hF1 hF2
     refine aJ E (by kernel_rfl) (by kernel_rfl) DD0 ?_
     repeat(go_big_quiet_step (with_reducible rfl))
     refine wpQuiet_nil ?_
     intro z hwz
     obtain⟨u0,hu⟩:=hwz
     have A2:Hid (Ab wr z):=by rw[hu];exact HU1.out u0
     clear hu u0
     clear HU HU1 DD0 y1 y2
     clear E UU
     go_wp2
     refine⟨⟨k+1,by have:=HK.out;omega,by simp,AR.out.trans A2.out,fun i hi=> ?_⟩,by have:=HK.out;simp[intOf];omega⟩
     by_cases l:i<k
     ·exact G1.out i l
     ·obtain rfl:i=k:=by omega
      exact XE.out
    ·have d1:(x != y)=true:=by simp[q]
     have NE:Hid (eqL n n xs ys=false):=eqL_no HK.out (by rw[hx,hy];exact q)
     clear hx hy q
     go_upto_region 6 with fail
     obtain⟨UU,E,hF1,hF2⟩:=cls wr
     have HU:=hid hF2
     have HU1:=hid hF1
     have y1: ∀u,(E u).cell? ⟨b1,o1+k,none⟩=some (.int .i64 x):=fun u=>X1.out _ (hF1 u)
     have y2: ∀u,(E u).cell? ⟨b2,o2+k,none⟩=some (.int .i64 y):=fun u=>X2.out _ (hF1 u)
     have DD0:=HU.out _ (Ab.refl wr).drew
     clear hF1 hF2
     refine aJ E (by kernel_rfl) (by kernel_rfl) DD0 ?_
     repeat(go_big_quiet_step (with_reducible rfl))
     refine wpQuiet_nil ?_
     intro z hwz
     obtain⟨u0,hu⟩:=hwz
     have A2:Hid (Ab wr z):=by rw[hu];exact HU1.out u0
     clear hu u0
     clear HU HU1 DD0 y1 y2
     clear E UU
     go_wp2
     go_ret
     exact⟨by rw[NE.out];rfl,AR.out.trans A2.out⟩
   ·have e6:n=k:=by omega
    subst e6
    have E:Hid (eqL n n xs ys=true):=jH G1.out
    go_wp2
    go_ret
    exact⟨by rw[E.out];rfl,AR.out⟩
 ·have e1:((n:Int) != (m:Int))=true:=by simp;omega
  have E:Hid (eqL n m xs ys=false):=Ev hnm
  clear hnm
  go_enter func22,ntmps22
  go_wp2
  go_ret
  exact⟨by rw[E.out];rfl,Below.refl _ _⟩
theorem sam21_6(pb:Option Addr)(lb cb:Nat)(B:Nat->Nat)(pw:Option Addr)(lw cw:Nat)(W:Nat->Int)(pt:Option Addr)(lt ct:Nat)(T:Nat->Int)(ps:Option Addr)(ls cs:Nat)(S:Nat->Nat)(sky st:Int)(pb':Option Addr)(lb' cb':Nat)(B':Nat->Nat)(pw':Option Addr)(lw' cw':Nat)(W':Nat->Int)(pt':Option Addr)(lt' ct':Nat)(T':Nat->Int)(ps':Option Addr)(ls' cs':Nat)(S':Nat->Nat)(sky' st':Int)(w:World)(HL:Hid ((lb<=131072/\lw<=131072/\lt<=131072/\ls<=131072)/\(lb'<=131072/\lw'<=131072/\lt'<=131072/\ls'<=131072)))(I1:Hid (IsFl w pb lb B))(I2:Hid (Sh.IsI w pw lw W))(I3:Hid (Sh.IsI w pt lt T))(I4:Hid (IsFl w ps ls S))(J1:Hid (IsFl w pb' lb' B'))(J2:Hid (Sh.IsI w pw' lw' W'))(J3:Hid (Sh.IsI w pt' lt' T'))(J4:Hid (IsFl w ps' ls' S'))(h0:eqL lb lb' B B'=true)(h1:eqL lw lw' W W'=true)(h2:eqL lt lt' T T'=true)(h3:eqL ls ls' S S'=true)(h4:(sky==sky')=true)(h5:(st==st')=true):
  Calls prog 31 #[.agg #[.slice pb lb cb,.slice pw lw cw,.slice pt lt ct,.slice ps ls cs,.int .i64 sky,.int .i64 st],.agg #[.slice pb' lb' cb',.slice pw' lw' cw',.slice pt' lt' ct',.slice ps' ls' cs',.int .i64 sky',.int .i64 st']] w fun e w'=>e=.returned (.bool true)/\Below w.heap.size w w':=by
 have H0:=hid h0
 have H1:=hid h1
 have H2:=hid h2
 have H3:=hid h3
 clear h0 h1 h2 h3
 obtain⟨A0,R0,Q0⟩:=bJ w (.cells #[.slice pb lb cb,.slice pw lw cw,.slice pt lt ct,.slice ps ls cs,.int .i64 sky,.int .i64 st] 29) (.cells #[.slice pb' lb' cb',.slice pw' lw' cw',.slice pt' lt' ct',.slice ps' ls' cs',.int .i64 sky',.int .i64 st'] 29)
 go_enter func31,ntmps31
 go_upto_region 1 with fail
 generalize hW:World.alloc (World.alloc w _) _=v0 at*
 obtain⟨ga,hga⟩:=aD w.heap.size
 obtain⟨gq,hgq⟩:=aD (w.heap.size+1)
 rw[hgq]at Q0 ⊢
 rw[hga]at R0 ⊢
 clear hga hgq hW
 have x0:=aE R0.out
 have y0:=aE Q0.out
 have CC:=hid (rall20 pb pb' lb cb lb' cb' B B' v0 HL.out.1.1 HL.out.2.1 (I1.out.below A0.out) (J1.out.below A0.out))
 rw[H0.out]at CC
 go_wp2_with fail
 refine CC.out.mono ?_
 rintro e9 v1 ⟨rfl,k9⟩
 have B1:Hid (Ab v0 v1):=k9
 have A1:Hid (Ab w v1):=A0.out.trans B1.out
 clear k9 CC x0 y0
 have x0:=aE (B1.out.heap R0.out)
 have y0:=aE (B1.out.heap Q0.out)
 have CC:=hid (wh21 pw pw' lw cw lw' cw' W W' v1 HL.out.1.2.1 HL.out.2.2.1 (I2.out.below A1.out) (J2.out.below A1.out))
 rw[H1.out]at CC
 go_wp2_with fail
 refine CC.out.mono ?_
 rintro e9 v2 ⟨rfl,k9⟩
 have B2:Hid (Ab v0 v2):=B1.out.call k9
 have A2:Hid (Ab w v2):=A0.out.trans B2.out
 clear k9 CC x0 y0
 have x0:=aE (B2.out.heap R0.out)
 have y0:=aE (B2.out.heap Q0.out)
 have CC:=hid (wh21 pt pt' lt ct lt' ct' T T' v2 HL.out.1.2.2.1 HL.out.2.2.2.1 (I3.out.below A2.out) (J3.out.below A2.out))
 rw[H2.out]at CC
 go_wp2_with fail
 refine CC.out.mono ?_
 rintro e9 v3 ⟨rfl,k9⟩
 have B3:Hid (Ab v0 v3):=B2.out.call k9
 have A3:Hid (Ab w v3):=A0.out.trans B3.out
 clear k9 CC x0 y0
 have x0:=aE (B3.out.heap R0.out)
 have y0:=aE (B3.out.heap Q0.out)
 have CC:=hid (rall20 ps ps' ls cs ls' cs' S S' v3 HL.out.1.2.2.2 HL.out.2.2.2.2 (I4.out.below A3.out) (J4.out.below A3.out))
 rw[H3.out]at CC
 go_wp2_with fail
 refine CC.out.mono ?_
 rintro e9 v4 ⟨rfl,k9⟩
 have B4:Hid (Ab v0 v4):=B3.out.call k9
 have A4:Hid (Ab w v4):=A0.out.trans B4.out
 clear k9 CC x0 y0
 have x0:=aE (B4.out.heap R0.out)
 have y0:=aE (B4.out.heap Q0.out)
 go_wp2
 go_ret
 exact⟨rfl,A4.out⟩
theorem zN(pb:Option Addr)(lb cb:Nat)(B:Nat->Nat)(pw:Option Addr)(lw cw:Nat)(W:Nat->Int)(pt:Option Addr)(lt ct:Nat)(T:Nat->Int)(ps:Option Addr)(ls cs:Nat)(S:Nat->Nat)(sky st:Int)(pb':Option Addr)(lb' cb':Nat)(B':Nat->Nat)(pw':Option Addr)(lw' cw':Nat)(W':Nat->Int)(pt':Option Addr)(lt' ct':Nat)(T':Nat->Int)(ps':Option Addr)(ls' cs':Nat)(S':Nat->Nat)(sky' st':Int)(w:World)(hl:(lb<=131072/\lw<=131072/\lt<=131072/\ls<=131072))(hl':(lb'<=131072/\lw'<=131072/\lt'<=131072/\ls'<=131072))(i1:IsFl w pb lb B)(i2:Sh.IsI w pw lw W)(i3:Sh.IsI w pt lt T)(i4:IsFl w ps ls S)(j1:IsFl w pb' lb' B')(j2:Sh.IsI w pw' lw' W')(j3:Sh.IsI w pt' lt' T')(j4:IsFl w ps' ls' S')(he:eqS lb lw lt ls B W T S sky st lb' lw' lt' ls' B' W' T' S' sky' st'=true):
  Calls prog 31 #[.agg #[.slice pb lb cb,.slice pw lw cw,.slice pt lt ct,.slice ps ls cs,.int .i64 sky,.int .i64 st],.agg #[.slice pb' lb' cb',.slice pw' lw' cw',.slice pt' lt' ct',.slice ps' ls' cs',.int .i64 sky',.int .i64 st']] w fun e w'=>e=.returned (.bool (eqS lb lw lt ls B W T S sky st lb' lw' lt' ls' B' W' T' S' sky' st'))/\Below w.heap.size w w':=by
 rw[he]
 unfold eqS at he
 simp only[Bool.and_eq_true,decide_eq_true_eq]at he
 obtain⟨⟨⟨⟨⟨h0,h1⟩,h2⟩,h3⟩,h4⟩,h5⟩:=he
 exact sam21_6 pb lb cb B pw lw cw W pt lt ct T ps ls cs S sky st pb' lb' cb' B' pw' lw' cw' W' pt' lt' ct' T' ps' ls' cs' S' sky' st' w ⟨hl,hl'⟩ i1 i2 i3 i4 j1 j2 j3 j4 h0 h1 h2 h3 (by simp[h4]) (by simp[h5])
end St
end
section
open Tf Ieee
theorem mv_w20:mv 4697254411347427328=1048576*one:=by
 have h:=dJ 20 4697254411347427328 (by decide)
 have e:(2:Nat) ^ 20=1048576:=by decide
 rw[e]at h;exact h
theorem mv_w53:mv 4845873199050653696=9007199254740992*one:=by
 have h:=dJ 53 4845873199050653696 (by decide)
 have e:(2:Nat) ^ 53=9007199254740992:=by decide
 rw[e]at h;exact h
theorem sv_20{b:Nat}(h1:rk b<=4697254411347427328)(h2: -4697254411347427328<=rk b): -(1048576*(one:Int))<=sv b/\sv b<=1048576*(one:Int):=by
 have a:=(uO b 4697254411347427328).2 (by rw[show rk 4697254411347427328=4697254411347427328 by decide];exact h1)
 have c:=(uO 13920626448202203136 b).2 (by rw[show rk 13920626448202203136= -4697254411347427328 by decide];exact h2)
 have e1:sv 4697254411347427328=(mv 4697254411347427328:Nat):=uQ (by decide)
 have e2:sv 13920626448202203136= -((mv 4697254411347427328:Nat):Int):=by
  unfold sv
  rw[show ng 13920626448202203136=true by decide,show mg 13920626448202203136=4697254411347427328 by decide];rfl
 rw[e1,mv_w20]at a
 rw[e2,mv_w20]at c
 rw[Int.natCast_mul]at a c
 exact⟨c,a⟩
theorem rn_le{z:Bool}{v:Int}{r:Nat}(h:v.natAbs<=mv r)(hr:r<9218868437227405312):mg (rn z v)<=r/\mg (rn z v)<9218868437227405312/\sv (rn z v)=rd v:=by
 have a:rung 52 0 v.natAbs<=r:=rung_le2 (d:=0) (by rw[Nat.pow_zero,Nat.mul_one];exact h)
 have b:mg (rn z v)<=r:=by rw[yE];omega
 exact⟨b,by omega,rn_fin' z v (by omega)⟩
end
section
open Tf Cu
namespace St
open Ss Fc
theorem dp_52{w a:Int}(w2:w<=4503599627370496)(a2:a<=9223372036854775807):dpB w a<=4841369599423283200:=by
 by_cases h:w<1\/a<1
 ·rw[lB h];omega
 ·have e:dpB 4503599627370496 1=4841369599423283200:=by decide+kernel
  have m:=dp_mono (w:=w) (w':=4503599627370496) (a:=a) w2 (by omega) a2
  have n:=dp_anti (w:=4503599627370496) (a:=1) (a':=a) (by omega) (by omega) (by omega) a2
  omega
theorem lv_fin{b:Nat}{w a:Int}(hb:b<18446744073709551616)(h1:rk b<=4697254411347427328)(h2: -4697254411347427328<=rk b)(w2:w<=4503599627370496)(a2:a<=9223372036854775807):mg (lvl b w a)<9218868437227405312:=by
 have d:=dp_52 w2 a2
 have s1:=sv_20 h1 h2
 have mb:mg b<9218868437227405312:=by
  unfold rk at h1 h2
  cases q:ng b with
  | true=>rw[q,if_pos rfl]at h2;omega
  | false=>rw[q,if_neg (by decide)]at h1;omega
 have md:mg (dpB w a)=dpB w a:=bG (by omega)
 have s2:sv (dpB w a)=(mv (dpB w a):Nat):=uQ (by omega)
 have s3:mv (dpB w a)<=9007199254740992*one - 1048576*one:=by
  have k:mv (dpB w a)<=mv 4841369599423283200:=mK.2 d
  have e:mv 4841369599423283200=4503599627370496*one:=by
   have h:=dJ 52 4841369599423283200 (by decide)
   have e:(2:Nat) ^ 52=4503599627370496:=by decide
   rw[e]at h;exact h
  rw[e]at k
  generalize one=o at*
  omega
 unfold lvl
 rw[eM b _ hb (by omega) mb (by omega)]
 refine(rn_le (r:=4845873199050653696) ?_ (by omega)).2.1
 rw[mv_w53,s2]
 generalize one=o at*
 generalize mv (dpB w a)=m at*
 generalize sv b=v at*
 omega
section
variable {n G dt D lr:Nat} {lim:Int} {R:Nat->Int × Int × Int × Int} {B:Nat->Nat} {W T:Nat->Int} {S:Nat->Nat} {sky st:Int}
def rest(n:Nat)(B:Nat->Nat)(W:Nat->Int)(S:Nat->Nat):Prop:= ∀e,e<12*n*n->S e=0/\(opE n B W e=true->lvC n B W (eL n e)=lvC n B W (eR n e))
theorem lvC_fin(h:okS n B W T S sky st){c:Nat}(hc:c<6*n*n):mg (lvC n B W c)<9218868437227405312:=by
 have q:=(bB_iff (h.2.1 c hc)).1 (h.1.1 c hc)
 have w1:=oW h.1.2.2.1.1 hc
 have w2:=h.1.2.2.1.2
 have w3:=h.1.2.1.1
 exact lv_fin (h.2.1 c hc) q.2.1.2 q.2.1.1 (by omega) (cS n c).2
theorem Ey(hp:okP n G dt D lr R)(h:okS n B W T S sky st)(r:rest n B W S){e:Nat}(he:e<12*n*n):spE n G dt D B W S e=0:=by
 obtain⟨t1,t2,t3⟩:=bK hp.1.1 he
 have c1:eL n e<6*n*n:=aZ t1
 obtain⟨z,l⟩:=r e he
 unfold spE
 split
 ·rename_i o
  rw[<- l o,z]
  exact spB_rest G dt D _ _ _ hp.2.1.1 hp.2.1.2.1 (GpC_lt _ _ _) (by decide) (by decide) (lv_lt (n:=n) ((okS_B h).1 _ c1)) (lvC_fin h c1)
 ·rfl
theorem rest_wt(hp:okP n G dt D lr R)(h:okS n B W T S sky st)(r:rest n B W S){e:Nat}(he:e<12*n*n):wtF n lim G dt D B W S e=0:=by
 have k:=okS_B h
 unfold wtF flB
 rw[Ey hp h r he]
 exact qn_z1 (u:=0) (by decide) (lU hp.1.1 (fun i hi=>(k.1 i hi).1) (fun i hi=>(k.1 i hi).2) _ _).1 (sC _ _) hp.2.1.2.1 (by decide)
theorem og_0{F:Nat->Int}(hn:1<=n)(z: ∀e,e<12*n*n->F e=0){t:Nat}(ht:t<24*n*n):Sh.og n F t=0:=by
 unfold Sh.og
 rw[z _ (eV hn ht),Int.zero_mul]
 rfl
theorem qO(hp:okP n G dt D lr R)(h:okS n B W T S sky st)(r:rest n B W S){e:Nat}(he:e<12*n*n):waF n lim G dt D B W S e=0:=by
 obtain⟨t1,t2,t3⟩:=bK hp.1.1 he
 have m1:=cV hp.1.1 t1
 have z: ∀e,e<12*n*n->wtF n lim G dt D B W S e=0:=fun e he=>rest_wt hp h r he
 unfold waF Sh.allF
 rw[Sh.jE (h.1.2.2.1.1 _ (aZ t1)) (og_0 hp.1.1 z t1),Sh.jE (h.1.2.2.1.1 _ (aZ m1)) (og_0 hp.1.1 z m1)]
 rfl
theorem Ez(hp:okP n G dt D lr R)(h:okS n B W T S sky st)(r:rest n B W S){e:Nat}(he:e<12*n*n):trF n lim G dt D B W T S e=0:=by
 obtain⟨t1,t2,t3⟩:=bK hp.1.1 he
 have m1:=cV hp.1.1 t1
 have z: ∀e,e<12*n*n->waF n lim G dt D B W S e=0:=fun e he=>qO hp h r he
 unfold trF Tr.flF
 rw[Tr.gR (og_0 hp.1.1 z t1),Tr.gR (og_0 hp.1.1 z m1)]
 rfl
theorem mv_0{V F:Nat->Int}(hn:1<=n)(z: ∀e,e<12*n*n->F e=0){c:Nat}(hc:c<6*n*n):Ms.mv n V F c=V c:=by
 have k: ∀s,s<4->Ms.tk n F (4*c+s)=0:=fun s hs=>by
  unfold Ms.tk
  rw[z _ (eV hn (eU hc hs)),Int.mul_zero]
 unfold Ms.mv
 show V c - (0+Ms.tk n F (4*c+0)+Ms.tk n F (4*c+1)+Ms.tk n F (4*c+2)+Ms.tk n F (4*c+3))=_
 rw[k 0 (by omega),k 1 (by omega),k 2 (by omega),k 3 (by omega)]
 omega
theorem EA(hp:okP n G dt D lr R)(h:okS n B W T S sky st)(r:rest n B W S){c:Nat}(hc:c<6*n*n):mvW n lim G dt D B W S c=W c/\mvT n lim G dt D B W T S c=T c:=
 ⟨mv_0 hp.1.1 (fun _ he=>qO hp h r he) hc,mv_0 hp.1.1 (fun _ he=>Ez hp h r he) hc⟩
end
end St
end
section
open Tf Cu
namespace St
open Ss Fc
def w1(_:Nat):Int:=1431655765
def w2(i:Nat):Int:=if i=0 then 2863311530 else 1431655765
def sp2(e:Nat):Nat:=if e<4 then 4600040671590431692 else 0
def fl2(e:Nat):Int:=if e<4 then 438353264 else 0
theorem aw_sp: ∀e,e<12->spE 1 4607182418800017408 4602678819172646912 0 (fun _=>0) w2 (fun _=>0) e=sp2 e:=by decide+kernel
theorem aw_q: ∀e,e<12->qnB (sp2 e) (rdAll 1 0 6 6 (fun _=>0) w2 (e:Nat) (sp2 e)) (lnE 1 e) 4602678819172646912=fl2 e:=by decide+kernel
theorem aw_wt{e:Nat}(he:e<12):wtF 1 0 4607182418800017408 4602678819172646912 0 (fun _=>0) w2 (fun _=>0) e=fl2 e:=by
 unfold wtF flB
 rw[aw_sp e he]
 exact aw_q e he
theorem og_c{n:Nat}{F H:Nat->Int}(hn:1<=n)(z: ∀e,e<12*n*n->F e=H e){t:Nat}(ht:t<24*n*n):Sh.og n F t=Sh.og n H t:=by
 unfold Sh.og
 rw[z _ (eV hn ht)]
theorem all_c{n:Nat}{V F H:Nat->Int}(hn:1<=n)(z: ∀e,e<12*n*n->F e=H e){e:Nat}(he:e<12*n*n):Sh.allF n V F e=Sh.allF n V H e:=by
 obtain⟨t1,t2,t3⟩:=bK hn he
 have m1:=cV hn t1
 have ct: ∀t,t<24*n*n->Sh.ct n V F t=Sh.ct n V H t:=fun t ht=>by
  unfold Sh.ct Sh.oS
  rw[og_c hn z ht]
  congr 1
  exact Sh.cQ (fun s hs=>og_c hn z (eU (aZ ht) hs))
 unfold Sh.allF
 rw[ct _ t1,ct _ m1]
theorem aw_mv:(∀c,c<6->Ms.mv 1 w2 (Sh.allF 1 w2 fl2) c=if c=0 then 1109898474 else if c=2 then 1431655765 else 1870009029):=by decide+kernel
theorem Ce{c:Nat}(hc:c<6):mvW 1 0 4607182418800017408 4602678819172646912 0 (fun _=>0) w2 (fun _=>0) c=if c=0 then 1109898474 else if c=2 then 1431655765 else 1870009029:=by
 rw[<- aw_mv c hc]
 exact Ms.nK (n:=1) (by decide) hc rfl (fun i hi=>all_c (n:=1) (by decide) (fun e he=>aw_wt he) hi)
theorem aw_fgt:fgt 4600040671590431692 0=true:=by decide
theorem aw_ar: ∀c,c<6->arC 1 c=1431655765:=by decide+kernel
end St
end
section
open Go.RowKit Tf Cu Go.Deep
attribute [local go_sem] aK aL aP aQ aR aV aW aF
namespace St
open Ss Fc
theorem row7{w:World}{g:Nat}{a b c d e f h x y z p q r s:Value}{T:TypeId}(k:w.heap[g]? =some (.cells #[a,b,c,d,e,f,h] T)):
  (((((((w.setCell ⟨g,0,none⟩ x).setCell ⟨g,1,none⟩ y).setCell ⟨g,2,none⟩ z).setCell ⟨g,3,none⟩ p).setCell ⟨g,4,none⟩ q).setCell ⟨g,5,none⟩ r).setCell ⟨g,6,none⟩ s).heap[g]? =some (.cells #[x,y,z,p,q,r,s] T):=by
 have h1:=aM (v:=x) (k:=0) k
 have h2:=aM (v:=y) (k:=1) h1
 have h3:=aM (v:=z) (k:=2) h2
 have h4:=aM (v:=p) (k:=3) h3
 have h5:=aM (v:=q) (k:=4) h4
 have h6:=aM (v:=r) (k:=5) h5
 have h7:=aM (v:=s) (k:=6) h6
 simpa using h7
theorem zO:(Tryz.prog.info? 22).map (fun i=>(i.zero,i.size,i.bytes))=some (some (.float .f64 0),1,8):=by kernel_rfl
theorem Gk{gb:Nat}(w:World)(g:GridOf 1 gb w):
  Calls prog 38 #[.pointer (some ⟨gb,0,none⟩)] w fun e w'=> ∃b1 b2 b3 b4,e=.returned (.agg #[.slice (some ⟨b1,0,none⟩) 6 6,.slice (some ⟨b2,0,none⟩) 6 6,.slice (some ⟨b3,0,none⟩) 6 6,.slice (some ⟨b4,0,none⟩) 12 12,.int .i64 0,.int .i64 0])/\Below w.heap.size w w'/\(w'.rowIs b1 22 6 (fun _=>.float .f64 0)/\w'.rowIs b2 2 6 (fun i=>.int .i64 (w1 i))/\w'.rowIs b3 2 6 (fun _=>.int .i64 0)/\w'.rowIs b4 22 12 (fun _=>.float .f64 0))/\(w.heap.size<=b1/\w.heap.size<=b2/\w.heap.size<=b3/\w.heap.size<=b4)/\b1≠b2/\b1≠b3/\b1≠b4/\b2≠b3/\b2≠b4/\b3≠b4:=by
 have GA:Hid (∀v (c:Nat),Ab w v->c<6->Calls prog 88 #[.pointer (some ⟨gb,0,none⟩),.int .i64 (c:Nat)] v fun e w'=>e=.returned (.int .i64 1431655765)/\Below v.heap.size v w'):=fun v c a hc=>(eO (n:=1) (by omega) (by omega) (g.to a)).mono fun e w' h=>⟨by rw[h.1];have:=aw_ar c hc;unfold arC at this;rw[this],h.2⟩
 have M1: ∀v:World,(Instr.makeSlice 26 (.int .i64 6) (.int .i64 6)).run prog v=.ok (.slice (some ⟨v.heap.size,0,none⟩) 6 6) (v.alloc (Obj.cells (madeCells #[.float .f64 0] 6) 22)):=fun v=>by
  have h:=run_make_row' (P:=prog) 26 22 (.float .f64 0) 8 underlying26 zO rfl .i64 .i64 6 (by omega) (by omega) v
  simpa using h
 have M2: ∀v:World,(Instr.makeSlice 27 (.int .i64 6) (.int .i64 6)).run prog v=.ok (.slice (some ⟨v.heap.size,0,none⟩) 6 6) (v.alloc (Obj.cells (madeCells #[.int .i64 0] 6) 2)):=fun v=>by
  have h:=run_make_row' (P:=prog) 27 2 (.int .i64 0) 8 underlying27 Sh.dV rfl .i64 .i64 6 (by omega) (by omega) v
  simpa using h
 have M4: ∀v:World,(Instr.makeSlice 26 (.int .i64 12) (.int .i64 12)).run prog v=.ok (.slice (some ⟨v.heap.size,0,none⟩) 12 12) (v.alloc (Obj.cells (madeCells #[.float .f64 0] 12) 22)):=fun v=>by
  have h:=run_make_row' (P:=prog) 26 22 (.float .f64 0) 8 underlying26 zO rfl .i64 .i64 12 (by omega) (by omega) v
  simpa using h
 have AL: ∀v:World,(Instr.alloc 29 true (.tuple #[])).run prog v=.ok (.pointer (some ⟨v.heap.size,0,none⟩)) (v.alloc (.cells #[.slice none 0 0,.slice none 0 0,.slice none 0 0,.slice none 0 0,.int .i64 0,.int .i64 0] 29)):=fun v=>by
  simp[go_sem]
 obtain⟨A0,Q0⟩:=aO w (.cells #[.slice none 0 0,.slice none 0 0,.slice none 0 0,.slice none 0 0,.int .i64 0,.int .i64 0] 29)
 clear g
 go_enter func38,ntmps38
 go_upto_region 1 with fail
 generalize hW:World.alloc w _=V0 at*
 obtain⟨gr,hgr⟩:=aD w.heap.size
 have HG:Hid (w.heap.size<=gr):=by show _<=_;omega
 rw[hgr]at Q0 ⊢
 clear hgr hW
 go_cut [3]from 5 to 9 (fun s3 wx=> ∃g5 b1 b2 b3 b4,s3=.pointer (some ⟨g5,0,none⟩)/\Ab V0 wx/\wx.heap[g5]? =some (.cells #[.slice (some ⟨b1,0,none⟩) 6 6,.slice (some ⟨b2,0,none⟩) 6 6,.slice (some ⟨b3,0,none⟩) 6 6,.slice (some ⟨b4,0,none⟩) 12 12,.int .i64 0,.int .i64 0] 29)/\wx.heap[b1]? =some (Obj.cells (madeCells #[.float .f64 0] 6) 22)/\wx.heap[b2]? =some (Obj.cells (madeCells #[.int .i64 0] 6) 2)/\wx.heap[b3]? =some (Obj.cells (madeCells #[.int .i64 0] 6) 2)/\wx.heap[b4]? =some (Obj.cells (madeCells #[.float .f64 0] 12) 22)/\(V0.heap.size<=b1/\V0.heap.size<=b2/\V0.heap.size<=b3/\V0.heap.size<=b4/\V0.heap.size<=g5)/\(b1≠b2/\b1≠b3/\b1≠b4/\b2≠b3/\b2≠b4/\b3≠b4)/\(b1≠g5/\b2≠g5/\b3≠g5/\b4≠g5))
 case first=>
  obtain⟨UU,E,hF1,hF2⟩:=cls V0.drew
  have HU:=hid hF2
  clear hF1 hF2
  refine Cf.kO 6 (fun k=>if k=0 then some ((Obj.cells (madeCells #[.float .f64 0] 6) 22),fun b=>.slice (some ⟨b,0,none⟩) 6 6)else if k=1 then some ((Obj.cells (madeCells #[.int .i64 0] 6) 2),fun b=>.slice (some ⟨b,0,none⟩) 6 6)else if k=2 then some ((Obj.cells (madeCells #[.int .i64 0] 6) 2),fun b=>.slice (some ⟨b,0,none⟩) 6 6)else if k=3 then some ((Obj.cells (madeCells #[.float .f64 0] 12) 22),fun b=>.slice (some ⟨b,0,none⟩) 12 12)else if k=5 then some ((.cells #[.slice none 0 0,.slice none 0 0,.slice none 0 0,.slice none 0 0,.int .i64 0,.int .i64 0] 29),fun b=>.pointer (some ⟨b,0,none⟩))else none) (by kernel_rfl) (by kernel_rfl) (by kernel_rfl) ?_
  simp only[List.take_succ_cons,List.take_zero]
  refine Cf.dW (ob:=(Obj.cells (madeCells #[.float .f64 0] 6) 22)) (mk:=fun b=>.slice (some ⟨b,0,none⟩) 6 6) (by rfl) (by kernel_rfl) ?_ ?_
  ·refine Cf.jL (nH (vx:=.int .i64 6) (vy:=.int .i64 6) (ob:=(Obj.cells (madeCells #[.float .f64 0] 6) 22)) (mk:=fun b=>.slice (some ⟨b,0,none⟩) 6 6) rfl ?_ ?_ ?_)
   ·rfl
   ·rfl
   ·exact M1
  intro b1 fb1
  simp only[Act.put,List.setIfInBounds_toArray,List.set_cons_succ,List.set_cons_zero]
  refine Cf.dW (ob:=(Obj.cells (madeCells #[.int .i64 0] 6) 2)) (mk:=fun b=>.slice (some ⟨b,0,none⟩) 6 6) (by rfl) (by kernel_rfl) ?_ ?_
  ·refine Cf.jL (nH (vx:=.int .i64 6) (vy:=.int .i64 6) (ob:=(Obj.cells (madeCells #[.int .i64 0] 6) 2)) (mk:=fun b=>.slice (some ⟨b,0,none⟩) 6 6) rfl ?_ ?_ ?_)
   ·rfl
   ·rfl
   ·exact M2
  intro b2 fb2
  simp only[Act.put,List.setIfInBounds_toArray,List.set_cons_succ,List.set_cons_zero]
  refine Cf.dW (ob:=(Obj.cells (madeCells #[.int .i64 0] 6) 2)) (mk:=fun b=>.slice (some ⟨b,0,none⟩) 6 6) (by rfl) (by kernel_rfl) ?_ ?_
  ·refine Cf.jL (nH (vx:=.int .i64 6) (vy:=.int .i64 6) (ob:=(Obj.cells (madeCells #[.int .i64 0] 6) 2)) (mk:=fun b=>.slice (some ⟨b,0,none⟩) 6 6) rfl ?_ ?_ ?_)
   ·rfl
   ·rfl
   ·exact M2
  intro b3 fb3
  simp only[Act.put,List.setIfInBounds_toArray,List.set_cons_succ,List.set_cons_zero]
  refine Cf.dW (ob:=(Obj.cells (madeCells #[.float .f64 0] 12) 22)) (mk:=fun b=>.slice (some ⟨b,0,none⟩) 12 12) (by rfl) (by kernel_rfl) ?_ ?_
  ·refine Cf.jL (nH (vx:=.int .i64 12) (vy:=.int .i64 12) (ob:=(Obj.cells (madeCells #[.float .f64 0] 12) 22)) (mk:=fun b=>.slice (some ⟨b,0,none⟩) 12 12) rfl ?_ ?_ ?_)
   ·rfl
   ·rfl
   ·exact M4
  intro b4 fb4
  simp only[Act.put,List.setIfInBounds_toArray,List.set_cons_succ,List.set_cons_zero]
  refine Cf.dP HU (by rfl) (by rfl) ?_
  go_big_quiet_step (with_reducible rfl)
  refine wpQuiet_nil ?_
  refine Cf.dW (ob:=(.cells #[.slice none 0 0,.slice none 0 0,.slice none 0 0,.slice none 0 0,.int .i64 0,.int .i64 0] 29)) (mk:=fun b=>.pointer (some ⟨b,0,none⟩)) (by rfl) (by kernel_rfl) ?_ ?_
  ·refine Cf.jL (FY (ob:=(.cells #[.slice none 0 0,.slice none 0 0,.slice none 0 0,.slice none 0 0,.int .i64 0,.int .i64 0] 29)) (mk:=fun b=>.pointer (some ⟨b,0,none⟩)) rfl ?_)
   exact AL
  intro g5 fg5
  simp only[Act.put,List.setIfInBounds_toArray,List.set_cons_succ,List.set_cons_zero]
  refine Cf.lV ?_
  intro wz hz
  have h1:=hz.at (i:=0) (b:=b1) (ob:=(Obj.cells (madeCells #[.float .f64 0] 6) 22)) (by rfl) (by rfl)
  have h2:=hz.at (i:=1) (b:=b2) (ob:=(Obj.cells (madeCells #[.int .i64 0] 6) 2)) (by rfl) (by rfl)
  have h3:=hz.at (i:=2) (b:=b3) (ob:=(Obj.cells (madeCells #[.int .i64 0] 6) 2)) (by rfl) (by rfl)
  have h4:=hz.at (i:=3) (b:=b4) (ob:=(Obj.cells (madeCells #[.float .f64 0] 12) 22)) (by rfl) (by rfl)
  have h5:=hz.at (i:=5) (b:=g5) (ob:=(.cells #[.slice none 0 0,.slice none 0 0,.slice none 0 0,.slice none 0 0,.int .i64 0,.int .i64 0] 29)) (by rfl) (by rfl)
  have n12:b1≠b2:=fb2.2 0 b1 (by rfl)
  have n13:b1≠b3:=fb3.2 0 b1 (by rfl)
  have n14:b1≠b4:=fb4.2 0 b1 (by rfl)
  have n15:b1≠g5:=fg5.2 0 b1 (by rfl)
  have n23:b2≠b3:=fb3.2 1 b2 (by rfl)
  have n24:b2≠b4:=fb4.2 1 b2 (by rfl)
  have n25:b2≠g5:=fg5.2 1 b2 (by rfl)
  have n34:b3≠b4:=fb4.2 2 b3 (by rfl)
  have n35:b3≠g5:=fg5.2 2 b3 (by rfl)
  have n45:b4≠g5:=fg5.2 3 b4 (by rfl)
  have AZ:Ab V0 wz:=(Ab.refl V0).drew.trans hz.1
  have RZ:=hid h5.1
  have HH:=hid (And.intro h1 (And.intro h2 (And.intro h3 (And.intro h4 h5))))
  have NN:=hid (And.intro (And.intro n12 (And.intro n13 (And.intro n14 (And.intro n23 (And.intro n24 n34))))) (And.intro n15 (And.intro n25 (And.intro n35 n45))))
  have HAZ:=hid AZ
  clear hz fb1 fb2 fb3 fb4 fg5 h1 h2 h3 h4 h5 n12 n13 n14 n15 n23 n24 n25 n34 n35 n45 AZ HU
  clear E UU
  have t0:=aE RZ.out
  have f0:=iE RZ.out
  simp only[List.drop_succ_cons,List.drop_zero]
  go_wp2_with fail
  go_meet
  obtain⟨⟨k1,l1⟩,⟨k2,l2⟩,⟨k3,l3⟩,⟨k4,l4⟩,⟨k5,l5⟩⟩:=HH.out
  have st_: ∀(b:Nat) (o:Obj),b≠g5->wz.heap[b]? =some o-> ∀x0 x1 x2 x3 x4 x5,((((((wz.setCell ⟨g5,0,none⟩ x0).setCell ⟨g5,1,none⟩ x1).setCell ⟨g5,2,none⟩ x2).setCell ⟨g5,3,none⟩ x3).setCell ⟨g5,4,none⟩ x4).setCell ⟨g5,5,none⟩ x5).heap[b]? =some o:=fun b o hb h x0 x1 x2 x3 x4 x5=>by
   rw[bH hb,bH hb,bH hb,bH hb,bH hb,bH hb]
   exact h
  refine⟨g5,b1,b2,b3,b4,rfl,?_,row6 k5,st_ b1 _ NN.out.2.1 k1 _ _ _ _ _ _,st_ b2 _ NN.out.2.2.1 k2 _ _ _ _ _ _,st_ b3 _ NN.out.2.2.2.1 k3 _ _ _ _ _ _,st_ b4 _ NN.out.2.2.2.2 k4 _ _ _ _ _ _,⟨l1,l2,l3,l4,l5⟩,NN.out.1,NN.out.2⟩
  exact(((((HAZ.out.setk l5 _).setk l5 _).setk l5 _).setk l5 _).setk l5 _).setk l5 _
 case rest=>
  obtain⟨g5,b1,b2,b3,b4,rfl,a3,r5,m1',m2',m3,m4,hl,hne,hng⟩:=hcut
  rename World=>v3
  have A3:Hid (Ab V0 v3):=a3
  have R5:=hid r5
  have N1:Hid (v3.rowIs b1 22 6 (fun _=>.float .f64 0)):=kG m1'
  have N2:Hid (v3.rowIs b2 2 6 (fun _=>.int .i64 0)):=kG m2'
  have N3:Hid (v3.rowIs b3 2 6 (fun _=>.int .i64 0)):=kG m3
  have N4:Hid (v3.rowIs b4 22 12 (fun _=>.float .f64 0)):=kG m4
  have LL:=hid hl
  have NN:=hid hne
  have NG:=hid hng
  clear a3 r5 m1' m2' m3 m4 hl hne hng M1 M2 M4 AL
  go_wp2
  go_loopw [4] (fun iv wr=> ∃(k:Nat),k<=6/\iv=.int .i64 (k:Nat)/\Ab V0 wr/\wr.heap[g5]? =some (.cells #[.slice (some ⟨b1,0,none⟩) 6 6,.slice (some ⟨b2,0,none⟩) 6 6,.slice (some ⟨b3,0,none⟩) 6 6,.slice (some ⟨b4,0,none⟩) 12 12,.int .i64 0,.int .i64 0] 29)/\wr.rowIs b1 22 6 (fun _=>.float .f64 0)/\wr.rowIs b2 2 6 (fun i=>.int .i64 (if i<k then 1431655765 else 0))/\wr.rowIs b3 2 6 (fun _=>.int .i64 0)/\wr.rowIs b4 22 12 (fun _=>.float .f64 0)) (fun iv _=>6 - (intOf iv).toNat)
  case atStart=>exact⟨0,by omega,rfl,A3.out,R5.out,N1.out,N2.out.congr (fun i _=>by simp),N3.out,N4.out⟩
  case round=>
   obtain⟨k,hk,rfl,ar',h5,r1,r2,r3,r4⟩:=hrel
   have AW:=hid ar'
   have H5:=hid h5
   have P1:=hid r1
   have P2:=hid r2
   have P3:=hid r3
   have P4:=hid r4
   clear ar' h5 r1 r2 r3 r4 N1 N2 N3 N4 R5 A3
   by_cases hkn:k<6
   ·have HK:=hid hkn
    have kI:(k:Int)<6:=by omega
    have CA:Hid (∀v,Ab wr v->Calls prog 88 #[.pointer (some ⟨gb,0,none⟩),.int .i64 (k:Nat)] v fun e w'=>e=.returned (.int .i64 1431655765)/\Below v.heap.size v w'):=fun v a=>GA.out v k (A0.out.trans (AW.out.trans a)) hkn
    clear hkn hk
    go_upto_region 5 with fail
    obtain⟨UU,E,hF1,hF2⟩:=cls wr
    have HU:=hid hF2
    have HU1:=hid hF1
    have y0: ∀u,(E u).cell? ⟨g5,1,none⟩=some (.slice (some ⟨b2,0,none⟩) 6 6):=fun u=>aA 1 ((hF1 u).heap H5.out)
    have DD0:=HU.out _ (Ab.refl wr).drew
    clear hF1 hF2
    refine cM 7 E (by kernel_rfl) (by kernel_rfl) (by kernel_rfl) DD0 ?_
    simp only[List.take_succ_cons,List.take_zero,List.drop_succ_cons,List.drop_zero]
    repeat(go_big_quiet_step (first | (go_at_call 88;exact aH HU HU1 (CA.out _ (HU1.out _))) | (with_reducible rfl)))
    refine wpQuiet_nil ?_
    intro z hwz
    obtain⟨u0,hu⟩:=hwz
    have AZ:Hid (Ab wr z):=by rw[hu];exact HU1.out u0
    clear hu u0
    clear HU HU1 DD0 y0
    clear E UU
    have z1:=(rowIs.ab P2.out AZ.out).cell HK.out
    have z2:=(rowIs.ab P2.out AZ.out).frozen k
    go_wp2_with fail
    refine⟨⟨k+1,by have:=HK.out;omega,by simp,(AW.out.trans AZ.out).setk LL.out.2.1 _,(bH (Ne.symm NG.out.2.1)).trans (Ab.heap AZ.out H5.out),(rowIs.ab P1.out AZ.out).setOther (a:=⟨b2,k,none⟩) NN.out.1 _,((rowIs.ab P2.out AZ.out).set k _).congr (fun i _=> ?_),(rowIs.ab P3.out AZ.out).setOther (a:=⟨b2,k,none⟩) (Ne.symm NN.out.2.2.2.1) _,(rowIs.ab P4.out AZ.out).setOther (a:=⟨b2,k,none⟩) (Ne.symm NN.out.2.2.2.2.1) _⟩,by have:=HK.out;simp[intOf];omega⟩
    by_cases e:i=k
    ·subst e;simp
    ·have e2:(i<k+1) ↔ i<k:=by omega
     simp[e,e2]
   ·have e6:k=6:=by omega
    subst e6
    have QW:Hid (wr.heap[gr]? =some (.cells #[.slice none 0 0,.slice none 0 0,.slice none 0 0,.slice none 0 0,.int .i64 0,.int .i64 0] 29)):=Ab.heap AW.out Q0.out
    have GL:Hid (gr<V0.heap.size):=Rv.aX Q0.out
    clear hkn hk
    have o0:=aE H5.out
    have t0:=aE QW.out
    have f0:=iE QW.out
    go_wp2_with fail
    have RY:=hid (row6 (x:=.slice (some ⟨b1,0,none⟩) 6 6) (y:=.slice (some ⟨b2,0,none⟩) 6 6) (z:=.slice (some ⟨b3,0,none⟩) 6 6) (p:=.slice (some ⟨b4,0,none⟩) 12 12) (q:=.int .i64 0) (r:=.int .i64 0) QW.out)
    (try simp only[Exit.inBlock,Exit.then])
    refine bodyPost_ret (v:=.agg #[.slice (some ⟨b1,0,none⟩) 6 6,.slice (some ⟨b2,0,none⟩) 6 6,.slice (some ⟨b3,0,none⟩) 6 6,.slice (some ⟨b4,0,none⟩) 12 12,.int .i64 0,.int .i64 0]) ?_ rfl ?_
    ·exact results_cell_row results38 _ _ gr _ _ (0,0) _ rfl RY.out underlying29 rfl (by kernel_rfl)
    obtain⟨l1,l2,l3,l4,l5⟩:=LL.out
    obtain⟨n12,n13,n14,n23,n24,n34⟩:=NN.out
    have gl:=GL.out
    have hg:=HG.out
    have hs:=A0.out.size
    have st_: ∀(b n:Nat) (t:TypeId) (f:Nat->Value),b≠gr->wr.rowIs b t n f-> ∀x0 x1 x2 x3 x4 x5,((((((wr.setCell ⟨gr,0,none⟩ x0).setCell ⟨gr,1,none⟩ x1).setCell ⟨gr,2,none⟩ x2).setCell ⟨gr,3,none⟩ x3).setCell ⟨gr,4,none⟩ x4).setCell ⟨gr,5,none⟩ x5).rowIs b t n f:=fun b n t f hb h x0 x1 x2 x3 x4 x5=>(((((h.setOther (a:=⟨gr,0,none⟩) hb x0).setOther (a:=⟨gr,1,none⟩) hb x1).setOther (a:=⟨gr,2,none⟩) hb x2).setOther (a:=⟨gr,3,none⟩) hb x3).setOther (a:=⟨gr,4,none⟩) hb x4).setOther (a:=⟨gr,5,none⟩) hb x5
    exact⟨b1,b2,b3,b4,rfl,(((((((A0.out.trans AW.out).setk hg _).setk hg _).setk hg _).setk hg _).setk hg _).setk hg _),⟨st_ b1 _ _ _ (by omega) P1.out _ _ _ _ _ _,(st_ b2 _ _ _ (by omega) P2.out _ _ _ _ _ _).congr (fun i hi=>by simp[hi,w1]),st_ b3 _ _ _ (by omega) P3.out _ _ _ _ _ _,st_ b4 _ _ _ (by omega) P4.out _ _ _ _ _ _⟩,⟨by omega,by omega,by omega,by omega⟩,n12,n13,n14,n23,n24,n34⟩
theorem Ch(w:World):
  Calls prog 39 #[] w fun e w'=>e=.returned (.agg #[.int .i64 1,.float .f64 4602678819172646912,.float .f64 4607182418800017408,.float .f64 0,.int .i64 0,.bool false,.slice none 0 0])/\Below w.heap.size w w':=by
 obtain⟨A0,Q0⟩:=aO w (.cells #[.int .i64 0,.float .f64 0,.float .f64 0,.float .f64 0,.int .i64 0,.bool false,.slice none 0 0] 25)
 go_enter func39,ntmps39
 go_upto_region 1 with fail
 generalize hW:World.alloc w _=V0 at*
 obtain⟨gr,hgr⟩:=aD w.heap.size
 have HG:Hid (w.heap.size<=gr):=by show _<=_;omega
 rw[hgr]at Q0 ⊢
 clear hgr hW
 have t0:=aN Q0.out
 have f0:=aG Q0.out 0
 have f1:=aG Q0.out 1
 have f2:=aG Q0.out 2
 have f3:=aG Q0.out 3
 have f4:=aG Q0.out 4
 have f5:=aG Q0.out 5
 have f6:=aG Q0.out 6
 go_wp2_with fail
 refine bodyPost_ret (v:=.agg #[.int .i64 1,.float .f64 4602678819172646912,.float .f64 4607182418800017408,.float .f64 0,.int .i64 0,.bool false,.slice none 0 0]) ?_ rfl ?_
 ·exact results_cell_row results39 _ _ gr _ _ (0,0) _ rfl (row7 Q0.out) underlying25 rfl (by kernel_rfl)
 ·have hg:=HG.out
  exact⟨rfl,((((((A0.out.setk hg _).setk hg _).setk hg _).setk hg _).setk hg _).setk hg _).setk hg _⟩
theorem good21_0(sd:Int)(dt gr dr:Nat)(lim:Int)(rv:Bool)(pr:Option Addr)(lr cr:Nat)(pb:Option Addr)(lb cb:Nat)(pw:Option Addr)(lw cw:Nat)(pt:Option Addr)(lt ct:Nat)(ps:Option Addr)(ls cs:Nat)(sky st:Int)(pe:Int)(w:World)(h0:(pe != 0)=true)
  (CP:Hid (∀v,Ab w v->Calls prog 11 #[.agg #[.int .i64 sd,.float .f64 dt,.float .f64 gr,.float .f64 dr,.int .i64 lim,.bool rv,.slice pr lr cr]] v fun e w'=>e=.returned (.int .i64 pe)/\Below v.heap.size v w')):
  Calls prog 10 #[.agg #[.int .i64 sd,.float .f64 dt,.float .f64 gr,.float .f64 dr,.int .i64 lim,.bool rv,.slice pr lr cr],.agg #[.slice pb lb cb,.slice pw lw cw,.slice pt lt ct,.slice ps ls cs,.int .i64 sky,.int .i64 st]] w fun e w'=>e=.returned (.tuple #[.pointer none,.bool false])/\Below w.heap.size w w':=by
 obtain⟨A0,R0,Q0⟩:=bJ w (.cells #[.int .i64 sd,.float .f64 dt,.float .f64 gr,.float .f64 dr,.int .i64 lim,.bool rv,.slice pr lr cr] 25) (.cells #[.slice pb lb cb,.slice pw lw cw,.slice pt lt ct,.slice ps ls cs,.int .i64 sky,.int .i64 st] 29)
 go_enter func10,ntmps10
 go_upto_region 1 with fail
 generalize hW:World.alloc (World.alloc w _) _=V0 at*
 obtain⟨ga,hga⟩:=aD w.heap.size
 obtain⟨gq,hgq⟩:=aD (w.heap.size+1)
 rw[hgq]at Q0 ⊢
 rw[hga]at R0 ⊢
 clear hga hgq hW
 have x0:=aN R0.out
 go_wp2_with fail
 refine(CP.out V0 A0.out).mono ?_
 rintro e9 v1 ⟨rfl,b1⟩
 have A1:Hid (Ab w v1):=A0.out.trans b1
 have R1:=hid (Ab.heap b1 R0.out)
 have Q1:=hid (Ab.heap b1 Q0.out)
 clear b1 x0
 go_wp2
 go_ret2
 exact⟨rfl,A1.out⟩
theorem good21_1(sd:Int)(dt gr dr:Nat)(lim:Int)(rv:Bool)(pr:Option Addr)(lr cr:Nat)(pb:Option Addr)(lb cb:Nat)(pw:Option Addr)(lw cw:Nat)(pt:Option Addr)(lt ct:Nat)(ps:Option Addr)(ls cs:Nat)(sky st:Int)(pe:Int)(ca ce:Int)(w:World)(h0:(pe != 0)=false)(h1:(ce != 0)=true)
  (CP:Hid (∀v,Ab w v->Calls prog 11 #[.agg #[.int .i64 sd,.float .f64 dt,.float .f64 gr,.float .f64 dr,.int .i64 lim,.bool rv,.slice pr lr cr]] v fun e w'=>e=.returned (.int .i64 pe)/\Below v.heap.size v w'))
  (CC:Hid (∀v,Ab w v->Calls prog 12 #[.int .i64 sd,.agg #[.slice pb lb cb,.slice pw lw cw,.slice pt lt ct,.slice ps ls cs,.int .i64 sky,.int .i64 st]] v fun e w'=>e=.returned (.tuple #[.int .i64 ca,.int .i64 ce])/\Below v.heap.size v w')):
  Calls prog 10 #[.agg #[.int .i64 sd,.float .f64 dt,.float .f64 gr,.float .f64 dr,.int .i64 lim,.bool rv,.slice pr lr cr],.agg #[.slice pb lb cb,.slice pw lw cw,.slice pt lt ct,.slice ps ls cs,.int .i64 sky,.int .i64 st]] w fun e w'=>e=.returned (.tuple #[.pointer none,.bool false])/\Below w.heap.size w w':=by
 obtain⟨A0,R0,Q0⟩:=bJ w (.cells #[.int .i64 sd,.float .f64 dt,.float .f64 gr,.float .f64 dr,.int .i64 lim,.bool rv,.slice pr lr cr] 25) (.cells #[.slice pb lb cb,.slice pw lw cw,.slice pt lt ct,.slice ps ls cs,.int .i64 sky,.int .i64 st] 29)
 go_enter func10,ntmps10
 go_upto_region 1 with fail
 generalize hW:World.alloc (World.alloc w _) _=V0 at*
 obtain⟨ga,hga⟩:=aD w.heap.size
 obtain⟨gq,hgq⟩:=aD (w.heap.size+1)
 rw[hgq]at Q0 ⊢
 rw[hga]at R0 ⊢
 clear hga hgq hW
 have x0:=aN R0.out
 go_wp2_with fail
 refine(CP.out V0 A0.out).mono ?_
 rintro e9 v1 ⟨rfl,b1⟩
 have A1:Hid (Ab w v1):=A0.out.trans b1
 have R1:=hid (Ab.heap b1 R0.out)
 have Q1:=hid (Ab.heap b1 Q0.out)
 clear b1 x0
 have x0:=aN R1.out
 have y0:=aE Q1.out
 go_wp2_with fail
 refine(CC.out v1 A1.out).mono ?_
 rintro e9 v2 ⟨rfl,b2⟩
 have A2:Hid (Ab w v2):=A1.out.trans b2
 have R2:=hid (Ab.heap b2 R1.out)
 clear b2 x0 y0
 go_wp2
 go_ret2
 exact⟨rfl,A2.out⟩
theorem good21_2(n:Nat)(sd:Int)(dt gr dr:Nat)(lim:Int)(rv:Bool)(pr:Option Addr)(lr cr:Nat)(pb:Option Addr)(lb cb:Nat)(pw:Option Addr)(lw cw:Nat)(pt:Option Addr)(lt ct:Nat)(ps:Option Addr)(ls cs:Nat)(sky st:Int)(pe:Int)(ca ce:Int)(w:World)(h0:(pe != 0)=false)(h1:(ce != 0)=false)
  (CP:Hid (∀v,Ab w v->Calls prog 11 #[.agg #[.int .i64 sd,.float .f64 dt,.float .f64 gr,.float .f64 dr,.int .i64 lim,.bool rv,.slice pr lr cr]] v fun e w'=>e=.returned (.int .i64 pe)/\Below v.heap.size v w'))
  (CC:Hid (∀v,Ab w v->Calls prog 12 #[.int .i64 sd,.agg #[.slice pb lb cb,.slice pw lw cw,.slice pt lt ct,.slice ps ls cs,.int .i64 sky,.int .i64 st]] v fun e w'=>e=.returned (.tuple #[.int .i64 ca,.int .i64 ce])/\Below v.heap.size v w'))
  (NW:Hid (∀v,Ab w v->Calls prog 13 #[.int .i64 sd] v fun e w'=> ∃gb,e=.returned (.tuple #[.pointer (some ⟨gb,0,none⟩),.int .i64 0])/\Below v.heap.size v w'/\GridOf n gb w')):
  Calls prog 10 #[.agg #[.int .i64 sd,.float .f64 dt,.float .f64 gr,.float .f64 dr,.int .i64 lim,.bool rv,.slice pr lr cr],.agg #[.slice pb lb cb,.slice pw lw cw,.slice pt lt ct,.slice ps ls cs,.int .i64 sky,.int .i64 st]] w fun e w'=> ∃gb,e=.returned (.tuple #[.pointer (some ⟨gb,0,none⟩),.bool true])/\Below w.heap.size w w'/\GridOf n gb w':=by
 obtain⟨A0,R0,Q0⟩:=bJ w (.cells #[.int .i64 sd,.float .f64 dt,.float .f64 gr,.float .f64 dr,.int .i64 lim,.bool rv,.slice pr lr cr] 25) (.cells #[.slice pb lb cb,.slice pw lw cw,.slice pt lt ct,.slice ps ls cs,.int .i64 sky,.int .i64 st] 29)
 go_enter func10,ntmps10
 go_upto_region 1 with fail
 generalize hW:World.alloc (World.alloc w _) _=V0 at*
 obtain⟨ga,hga⟩:=aD w.heap.size
 obtain⟨gq,hgq⟩:=aD (w.heap.size+1)
 rw[hgq]at Q0 ⊢
 rw[hga]at R0 ⊢
 clear hga hgq hW
 have x0:=aN R0.out
 go_wp2_with fail
 refine(CP.out V0 A0.out).mono ?_
 rintro e9 v1 ⟨rfl,b1⟩
 have A1:Hid (Ab w v1):=A0.out.trans b1
 have R1:=hid (Ab.heap b1 R0.out)
 have Q1:=hid (Ab.heap b1 Q0.out)
 clear b1 x0
 have x0:=aN R1.out
 have y0:=aE Q1.out
 go_wp2_with fail
 refine(CC.out v1 A1.out).mono ?_
 rintro e9 v2 ⟨rfl,b2⟩
 have A2:Hid (Ab w v2):=A1.out.trans b2
 have R2:=hid (Ab.heap b2 R1.out)
 clear b2 x0 y0
 have x0:=aN R2.out
 go_wp2_with fail
 refine(NW.out v2 A2.out).mono ?_
 rintro e9 v3 ⟨gb,rfl,b3,g3⟩
 have A3:Hid (Ab w v3):=A2.out.trans b3
 have G3:=hid g3
 clear b3 g3 x0
 go_wp2
 go_ret2
 exact⟨gb,rfl,A3.out,G3.out⟩
def er2(sd:Int)(dt gr dr:Nat)(lim:Int)(lr:Nat)(R:Nat->Int × Int × Int × Int)(lb lw lt ls:Nat)(B:Nat->Nat)(W T:Nat->Int)(S:Nat->Nat)(sky st:Int):Int:=if plE sd dt gr dr lim lr R≠0 then plE sd dt gr dr lim lr R else(chk sd lb lw lt ls B W T S sky st).2
theorem er2_side{sd:Int}{dt gr dr:Nat}{lim:Int}{lr:Nat}{R:Nat->Int × Int × Int × Int}{lb lw lt ls:Nat}{B:Nat->Nat}{W T:Nat->Int}{S:Nat->Nat}{sky st:Int}(h:er2 sd dt gr dr lim lr R lb lw lt ls B W T S sky st=0):(1<=sd/\sd<=32)/\plE sd dt gr dr lim lr R=0/\(chk sd lb lw lt ls B W T S sky st).2=0:=by
 unfold er2 at h
 by_cases a:plE sd dt gr dr lim lr R=0
 ·rw[if_neg (fun q=>q a)]at h
  exact⟨(xA a).1,a,h⟩
 ·rw[if_pos a]at h
  exact absurd h a
theorem Gl(PB:PlanB)(CB:CheckB)(sd:Int)(dt gr dr:Nat)(lim:Int)(rv:Bool)(pr:Option Addr)(lr cr:Nat)(R:Nat->Int × Int × Int × Int)(pb:Option Addr)(lb cb:Nat)(B:Nat->Nat)(pw:Option Addr)(lw cw:Nat)(W:Nat->Int)(pt:Option Addr)(lt ct:Nat)(T:Nat->Int)(ps:Option Addr)(ls cs:Nat)(S:Nat->Nat)(sky st:Int)(w:World)(hF:Fr w)(h64:Sh.W64 sd/\Sh.W64 lim/\Sh.W64 sky/\Sh.W64 st)(hf:dt<18446744073709551616/\gr<18446744073709551616/\dr<18446744073709551616)(hlr:lr<=281474976710656)(hl:(lb<=281474976710656/\lw<=281474976710656/\lt<=281474976710656/\ls<=281474976710656))(ir:Rn.IsRn w pr lr R)(i1:IsFl w pb lb B)(i2:Sh.IsI w pw lw W)(i3:Sh.IsI w pt lt T)(i4:IsFl w ps ls S):
  (er2 sd dt gr dr lim lr R lb lw lt ls B W T S sky st=0->Calls prog 10 #[.agg #[.int .i64 sd,.float .f64 dt,.float .f64 gr,.float .f64 dr,.int .i64 lim,.bool rv,.slice pr lr cr],.agg #[.slice pb lb cb,.slice pw lw cw,.slice pt lt ct,.slice ps ls cs,.int .i64 sky,.int .i64 st]] w fun e w'=> ∃gb,e=.returned (.tuple #[.pointer (some ⟨gb,0,none⟩),.bool true])/\Below w.heap.size w w'/\GridOf sd.toNat gb w')/\
  (er2 sd dt gr dr lim lr R lb lw lt ls B W T S sky st≠0->Calls prog 10 #[.agg #[.int .i64 sd,.float .f64 dt,.float .f64 gr,.float .f64 dr,.int .i64 lim,.bool rv,.slice pr lr cr],.agg #[.slice pb lb cb,.slice pw lw cw,.slice pt lt ct,.slice ps ls cs,.int .i64 sky,.int .i64 st]] w fun e w'=>e=.returned (.tuple #[.pointer none,.bool false])/\Below w.heap.size w w'):=by
 have CP:=fun v (a:Ab w v)=>PB sd dt gr dr lim rv pr lr cr R v h64.1 h64.2.1 hf hlr (ir.below a)
 have CC:=fun v (a:Ab w v)=>CB sd pb lb cb B pw lw cw W pt lt ct T ps ls cs S sky st v h64.1 h64.2.2.1 h64.2.2.2 hl (i1.below a) (i2.below a) (i3.below a) (i4.below a)
 by_cases h0:plE sd dt gr dr lim lr R=0
 ·by_cases h1:(chk sd lb lw lt ls B W T S sky st).2=0
  ·have e:er2 sd dt gr dr lim lr R lb lw lt ls B W T S sky st=0:=by
    unfold er2
    rw[if_neg (fun q=>q h0),h1]
   refine⟨fun _=> ?_,fun q=>absurd e q⟩
   obtain⟨n,rfl⟩: ∃n:Nat,sd=(n:Nat):=⟨sd.toNat,by have:=(xA h0).1;omega⟩
   have hn:1<=n/\n<=32:=by have:=(xA h0).1;omega
   rw[Int.toNat_natCast]
   exact good21_2 n n dt gr dr lim rv pr lr cr pb lb cb pw lw cw pt lt ct ps ls cs sky st _ _ _ w (by rw[h0];rfl) (by rw[h1];rfl) CP CC (fun v a=>(new_at n v hn (hF.to a)).mono fun e w' h=>by
    obtain⟨gb,rfl,a1,-,g⟩:=h
    exact⟨gb,rfl,a1,g⟩)
  ·have e:er2 sd dt gr dr lim lr R lb lw lt ls B W T S sky st=(chk sd lb lw lt ls B W T S sky st).2:=by
    unfold er2
    rw[if_neg (fun q=>q h0)]
   refine⟨fun q=>absurd (e.symm.trans q) h1,fun _=> ?_⟩
   exact good21_1 sd dt gr dr lim rv pr lr cr pb lb cb pw lw cw pt lt ct ps ls cs sky st _ _ _ w (by rw[h0];rfl) (bne_iff_ne.2 h1) CP CC
 ·have e:er2 sd dt gr dr lim lr R lb lw lt ls B W T S sky st=plE sd dt gr dr lim lr R:=by
   unfold er2
   rw[if_pos h0]
  refine⟨fun q=>absurd (e.symm.trans q) h0,fun _=> ?_⟩
  exact good21_0 sd dt gr dr lim rv pr lr cr pb lb cb pw lw cw pt lt ct ps ls cs sky st _ w (bne_iff_ne.2 h0) CP
end St
end
section
open Go.RowKit Tf Cu Go.Deep
namespace St
open Ss Fc
theorem aw_pl(R:Nat->Int × Int × Int × Int):plE 1 4602678819172646912 4607182418800017408 0 0 0 R=0:=by
 unfold plE
 rw[if_neg (by omega),if_neg (fun q=>q ⟨by decide+kernel,by decide+kernel,by decide+kernel,by decide+kernel,by omega,by omega⟩),if_neg (fun q=>q ⟨by omega,fun k hk=>absurd hk (Nat.not_lt_zero k)⟩)]
theorem aw_okP(R:Nat->Int × Int × Int × Int):okP 1 4607182418800017408 4602678819172646912 0 0 R:=⟨by omega,⟨by omega,by omega,by omega⟩,by omega,fun k hk=>absurd hk (Nat.not_lt_zero k)⟩
theorem aw_okN{W:Nat->Int}(h0: ∀i,i<6->0<=W i)(h1:Sh.sumN W 6<=4503599627370496):okN 6 (fun _=>0) W (fun _=>0) (fun _=>0) 0 0:=
 ⟨fun _ _=>by show(!btw 0 13920626448202203136 4697254411347427328)=false;decide+kernel,by omega,⟨h0,by omega⟩,⟨fun _ _=>Int.le_refl 0,by decide⟩,fun _ _=>by show(!btw 0 13875590451928498176 4652218415073722368)=false;decide+kernel,by omega,by omega⟩
theorem lW:okN 6 (fun _=>0) w1 (fun _=>0) (fun _=>0) 0 0:=aw_okN (fun i _=>by unfold w1;omega) (by decide)
theorem aw_ok2:okN 6 (fun _=>0) w2 (fun _=>0) (fun _=>0) 0 0:=aw_okN (fun i _=>by unfold w2;split<;>omega) (by decide)
theorem aw_s{W:Nat->Int}(h:okN 6 (fun _=>0) W (fun _=>0) (fun _=>0) 0 0):okS 1 (fun _=>0) W (fun _=>0) (fun _=>0) 0 0:=⟨h,fun _ _=>(by show 0<_;omega),fun _ _=>(by show 0<_;omega)⟩
theorem aw_er{W:Nat->Int}(h:okN 6 (fun _=>0) W (fun _=>0) (fun _=>0) 0 0)(R:Nat->Int × Int × Int × Int):erS 1 1 4602678819172646912 4607182418800017408 0 0 0 R 6 6 6 12 (fun _=>0) W (fun _=>0) (fun _=>0) 0 0=0:=
 Ex (by rfl) (aw_pl R) (congrArg Prod.snd (chk_zero (side:=1) (lb:=6) (lw:=6) (lt:=6) (ls:=12) (by omega) ⟨rfl,rfl,rfl,rfl⟩ h))
theorem lF:rest 1 (fun _=>0) w1 (fun _=>0):=fun e he=>by
 refine⟨rfl,fun _=> ?_⟩
 obtain⟨t1,t2,t3⟩:=bK (n:=1) (by omega) he
 have c1:eL 1 e<6:=aZ t1
 have c2:eR 1 e<6:=aZ (cV (n:=1) (by omega) t1)
 unfold lvC w1
 rw[aw_ar _ c1,aw_ar _ c2]
theorem ri_0{n:Nat}{lim:Int}{G dt D:Nat}{R:Nat->Int × Int × Int × Int}{B:Nat->Nat}{W T:Nat->Int}{S:Nat->Nat}{sky st:Int}:riX n lim G dt D false 0 R B W T S sky st=(mvW n lim G dt D B W S,mvT n lim G dt D B W T S):=by
 unfold riX raX
 rw[if_neg (by decide)]
 rfl
end St
end
section
open Go.RowKit Tf Cu Go.Deep
attribute [local go_sem] aK aL aP aQ aR aV aW aF
namespace Ss
def SeaP(g:Nat)(p1:Option Addr)(c1:Nat)(p2:Option Addr)(c2:Nat)(p3:Option Addr)(c3:Nat)(p4:Option Addr)(c4:Nat)(n1 n2 n3 n4:Nat)(A:Nat->Nat)(B C:Nat->Int)(D:Nat->Nat)(sk st:Int)(v:World):Prop:=v.heap[g]? =some (.cells #[.slice p1 n1 c1,.slice p2 n2 c2,.slice p3 n3 c3,.slice p4 n4 c4,.int .i64 sk,.int .i64 st] 29)/\IsFl v p1 n1 A/\Sh.IsI v p2 n2 B/\Sh.IsI v p3 n3 C/\IsFl v p4 n4 D
theorem EC{U z:World}{g:Nat}{vv:Value}{n1 n2 n3 n4:Nat}{A:Nat->Nat}{B C:Nat->Int}{D:Nat->Nat}{sk st:Int}(q:U.heap[g]? =some (.cells #[.slice none 0 0,.slice none 0 0,.slice none 0 0,.slice none 0 0,.int .i64 0,.int .i64 0] 29))(b:Ab U z)(os:OwnS U.heap.size vv n1 n2 n3 n4 A B C D sk st z)(hb:Bnd n1 n2 n3 n4 A B C D):
  ∃p1 c1 p2 c2 p3 c3 p4 c4,vv=.agg #[.slice p1 n1 c1,.slice p2 n2 c2,.slice p3 n3 c3,.slice p4 n4 c4,.int .i64 sk,.int .i64 st]/\z.heap[g]? =some (.cells #[.slice none 0 0,.slice none 0 0,.slice none 0 0,.slice none 0 0,.int .i64 0,.int .i64 0] 29)/\SeaP g p1 c1 p2 c2 p3 c3 p4 c4 n1 n2 n3 n4 A B C D sk st ((((((z.setCell ⟨g,0,none⟩ (.slice p1 n1 c1)).setCell ⟨g,1,none⟩ (.slice p2 n2 c2)).setCell ⟨g,2,none⟩ (.slice p3 n3 c3)).setCell ⟨g,3,none⟩ (.slice p4 n4 c4)).setCell ⟨g,4,none⟩ (.int .i64 sk)).setCell ⟨g,5,none⟩ (.int .i64 st)):=by
 obtain⟨p1,c1,p2,c2,p3,c3,p4,c4,e,⟨i1,i2,i3,i4⟩,⟨o1,o2,o3,o4⟩,dj⟩:=wZ os hb.1 hb.2.1 hb.2.2.1 hb.2.2.2
 have lt:=Rv.aX q
 have ne: ∀(t:TypeId) (p:Option Addr) (n c:Nat) (l:List Value),OV t U.heap.size (.slice p n c) l z-> ∀b o,p=some ⟨b,o,none⟩->b≠g:=fun t p n c l h b o e=>by
  subst e
  have:=(h.blk (k:=b) rfl).1
  omega
 have fl: ∀(p:Option Addr) (n c:Nat) (f:Nat->Nat) (l:List Value),OV 22 U.heap.size (.slice p n c) l z->IsFl z p n f->IsFl ((((((z.setCell ⟨g,0,none⟩ (.slice p1 n1 c1)).setCell ⟨g,1,none⟩ (.slice p2 n2 c2)).setCell ⟨g,2,none⟩ (.slice p3 n3 c3)).setCell ⟨g,3,none⟩ (.slice p4 n4 c4)).setCell ⟨g,4,none⟩ (.int .i64 sk)).setCell ⟨g,5,none⟩ (.int .i64 st)) p n f:=fun p n c f l o i=>jJ _ (jJ _ (jJ _ (jJ _ (jJ _ (jJ _ i (ne _ _ _ _ _ o)) (ne _ _ _ _ _ o)) (ne _ _ _ _ _ o)) (ne _ _ _ _ _ o)) (ne _ _ _ _ _ o)) (ne _ _ _ _ _ o)
 have ii: ∀(p:Option Addr) (n c:Nat) (f:Nat->Int) (l:List Value),OV 2 U.heap.size (.slice p n c) l z->Sh.IsI z p n f->Sh.IsI ((((((z.setCell ⟨g,0,none⟩ (.slice p1 n1 c1)).setCell ⟨g,1,none⟩ (.slice p2 n2 c2)).setCell ⟨g,2,none⟩ (.slice p3 n3 c3)).setCell ⟨g,3,none⟩ (.slice p4 n4 c4)).setCell ⟨g,4,none⟩ (.int .i64 sk)).setCell ⟨g,5,none⟩ (.int .i64 st)) p n f:=fun p n c f l o i=>jK _ (jK _ (jK _ (jK _ (jK _ (jK _ i (ne _ _ _ _ _ o)) (ne _ _ _ _ _ o)) (ne _ _ _ _ _ o)) (ne _ _ _ _ _ o)) (ne _ _ _ _ _ o)) (ne _ _ _ _ _ o)
 exact⟨p1,c1,p2,c2,p3,c3,p4,c4,e,b.heap q,row6 (b.heap q),fl _ _ _ _ _ o1 i1,ii _ _ _ _ _ o2 i2,ii _ _ _ _ _ o3 i3,fl _ _ _ _ _ o4 i4⟩
end Ss
end
end Go.Proofs.YtaphajlpbgcfjaaGreatDoor
