/-
  Some of the texts of this proof, one behind the other.
-/
import Derived.Test.YtaphajlpbgcfjaaGreatDoorRa11
set_option maxRecDepth 100000
set_option maxHeartbeats 400000000
namespace Go.Proofs.YtaphajlpbgcfjaaGreatDoor
open _root_.Go.Proofs.Tryz
section
open Go.RowKit Tf Cu Go.Deep
namespace St
open Ss Fc
def erS(n:Nat)(sd:Int)(dt gr dr:Nat)(lim:Int)(lr:Nat)(R:Nat->Int × Int × Int × Int)(lb lw lt ls:Nat)(B:Nat->Nat)(W T:Nat->Int)(S:Nat->Nat)(sky st:Int):Int:=
 if sd≠(n:Int)then 1 else if plE sd dt gr dr lim lr R≠0 then plE sd dt gr dr lim lr R else(chk sd lb lw lt ls B W T S sky st).2
def OneB(rv:Bool):Prop:= ∀(n gb:Nat) (sd:Int) (dt gr dr:Nat) (lim:Int) (pr:Option Addr) (lr cr:Nat) (R:Nat->Int × Int × Int × Int) (pb:Option Addr) (lb cb:Nat) (B:Nat->Nat) (pw:Option Addr) (lw cw:Nat) (W:Nat->Int) (pt:Option Addr) (lt ct:Nat) (T:Nat->Int) (ps:Option Addr) (ls cs:Nat) (S:Nat->Nat) (sky st:Int) (w:World),(1<=n/\n<=32)->GridOf n gb w->Fr w->(Sh.W64 sd/\Sh.W64 lim/\Sh.W64 sky/\Sh.W64 st)->(dt<18446744073709551616/\gr<18446744073709551616/\dr<18446744073709551616)->lr<=281474976710656->(lb<=281474976710656/\lw<=281474976710656/\lt<=281474976710656/\ls<=281474976710656)->Rn.IsRn w pr lr R->IsFl w pb lb B->Sh.IsI w pw lw W->Sh.IsI w pt lt T->IsFl w ps ls S->
 ((erS n sd dt gr dr lim lr R lb lw lt ls B W T S sky st)=0->Calls prog 14 #[.pointer (some ⟨gb,0,none⟩),.agg #[.int .i64 sd,.float .f64 dt,.float .f64 gr,.float .f64 dr,.int .i64 lim,.bool rv,.slice pr lr cr],.agg #[.slice pb lb cb,.slice pw lw cw,.slice pt lt ct,.slice ps ls cs,.int .i64 sky,.int .i64 st]] w fun e w'=> ∃v,e=.returned (.tuple #[v,.int .i64 0])/\Below w.heap.size w w'/\OwnS w.heap.size v lb lw lt ls B (riX n lim gr dt dr rv lr R B W T S sky st).1 (riX n lim gr dt dr rv lr R B W T S sky st).2 (spE n gr dt dr B W S) (raX n lim gr dt dr lr R B W S sky st).2 (stN st) w')/\
 ((erS n sd dt gr dr lim lr R lb lw lt ls B W T S sky st)≠0->Calls prog 14 #[.pointer (some ⟨gb,0,none⟩),.agg #[.int .i64 sd,.float .f64 dt,.float .f64 gr,.float .f64 dr,.int .i64 lim,.bool rv,.slice pr lr cr],.agg #[.slice pb lb cb,.slice pw lw cw,.slice pt lt ct,.slice ps ls cs,.int .i64 sky,.int .i64 st]] w fun e w'=>e=.returned (.tuple #[.agg #[.slice none 0 0,.slice none 0 0,.slice none 0 0,.slice none 0 0,.int .i64 0,.int .i64 0],.int .i64 (erS n sd dt gr dr lim lr R lb lw lt ls B W T S sky st)])/\Below w.heap.size w w')
def OneF:Prop:=OneB false
def FlowC:Prop:= ∀(n gb:Nat) (sd:Int) (dt gr dr:Nat) (lim:Int) (rv:Bool) (pr:Option Addr) (lr cr:Nat) (R:Nat->Int × Int × Int × Int) (pb:Option Addr) (lb cb:Nat) (B:Nat->Nat) (pw:Option Addr) (lw cw:Nat) (W:Nat->Int) (pt:Option Addr) (lt ct:Nat) (T:Nat->Int) (ps:Option Addr) (ls cs:Nat) (S:Nat->Nat) (sky st:Int) (w:World),(1<=n/\n<=32)->GridOf n gb w->Fr w->(Sh.W64 sd/\Sh.W64 lim/\Sh.W64 sky/\Sh.W64 st)->(dt<18446744073709551616/\gr<18446744073709551616/\dr<18446744073709551616)->lr<=281474976710656->(lb<=281474976710656/\lw<=281474976710656/\lt<=281474976710656/\ls<=281474976710656)->Rn.IsRn w pr lr R->IsFl w pb lb B->Sh.IsI w pw lw W->Sh.IsI w pt lt T->IsFl w ps ls S->
 ((erS n sd dt gr dr lim lr R lb lw lt ls B W T S sky st)=0->Calls prog 17 #[.pointer (some ⟨gb,0,none⟩),.agg #[.int .i64 sd,.float .f64 dt,.float .f64 gr,.float .f64 dr,.int .i64 lim,.bool rv,.slice pr lr cr],.agg #[.slice pb lb cb,.slice pw lw cw,.slice pt lt ct,.slice ps ls cs,.int .i64 sky,.int .i64 st]] w fun e w'=> ∃v1 v2,e=.returned (.tuple #[.agg #[v1,v2],.int .i64 0])/\Below w.heap.size w w'/\Sh.Own w.heap.size v1 ((List.range (12*n*n)).map (waF n lim gr dt dr B W S)) w'/\Sh.Own w.heap.size v2 ((List.range (12*n*n)).map (trF n lim gr dt dr B W T S)) w'/\Dj v1 v2)/\
 ((erS n sd dt gr dr lim lr R lb lw lt ls B W T S sky st)≠0->Calls prog 17 #[.pointer (some ⟨gb,0,none⟩),.agg #[.int .i64 sd,.float .f64 dt,.float .f64 gr,.float .f64 dr,.int .i64 lim,.bool rv,.slice pr lr cr],.agg #[.slice pb lb cb,.slice pw lw cw,.slice pt lt ct,.slice ps ls cs,.int .i64 sky,.int .i64 st]] w fun e w'=>e=.returned (.tuple #[.agg #[.slice none 0 0,.slice none 0 0],.int .i64 (erS n sd dt gr dr lim lr R lb lw lt ls B W T S sky st)])/\Below w.heap.size w w')
def PlanB:Prop:= ∀(sd:Int) (dt gr dr:Nat) (lim:Int) (rv:Bool) (pr:Option Addr) (lr cr:Nat) (R:Nat->Int × Int × Int × Int) (w:World),Sh.W64 sd->Sh.W64 lim->(dt<18446744073709551616/\gr<18446744073709551616/\dr<18446744073709551616)->lr<=281474976710656->Rn.IsRn w pr lr R->
 Calls prog 11 #[.agg #[.int .i64 sd,.float .f64 dt,.float .f64 gr,.float .f64 dr,.int .i64 lim,.bool rv,.slice pr lr cr]] w fun e w'=>e=.returned (.int .i64 (plE sd dt gr dr lim lr R))/\Below w.heap.size w w'
def CheckB:Prop:= ∀(side:Int) (pb:Option Addr) (lb cb:Nat) (B:Nat->Nat) (pw:Option Addr) (lw cw:Nat) (W:Nat->Int) (pt:Option Addr) (lt ct:Nat) (T:Nat->Int) (ps:Option Addr) (ls cs:Nat) (S:Nat->Nat) (sky st:Int) (w:World),Sh.W64 side->Sh.W64 sky->Sh.W64 st->(lb<=281474976710656/\lw<=281474976710656/\lt<=281474976710656/\ls<=281474976710656)->IsFl w pb lb B->Sh.IsI w pw lw W->Sh.IsI w pt lt T->IsFl w ps ls S->
 Calls prog 12 #[.int .i64 side,.agg #[.slice pb lb cb,.slice pw lw cw,.slice pt lt ct,.slice ps ls cs,.int .i64 sky,.int .i64 st]] w fun e w'=>e=.returned (.tuple #[.int .i64 (chk side lb lw lt ls B W T S sky st).1,.int .i64 (chk side lb lw lt ls B W T S sky st).2])/\Below w.heap.size w w'
theorem rB_ok{m:Nat}{r:Int × Int × Int × Int}(h:rB (m:Int) r=true):Rn.okR m r:=by
 unfold rB at h
 simp only[Bool.and_eq_true,decide_eq_true_eq]at h
 unfold Rn.okR
 omega
theorem yJ{sd:Int}{dt gr dr:Nat}{lim:Int}{lr:Nat}{R:Nat->Int × Int × Int × Int}(h:plE sd dt gr dr lim lr R=0):(1<=sd/\sd<=32)/\lr<=1024/\ ∀k,k<lr->Rn.okR (6*sd.toNat*sd.toNat) (R k):=by
 unfold plE at h
 by_cases a:1<=sd/\sd<=32
 ·rw[if_neg (fun q=>q a)]at h
  split at h
  ·exact absurd h (by decide)
  ·by_cases c:lr<=1024/\ ∀k,k<lr->rB ((6*sd.toNat*sd.toNat:Nat):Int) (R k)=true
   ·exact⟨a,c.1,fun k hk=>rB_ok (c.2 k hk)⟩
   ·rw[if_pos c]at h
    exact absurd h (by decide)
 ·rw[if_pos a]at h
  exact absurd h (by decide)
theorem chk_ok{side:Int}{lb lw lt ls:Nat}{B:Nat->Nat}{W T:Nat->Int}{S:Nat->Nat}{sky st:Int}(c:(chk side lb lw lt ls B W T S sky st).2=0):(1<=side/\side<=32)/\(lb=6*side.toNat*side.toNat/\lw=6*side.toNat*side.toNat/\lt=6*side.toNat*side.toNat/\ls=2*(6*side.toNat*side.toNat))/\okN (6*side.toNat*side.toNat) B W T S sky st:=by
 unfold chk at c
 by_cases q:1<=side/\side<=32
 ·rw[if_pos q]at c
  obtain⟨a,b⟩:=chN_ok.1 c
  exact⟨q,a,b⟩
 ·rw[if_neg q]at c
  exact absurd c (by decide)
theorem er_ok{n:Nat}{sd:Int}{dt gr dr:Nat}{lim:Int}{lr:Nat}{R:Nat->Int × Int × Int × Int}{lb lw lt ls:Nat}{B:Nat->Nat}{W T:Nat->Int}{S:Nat->Nat}{sky st:Int}(h:(erS n sd dt gr dr lim lr R lb lw lt ls B W T S sky st)=0)(hf:dt<18446744073709551616/\gr<18446744073709551616/\dr<18446744073709551616)(hB: ∀i,i<lb->B i<18446744073709551616)(hS: ∀i,i<ls->S i<18446744073709551616):
  sd=(n:Int)/\plE sd dt gr dr lim lr R=0/\(chk sd lb lw lt ls B W T S sky st).2=0/\(lb=6*n*n/\lw=6*n*n/\lt=6*n*n/\ls=12*n*n)/\okP n gr dt dr lr R/\okS n B W T S sky st:=by
 unfold erS at h
 by_cases a:sd=(n:Int)
 ·rw[if_neg (fun q=>q a)]at h
  by_cases b:plE sd dt gr dr lim lr R=0
  ·rw[if_neg (fun q=>q b)]at h
   obtain⟨p1,p2,p3⟩:=yJ b
   obtain⟨-,s2,s3⟩:=chk_ok h
   have e2:2*(6*n*n)=12*n*n:=by rw[Nat.mul_assoc,Nat.mul_assoc];omega
   rw[a,Int.toNat_natCast]at p3 s2 s3
   rw[e2]at s2
   refine⟨a,b,h,s2,⟨by omega,⟨hf.2.1,hf.1,hf.2.2⟩,p2,p3⟩,s3,fun c hc=>hB c (by omega),fun e he=>hS e (by omega)⟩
  ·rw[if_pos b]at h
   exact absurd h b
 ·rw[if_pos a]at h
  exact absurd h (by decide)
theorem yK{n:Nat}{sd:Int}{dt gr dr:Nat}{lim:Int}{lr:Nat}{R:Nat->Int × Int × Int × Int}{lb lw lt ls:Nat}{B:Nat->Nat}{W T:Nat->Int}{S:Nat->Nat}{sky st:Int}(a:sd=(n:Int))(b:plE sd dt gr dr lim lr R=0)(c:(chk sd lb lw lt ls B W T S sky st).2=0):(erS n sd dt gr dr lim lr R lb lw lt ls B W T S sky st)=0:=by
 unfold erS
 rw[if_neg (fun q=>q a),if_neg (fun q=>q b),c]
end St
end
section
open Go.RowKit Tf Cu Go.Deep
attribute [local go_sem] aJ aK aP aQ aR aV aX aF
namespace St
open Ss Fc
theorem wh21(pa pb:Option Addr)(n ca m cb:Nat)(xs ys:Nat->Int)(w:World)(hn:n<=131072)(hm:m<=131072)(hA:Sh.IsI w pa n xs)(hB:Sh.IsI w pb m ys):
  Calls prog 22 #[.slice pa n ca,.slice pb m cb] w fun e w'=>e=.returned (.bool (eqL n m xs ys))/\Below w.heap.size w w':=by
 have HA:=hid hA
 have HB:=hid hB
 have HL:=hid (And.intro hn hm)
 clear hA hB hn hm
 by_cases hnm:n=m
 ·subst hnm
  have e1:((n:Int) != (n:Int))=false:=by simp
  go_enter func22,ntmps22
  go_wp2
  go_loopw [5] (fun iv wr=> ∃k:Nat,k<=n/\iv=.int .i64 (k:Nat)/\Ab w wr/\ ∀i,i<k->xs i=ys i) (fun iv _=>n - (intOf iv).toNat)
  case atStart=>exact⟨0,by omega,rfl,Ab.refl w,fun i hi=>absurd hi (Nat.not_lt_zero i)⟩
  case round=>
   obtain⟨k,hk,rfl,ar,g1⟩:=hrel
   have AR:=hid ar
   have G1:=hid g1
   clear ar g1
   by_cases hkn:k<n
   ·have HK:=hid hkn
    have kI:(k:Int)<n:=by omega
    have kB:(k:Int)<=131072:=by have:=HL.out;omega
    obtain⟨x,hx⟩:=aB (xs k)
    obtain⟨y,hy⟩:=aB (ys k)
    obtain⟨b1,o1,rfl⟩:=HA.out.some0 (show 0<n by omega)
    obtain⟨b2,o2,rfl⟩:=HB.out.some0 (show 0<n by omega)
    have X1:Hid (∀v,Ab wr v->v.cell? ⟨b1,o1+k,none⟩=some (.int .i64 x)):=fun v a=>by rw[<- hx];exact((HA.out.below (AR.out.trans a)).at0 hkn).2.2
    have X2:Hid (∀v,Ab wr v->v.cell? ⟨b2,o2+k,none⟩=some (.int .i64 y)):=fun v a=>by rw[<- hy];exact((HB.out.below (AR.out.trans a)).at0 hkn).2.2
    clear hkn hk
    by_cases q:x=y
    ·have d1:(x != y)=false:=by simp[q]
     have XE:Hid (xs k=ys k):=by show _=_;rw[hx,hy,q]
     clear hx hy q
     go_upto_region 6 with fail
     obtain⟨UU,E,hF1,hF2⟩:=cls wr
     have HU:=hid hF2
     have HU1:=hid hF1
     have y1: ∀u,(E u).cell? ⟨b1,o1+k,none⟩=some (.int .i64 x):=fun u=>X1.out _ (hF1 u)
     have y2: ∀u,(E u).cell? ⟨b2,o2+k,none⟩=some (.int .i64 y):=fun u=>X2.out _ (hF1 u)
     have DD0:=HU.out _ (Ab.refl wr).drew
     clear hF1 hF2
     refine aO E (by kernel_rfl) (by kernel_rfl) DD0 ?_
     repeat(go_big_quiet_step (with_reducible rfl))
     refine wpQuiet_nil ?_
     intro z hwz
     obtain⟨u0,hu⟩:=hwz
     have A2:Hid (Ab wr z):=by rw[hu];exact HU1.out u0
     clear hu u0
     clear HU HU1 DD0 y1 y2
     clear E UU
     go_wp2
     refine⟨⟨k+1,by have:=HK.out;omega,by simp,AR.out.trans A2.out,fun i hi=> ?_⟩,by have:=HK.out;simp[intOf];omega⟩
     by_cases l:i<k
     ·exact G1.out i l
     ·obtain rfl:i=k:=by omega
      exact XE.out
    ·have d1:(x != y)=true:=by simp[q]
     have NE:Hid (eqL n n xs ys=false):=eqL_no HK.out (by rw[hx,hy];exact q)
     clear hx hy q
     go_upto_region 6 with fail
     obtain⟨UU,E,hF1,hF2⟩:=cls wr
     have HU:=hid hF2
     have HU1:=hid hF1
     have y1: ∀u,(E u).cell? ⟨b1,o1+k,none⟩=some (.int .i64 x):=fun u=>X1.out _ (hF1 u)
     have y2: ∀u,(E u).cell? ⟨b2,o2+k,none⟩=some (.int .i64 y):=fun u=>X2.out _ (hF1 u)
     have DD0:=HU.out _ (Ab.refl wr).drew
     clear hF1 hF2
     refine aO E (by kernel_rfl) (by kernel_rfl) DD0 ?_
     repeat(go_big_quiet_step (with_reducible rfl))
     refine wpQuiet_nil ?_
     intro z hwz
     obtain⟨u0,hu⟩:=hwz
     have A2:Hid (Ab wr z):=by rw[hu];exact HU1.out u0
     clear hu u0
     clear HU HU1 DD0 y1 y2
     clear E UU
     go_wp2
     go_ret
     exact⟨by rw[NE.out];rfl,AR.out.trans A2.out⟩
   ·have e6:n=k:=by omega
    subst e6
    have E:Hid (eqL n n xs ys=true):=eP G1.out
    go_wp2
    go_ret
    exact⟨by rw[E.out];rfl,AR.out⟩
 ·have e1:((n:Int) != (m:Int))=true:=by simp;omega
  have E:Hid (eqL n m xs ys=false):=Fy hnm
  clear hnm
  go_enter func22,ntmps22
  go_wp2
  go_ret
  exact⟨by rw[E.out];rfl,Below.refl _ _⟩
theorem sam21_6(pb:Option Addr)(lb cb:Nat)(B:Nat->Nat)(pw:Option Addr)(lw cw:Nat)(W:Nat->Int)(pt:Option Addr)(lt ct:Nat)(T:Nat->Int)(ps:Option Addr)(ls cs:Nat)(S:Nat->Nat)(sky st:Int)(pb':Option Addr)(lb' cb':Nat)(B':Nat->Nat)(pw':Option Addr)(lw' cw':Nat)(W':Nat->Int)(pt':Option Addr)(lt' ct':Nat)(T':Nat->Int)(ps':Option Addr)(ls' cs':Nat)(S':Nat->Nat)(sky' st':Int)(w:World)(HL:Hid ((lb<=131072/\lw<=131072/\lt<=131072/\ls<=131072)/\(lb'<=131072/\lw'<=131072/\lt'<=131072/\ls'<=131072)))(I1:Hid (IsFl w pb lb B))(I2:Hid (Sh.IsI w pw lw W))(I3:Hid (Sh.IsI w pt lt T))(I4:Hid (IsFl w ps ls S))(J1:Hid (IsFl w pb' lb' B'))(J2:Hid (Sh.IsI w pw' lw' W'))(J3:Hid (Sh.IsI w pt' lt' T'))(J4:Hid (IsFl w ps' ls' S'))(h0:eqL lb lb' B B'=true)(h1:eqL lw lw' W W'=true)(h2:eqL lt lt' T T'=true)(h3:eqL ls ls' S S'=true)(h4:(sky==sky')=true)(h5:(st==st')=true):
  Calls prog 31 #[.agg #[.slice pb lb cb,.slice pw lw cw,.slice pt lt ct,.slice ps ls cs,.int .i64 sky,.int .i64 st],.agg #[.slice pb' lb' cb',.slice pw' lw' cw',.slice pt' lt' ct',.slice ps' ls' cs',.int .i64 sky',.int .i64 st']] w fun e w'=>e=.returned (.bool true)/\Below w.heap.size w w':=by
 have H0:=hid h0
 have H1:=hid h1
 have H2:=hid h2
 have H3:=hid h3
 clear h0 h1 h2 h3
 obtain⟨A0,R0,Q0⟩:=bO w (.cells #[.slice pb lb cb,.slice pw lw cw,.slice pt lt ct,.slice ps ls cs,.int .i64 sky,.int .i64 st] 29) (.cells #[.slice pb' lb' cb',.slice pw' lw' cw',.slice pt' lt' ct',.slice ps' ls' cs',.int .i64 sky',.int .i64 st'] 29)
 go_enter func31,ntmps31
 go_upto_region 1 with fail
 generalize hW:World.alloc (World.alloc w _) _=v0 at*
 obtain⟨ga,hga⟩:=aB w.heap.size
 obtain⟨gq,hgq⟩:=aB (w.heap.size+1)
 rw[hgq]at Q0 ⊢
 rw[hga]at R0 ⊢
 clear hga hgq hW
 have x0:=aE R0.out
 have y0:=aE Q0.out
 have CC:=hid (rall20 pb pb' lb cb lb' cb' B B' v0 HL.out.1.1 HL.out.2.1 (I1.out.below A0.out) (J1.out.below A0.out))
 rw[H0.out]at CC
 go_wp2_with fail
 refine CC.out.mono ?_
 rintro e9 v1 ⟨rfl,k9⟩
 have B1:Hid (Ab v0 v1):=k9
 have A1:Hid (Ab w v1):=A0.out.trans B1.out
 clear k9 CC x0 y0
 have x0:=aE (B1.out.heap R0.out)
 have y0:=aE (B1.out.heap Q0.out)
 have CC:=hid (wh21 pw pw' lw cw lw' cw' W W' v1 HL.out.1.2.1 HL.out.2.2.1 (I2.out.below A1.out) (J2.out.below A1.out))
 rw[H1.out]at CC
 go_wp2_with fail
 refine CC.out.mono ?_
 rintro e9 v2 ⟨rfl,k9⟩
 have B2:Hid (Ab v0 v2):=B1.out.call k9
 have A2:Hid (Ab w v2):=A0.out.trans B2.out
 clear k9 CC x0 y0
 have x0:=aE (B2.out.heap R0.out)
 have y0:=aE (B2.out.heap Q0.out)
 have CC:=hid (wh21 pt pt' lt ct lt' ct' T T' v2 HL.out.1.2.2.1 HL.out.2.2.2.1 (I3.out.below A2.out) (J3.out.below A2.out))
 rw[H2.out]at CC
 go_wp2_with fail
 refine CC.out.mono ?_
 rintro e9 v3 ⟨rfl,k9⟩
 have B3:Hid (Ab v0 v3):=B2.out.call k9
 have A3:Hid (Ab w v3):=A0.out.trans B3.out
 clear k9 CC x0 y0
 have x0:=aE (B3.out.heap R0.out)
 have y0:=aE (B3.out.heap Q0.out)
 have CC:=hid (rall20 ps ps' ls cs ls' cs' S S' v3 HL.out.1.2.2.2 HL.out.2.2.2.2 (I4.out.below A3.out) (J4.out.below A3.out))
 rw[H3.out]at CC
 go_wp2_with fail
 refine CC.out.mono ?_
 rintro e9 v4 ⟨rfl,k9⟩
 have B4:Hid (Ab v0 v4):=B3.out.call k9
 have A4:Hid (Ab w v4):=A0.out.trans B4.out
 clear k9 CC x0 y0
 have x0:=aE (B4.out.heap R0.out)
 have y0:=aE (B4.out.heap Q0.out)
 go_wp2
 go_ret
 exact⟨rfl,A4.out⟩
theorem Ba(pb:Option Addr)(lb cb:Nat)(B:Nat->Nat)(pw:Option Addr)(lw cw:Nat)(W:Nat->Int)(pt:Option Addr)(lt ct:Nat)(T:Nat->Int)(ps:Option Addr)(ls cs:Nat)(S:Nat->Nat)(sky st:Int)(pb':Option Addr)(lb' cb':Nat)(B':Nat->Nat)(pw':Option Addr)(lw' cw':Nat)(W':Nat->Int)(pt':Option Addr)(lt' ct':Nat)(T':Nat->Int)(ps':Option Addr)(ls' cs':Nat)(S':Nat->Nat)(sky' st':Int)(w:World)(hl:(lb<=131072/\lw<=131072/\lt<=131072/\ls<=131072))(hl':(lb'<=131072/\lw'<=131072/\lt'<=131072/\ls'<=131072))(i1:IsFl w pb lb B)(i2:Sh.IsI w pw lw W)(i3:Sh.IsI w pt lt T)(i4:IsFl w ps ls S)(j1:IsFl w pb' lb' B')(j2:Sh.IsI w pw' lw' W')(j3:Sh.IsI w pt' lt' T')(j4:IsFl w ps' ls' S')(he:eqS lb lw lt ls B W T S sky st lb' lw' lt' ls' B' W' T' S' sky' st'=true):
  Calls prog 31 #[.agg #[.slice pb lb cb,.slice pw lw cw,.slice pt lt ct,.slice ps ls cs,.int .i64 sky,.int .i64 st],.agg #[.slice pb' lb' cb',.slice pw' lw' cw',.slice pt' lt' ct',.slice ps' ls' cs',.int .i64 sky',.int .i64 st']] w fun e w'=>e=.returned (.bool (eqS lb lw lt ls B W T S sky st lb' lw' lt' ls' B' W' T' S' sky' st'))/\Below w.heap.size w w':=by
 rw[he]
 unfold eqS at he
 simp only[Bool.and_eq_true,decide_eq_true_eq]at he
 obtain⟨⟨⟨⟨⟨h0,h1⟩,h2⟩,h3⟩,h4⟩,h5⟩:=he
 exact sam21_6 pb lb cb B pw lw cw W pt lt ct T ps ls cs S sky st pb' lb' cb' B' pw' lw' cw' W' pt' lt' ct' T' ps' ls' cs' S' sky' st' w ⟨hl,hl'⟩ i1 i2 i3 i4 j1 j2 j3 j4 h0 h1 h2 h3 (by simp[h4]) (by simp[h5])
end St
end
section
open Tf Ieee
theorem wB{n:Int}(h0:1<=n)(h1:n<=9007199254740992):(mv (fw n):Int)=n*one:=by
 have hi:=mQ h0 (by omega)
 have hm:mg (fw n)=fw n:=aN (by omega)
 have e:=EJ false (n*one) (by show mg (fw n)<_;omega)
 have d:isD (n*one):=isD_of (n*one) n 0 K (by rw[Nat.pow_zero,eK];simp) (by
  have e:(2:Nat) ^ 53=9007199254740992:=by decide
  rw[e];omega)
 rw[zH d]at e
 have s:sv (fw n)=(mv (fw n):Nat):=tI (by omega)
 rw[<- s]
 exact e
end
section
open Tf Ieee
theorem mv_w20:mv 4697254411347427328=1048576*one:=by
 have h:=dG 20 4697254411347427328 (by decide)
 have e:(2:Nat) ^ 20=1048576:=by decide
 rw[e]at h;exact h
theorem mv_w53:mv 4845873199050653696=9007199254740992*one:=by
 have h:=dG 53 4845873199050653696 (by decide)
 have e:(2:Nat) ^ 53=9007199254740992:=by decide
 rw[e]at h;exact h
theorem sv_20{b:Nat}(h1:rk b<=4697254411347427328)(h2: -4697254411347427328<=rk b): -(1048576*(one:Int))<=sv b/\sv b<=1048576*(one:Int):=by
 have a:=(pT b 4697254411347427328).2 (by rw[show rk 4697254411347427328=4697254411347427328 by decide];exact h1)
 have c:=(pT 13920626448202203136 b).2 (by rw[show rk 13920626448202203136= -4697254411347427328 by decide];exact h2)
 have e1:sv 4697254411347427328=(mv 4697254411347427328:Nat):=tI (by decide)
 have e2:sv 13920626448202203136= -((mv 4697254411347427328:Nat):Int):=by
  unfold sv
  rw[show ng 13920626448202203136=true by decide,show mg 13920626448202203136=4697254411347427328 by decide];rfl
 rw[e1,mv_w20]at a
 rw[e2,mv_w20]at c
 rw[Int.natCast_mul]at a c
 exact⟨c,a⟩
theorem rn_le{z:Bool}{v:Int}{r:Nat}(h:v.natAbs<=mv r)(hr:r<9218868437227405312):mg (rn z v)<=r/\mg (rn z v)<9218868437227405312/\sv (rn z v)=rd v:=by
 have a:rung 52 0 v.natAbs<=r:=rung_le2 (d:=0) (by rw[Nat.pow_zero,Nat.mul_one];exact h)
 have b:mg (rn z v)<=r:=by rw[vH];omega
 exact⟨b,by omega,EJ z v (by omega)⟩
theorem rn_N(z:Bool)(v:Int):isN (rn z v)=false:=bR.2 (by rw[vH];exact Nat.min_le_right _ _)
end
section
open Tf
theorem ml_nn8{a c:Nat}(ha:a<9218868437227405312)(hc:c<9218868437227405312):mlB a c=min (rung 52 1074 (mv a*mv c)) 9218868437227405312:=by
 have ma:mg a=a:=aN (by omega)
 have mc:mg c=c:=aN (by omega)
 have e:=nQ a c (by omega) (by omega) (by rw[ma];exact ha) (by rw[mc];exact hc)
 rw[bH (by omega),bH (by omega),ma,mc]at e
 rw[cX e,if_neg (by decide)]
theorem Bb{a b:Nat}(h:a<=b):mv a<=mv b:=by
 rcases Nat.lt_or_ge (mv b) (mv a)with k | k
 ·have e1:rung 52 0 (mv a)=a:=fV 52 a (by omega)
  have e2:rung 52 0 (mv b)=b:=fV 52 b (by omega)
  have:=fW (p:=52) (d:=0) (by omega) (Nat.le_of_lt k)
  rw[e1,e2]at this
  have:a=b:=by omega
  rw[this];exact Nat.le_refl _
 ·exact k
theorem ml_le{a b c:Nat}(h:a<=b)(hb:b<9218868437227405312)(hc:c<9218868437227405312):mlB a c<=mlB b c:=by
 rw[ml_nn8 (by omega) hc,ml_nn8 hb hc]
 have:=fW (p:=52) (d:=1074) (by omega) (Nat.mul_le_mul_right (mv c) (Bb h))
 omega
theorem arI_le{L:Nat}(h:L<=4616189618054758400):1<=arI L/\arI L<=2147483648:=by
 have q0:qB L=L:=by unfold qB;rw[if_neg (by rw[bV,aN (by omega)];omega)]
 have q1:qB 4602678819172646912=4602678819172646912:=by decide
 have q2:qB 4742290407621132288=4742290407621132288:=by decide
 have e1:mlB 4616189618054758400 4602678819172646912=4611686018427387904:=by decide+kernel
 have e2:mlB 4611686018427387904 4742290407621132288=4746794007248502784:=by decide+kernel
 have m1:=ml_le (c:=4602678819172646912) h (by omega) (by omega)
 rw[e1]at m1
 have m2:=ml_le (c:=4742290407621132288) m1 (by omega) (by omega)
 rw[e2]at m2
 have hA:arQ L=mlB (mlB L 4602678819172646912) 4742290407621132288:=by unfold arQ;rw[q0,q1,q2]
 unfold arI
 rw[hA]
 generalize mlB (mlB L 4602678819172646912) 4742290407621132288=y at*
 have hy:mg y=y:=aN (by omega)
 have hc:cq .even y<=cq .even 4746794007248502784:=by
  refine oB ?_
  have s1:sv y=(mv y:Int):=by unfold sv;rw[bH (by omega),hy];rfl
  have s2:sv 4746794007248502784=(mv 4746794007248502784:Int):=by unfold sv;rw[bH (by omega),aN (by omega)];rfl
  rw[s1,s2]
  have:=Bb m2
  omega
 have hv:cq .even 4746794007248502784=2147483648:=by decide+kernel
 rw[hv]at hc
 have hI:cI .even y<=2147483648:=by
  unfold cI
  split
  ·exact hc
  ·omega
 generalize cI .even y=z at*
 clear hA q0 q1 q2 e1 e2 m1 m2 hc hv hy
 omega
end
section
open Tf Cu
namespace St
open Ss Fc
theorem dp_52{w a:Int}(w2:w<=4503599627370496)(a2:a<=9223372036854775807):dpB w a<=4841369599423283200:=by
 by_cases h:w<1\/a<1
 ·rw[kG h];omega
 ·have e:dpB 4503599627370496 1=4841369599423283200:=by decide+kernel
  have m:=dp_mono (w:=w) (w':=4503599627370496) (a:=a) w2 (by omega) a2
  have n:=dp_anti (w:=4503599627370496) (a:=1) (a':=a) (by omega) (by omega) (by omega) a2
  omega
theorem Cq{b:Nat}{w a:Int}(hb:b<18446744073709551616)(h1:rk b<=4697254411347427328)(h2: -4697254411347427328<=rk b)(w2:w<=4503599627370496)(a2:a<=9223372036854775807):mg (lvl b w a)<9218868437227405312:=by
 have d:=dp_52 w2 a2
 have s1:=sv_20 h1 h2
 have mb:mg b<9218868437227405312:=by
  unfold rk at h1 h2
  cases q:ng b with
  | true=>rw[q,if_pos rfl]at h2;omega
  | false=>rw[q,if_neg (by decide)]at h1;omega
 have md:mg (dpB w a)=dpB w a:=aN (by omega)
 have s2:sv (dpB w a)=(mv (dpB w a):Nat):=tI (by omega)
 have s3:mv (dpB w a)<=9007199254740992*one - 1048576*one:=by
  have k:mv (dpB w a)<=mv 4841369599423283200:=mN.2 d
  have e:mv 4841369599423283200=4503599627370496*one:=by
   have h:=dG 52 4841369599423283200 (by decide)
   have e:(2:Nat) ^ 52=4503599627370496:=by decide
   rw[e]at h;exact h
  rw[e]at k
  generalize one=o at*
  omega
 unfold lvl
 rw[cW b _ hb (by omega) mb (by omega)]
 refine(rn_le (r:=4845873199050653696) ?_ (by omega)).2.1
 rw[mv_w53,s2]
 generalize one=o at*
 generalize mv (dpB w a)=m at*
 generalize sv b=v at*
 omega
section
variable {n G dt D lr:Nat} {lim:Int} {R:Nat->Int × Int × Int × Int} {B:Nat->Nat} {W T:Nat->Int} {S:Nat->Nat} {sky st:Int}
def rest(n:Nat)(B:Nat->Nat)(W:Nat->Int)(S:Nat->Nat):Prop:= ∀e,e<12*n*n->S e=0/\(opE n B W e=true->lvC n B W (eL n e)=lvC n B W (eR n e))
theorem lvC_fin(h:okS n B W T S sky st){c:Nat}(hc:c<6*n*n):mg (lvC n B W c)<9218868437227405312:=by
 have q:=(yB (h.2.1 c hc)).1 (h.1.1 c hc)
 have w1:=qC h.1.2.2.1.1 hc
 have w2:=h.1.2.2.1.2
 have w3:=h.1.2.1.1
 exact Cq (h.2.1 c hc) q.2.1.2 q.2.1.1 (by omega) (cQ n c).2
theorem yL(hp:okP n G dt D lr R)(h:okS n B W T S sky st)(r:rest n B W S){e:Nat}(he:e<12*n*n):spE n G dt D B W S e=0:=by
 obtain⟨t1,t2,t3⟩:=bM hp.1.1 he
 have c1:eL n e<6*n*n:=bC t1
 obtain⟨z,l⟩:=r e he
 unfold spE
 split
 ·rename_i o
  rw[<- l o,z]
  exact spB_rest G dt D _ _ _ hp.2.1.1 hp.2.1.2.1 (GpC_lt _ _ _) (by decide) (by decide) (lv_lt (n:=n) ((okS_B h).1 _ c1)) (lvC_fin h c1)
 ·rfl
theorem rest_wt(hp:okP n G dt D lr R)(h:okS n B W T S sky st)(r:rest n B W S){e:Nat}(he:e<12*n*n):wtF n lim G dt D B W S e=0:=by
 have k:=okS_B h
 unfold wtF flB
 rw[yL hp h r he]
 exact qn_z1 (u:=0) (by decide) (mZ hp.1.1 (fun i hi=>(k.1 i hi).1) (fun i hi=>(k.1 i hi).2) _ _).1 (tM _ _) hp.2.1.2.1 (by decide)
theorem og_0{F:Nat->Int}(hn:1<=n)(z: ∀e,e<12*n*n->F e=0){t:Nat}(ht:t<24*n*n):Sh.og n F t=0:=by
 unfold Sh.og
 rw[z _ (fS hn ht),Int.zero_mul]
 rfl
theorem mI(hp:okP n G dt D lr R)(h:okS n B W T S sky st)(r:rest n B W S){e:Nat}(he:e<12*n*n):waF n lim G dt D B W S e=0:=by
 obtain⟨t1,t2,t3⟩:=bM hp.1.1 he
 have m1:=cY hp.1.1 t1
 have z: ∀e,e<12*n*n->wtF n lim G dt D B W S e=0:=fun e he=>rest_wt hp h r he
 unfold waF Sh.allF
 rw[Sh.kL (h.1.2.2.1.1 _ (bC t1)) (og_0 hp.1.1 z t1),Sh.kL (h.1.2.2.1.1 _ (bC m1)) (og_0 hp.1.1 z m1)]
 rfl
theorem rR(hp:okP n G dt D lr R)(h:okS n B W T S sky st)(r:rest n B W S){e:Nat}(he:e<12*n*n):trF n lim G dt D B W T S e=0:=by
 obtain⟨t1,t2,t3⟩:=bM hp.1.1 he
 have m1:=cY hp.1.1 t1
 have z: ∀e,e<12*n*n->waF n lim G dt D B W S e=0:=fun e he=>mI hp h r he
 unfold trF Tr.flF
 rw[Tr.iQ (og_0 hp.1.1 z t1),Tr.iQ (og_0 hp.1.1 z m1)]
 rfl
theorem mv_0{V F:Nat->Int}(hn:1<=n)(z: ∀e,e<12*n*n->F e=0){c:Nat}(hc:c<6*n*n):Ms.mv n V F c=V c:=by
 have k: ∀s,s<4->Ms.tk n F (4*c+s)=0:=fun s hs=>by
  unfold Ms.tk
  rw[z _ (fS hn (gI hc hs)),Int.mul_zero]
 unfold Ms.mv
 show V c - (0+Ms.tk n F (4*c+0)+Ms.tk n F (4*c+1)+Ms.tk n F (4*c+2)+Ms.tk n F (4*c+3))=_
 rw[k 0 (by omega),k 1 (by omega),k 2 (by omega),k 3 (by omega)]
 omega
theorem rS(hp:okP n G dt D lr R)(h:okS n B W T S sky st)(r:rest n B W S){c:Nat}(hc:c<6*n*n):mvW n lim G dt D B W S c=W c/\mvT n lim G dt D B W T S c=T c:=
 ⟨mv_0 hp.1.1 (fun _ he=>mI hp h r he) hc,mv_0 hp.1.1 (fun _ he=>rR hp h r he) hc⟩
end
theorem tW{n:Int}(h:n.natAbs<=9007199254740992):mg (fw n)<9218868437227405312/\sv (fw n)=n*one:=by
 have d:isD (n*one):=isD_of (n*one) n 0 K (by rw[Nat.pow_zero,eK];simp) (by
  have e:(2:Nat) ^ 53=9007199254740992:=by decide
  rw[e];exact h)
 have b:(n*one).natAbs<=mv 4845873199050653696:=by
  rw[Int.natAbs_mul,Int.natAbs_natCast,mv_w53]
  exact Nat.mul_le_mul h (Nat.le_refl _)
 have k:=rn_le (z:=false) (v:=n*one) b (by omega)
 rw[zH d]at k
 exact⟨k.2.1,k.2.2⟩
theorem dK(n:Int):fw n<18446744073709551616:=rn_lt _ _
theorem fw_N(n:Int):isN (fw n)=false:=rn_N _ _
theorem fw_0:fw 0=0:=by decide+kernel
theorem tX{n m:Int}(hn:n.natAbs<=9007199254740992)(hm:m.natAbs<=9007199254740992):rk (fw n)<rk (fw m) ↔ n<m:=by
 rw[<- fI,(tW hn).2,(tW hm).2]
 have o:=onep
 constructor
 ·intro h
  exact Int.lt_of_mul_lt_mul_right h (Int.le_of_lt o)
 ·intro h
  exact Int.mul_lt_mul_of_pos_right h o
theorem fw_fgt{n m:Int}(hn:n.natAbs<=9007199254740992)(hm:m.natAbs<=9007199254740992):fgt (fw n) (fw m)=decide (m<n):=by
 rw[eC _ _ (dK n) (dK m),fw_N,fw_N]
 simp only[Bool.not_false,Bool.true_and]
 exact decide_eq_decide.2 (tX hm hn)
theorem add_w{b k:Int}(hb:b.natAbs<=4503599627370496)(hk:k.natAbs<=4503599627370496):addB (fw b) (fw k)=fw (b+k):=by
 have s1:=tW (n:=b) (by omega)
 have s2:=tW (n:=k) (by omega)
 rw[cW _ _ (dK b) (dK k) s1.1 s2.1,s1.2,s2.2,<- Int.add_mul]
 rfl
theorem sub_w{b k:Int}(hb:b.natAbs<=4503599627370496)(hk:k.natAbs<=4503599627370496):sbB (fw b) (fw k)=fw (b - k):=by
 have s1:=tW (n:=b) (by omega)
 have s2:=tW (n:=k) (by omega)
 unfold sbB
 rw[cW _ _ (dK b) (bF (dK k)) s1.1 (by rw[dX (dK k)];exact s2.1),sv_negB _ (dK k),s1.2,s2.2,<- Int.neg_mul,<- Int.add_mul,<- Int.sub_eq_add_neg]
 rfl
theorem pr_key{x y z o:Nat}{k a:Int}(h1:(x:Int)=k*o)(h2:(y:Int)=a*o)(h3:(z:Int)=k*a*o):x*y=z*o:=by
 have e:((x*y:Nat):Int)=((z*o:Nat):Int):=by
  rw[Int.natCast_mul,Int.natCast_mul,h1,h2,h3,Int.mul_assoc,Int.mul_assoc,Int.mul_assoc,Int.mul_left_comm (o:Int) a (o:Int)]
 exact Int.ofNat.inj e
theorem mul_w{k a:Int}(hk:1<=k)(ha:1<=a)(h:k*a<=9007199254740992):mlB (fw k) (fw a)=fw (k*a):=by
 have k1:k<=k*a:=by have:=Int.mul_le_mul_of_nonneg_left ha (show 0<=k by omega);omega
 have a1:a<=k*a:=by have:=Int.mul_le_mul_of_nonneg_right hk (show 0<=a by omega);omega
 have f1:=mQ hk (by omega)
 have f2:=mQ ha (by omega)
 have f3:=mQ (n:=k*a) (by omega) (by omega)
 have m1:=wB hk (by omega)
 have m2:=wB ha (by omega)
 have m3:=wB (n:=k*a) (by omega) h
 have g:mg (fw k)=fw k:=aN (by omega)
 refine cX ?_
 have q:mv (mg (fw k))*mv (fw a)=mv (fw (k*a))*one:=by
  rw[g]
  exact pr_key m1 m2 m3
 have n0:ng (fw k)=false:=bH (by omega)
 have b1:mg (fw k)<9218868437227405312:=by omega
 have b2:fw a<9218868437227405312:=by omega
 have b3:fw (k*a)<=9218868437227405312:=by omega
 clear m1 m2 m3 f1 f2 f3 g
 rw[Gg (fw k) (fw a) (fw (k*a)) (dK k) b1 b2 b3 q,n0,if_neg (by decide)]
theorem div_w{k a:Int}(hk:1<=k)(ha:1<=a)(h:k*a<=9007199254740992):dvB (fw (k*a)) (fw a)=fw k:=by
 have k1:k<=k*a:=by have:=Int.mul_le_mul_of_nonneg_left ha (show 0<=k by omega);omega
 have a1:a<=k*a:=by have:=Int.mul_le_mul_of_nonneg_right hk (show 0<=a by omega);omega
 have q:=vT (n:=k*a) (m:=a) (by omega) (by omega) ha (by omega)
 have f1:=mQ hk (by omega)
 have m1:=wB hk (by omega)
 have m2:=wB ha (by omega)
 have m3:=wB (n:=k*a) (by omega) h
 have e:mv (fw (k*a))*2 ^ K=mv (fw k)*mv (fw a):=by
  rw[<- eK]
  exact(pr_key m1 m2 m3).symm
 have p:0<mv (fw a):=by
  have f2:=mQ ha (by omega)
  have:=qO (r:=0) (r':=fw a)
  rw[iV]at this
  exact this.2 (by omega)
 obtain⟨r,hr⟩: ∃r,fw k=r+1:=⟨fw k - 1,by omega⟩
 have u1:mv r<mv (r+1):=qO.2 (by omega)
 have u2:mv (r+1)<mv (r+1+1):=qO.2 (by omega)
 rw[hr]at e ⊢
 have lo:r+1<=dvB (fw (k*a)) (fw a):=C0 q (by
  rw[e,Nat.add_mul]
  have:=Nat.mul_lt_mul_of_pos_right u1 p
  omega)
 have up:dvB (fw (k*a)) (fw a)<=r+1:=dq_up q (by
  rw[e,Nat.add_mul]
  have:=Nat.mul_lt_mul_of_pos_right u2 p
  omega)
 omega
theorem clamp_w{m:Int}(h0:0<=m)(h:m<=4503599627370496):clampB (fw m) 4503599627370496=m:=by
 have s:=tW (n:=m) (by omega)
 have f:fw m<=4890909195324358655:=by
  by_cases z:m=0
  ·subst z;rw[fw_0];omega
  ·have a:=xU (n:=m) (m:=4503599627370496) h0 h
   have e:fw 4503599627370496=4841369599423283200:=by decide+kernel
   omega
 have g:mg (fw m)=fw m:=aN (by omega)
 have r:rk (fw m)=(fw m:Int):=by unfold rk;rw[bH (by omega),g];rfl
 have c:cq .even (fw m)=m:=by
  obtain⟨a1,a2,-⟩:=pS (fw m)
  rw[s.2,<- Int.sub_mul]at a1 a2
  have o:=onep
  generalize cq .even (fw m)=x at*
  have l1:m - x<1:=by
   refine Int.lt_of_mul_lt_mul_right (a:=(one:Int)) ?_ (Int.le_of_lt o)
   omega
  have l2: -1<m - x:=by
   refine Int.lt_of_mul_lt_mul_right (a:=(one:Int)) ?_ (Int.le_of_lt o)
   omega
  omega
 rw[iP _ _ (dK m) (fw_N m),if_neg (by omega),if_pos (by omega),c]
 show min (max m (-(if(4503599627370496:Int)<0 then 0 else 4503599627370496))) (if(4503599627370496:Int)<0 then 0 else 4503599627370496)=m
 rw[if_neg (by omega)]
 omega
theorem fil_w{b L a:Int}(hb:0<=b/\b<=1048576)(hL:L.natAbs<=1000)(ha:1<=a/\a<=2147483648):fil (fw b) a (fw L)=if b<L then(L - b)*a else 0:=by
 by_cases c:b<L
 ·rw[if_pos c,xV (by rw[fw_fgt (by omega) (by omega)];exact decide_eq_true c) ha.1,sub_w (by omega) (by omega)]
  have p:(L - b)*a<=1000*2147483648:=Int.mul_le_mul (by omega) ha.2 (by omega) (by omega)
  have p0:0<=(L - b)*a:=Int.mul_nonneg (by omega) (by omega)
  rw[mul_w (by omega) ha.1 (by omega),clamp_w p0 (by omega)]
 ·rw[if_neg c,fil_no (.inl (by rw[fw_fgt (by omega) (by omega)];exact decide_eq_false c))]
theorem lvl_w{b L a:Int}(hb:0<=b/\b<=1048576)(hL:L.natAbs<=1000)(ha:1<=a/\a<=2147483648):lvl (fw b) (fil (fw b) a (fw L)) a=if b<L then fw L else fw b:=by
 rw[fil_w hb hL ha]
 unfold lvl
 by_cases c:b<L
 ·rw[if_pos c,if_pos c]
  have p:(L - b)*a<=1000*2147483648:=Int.mul_le_mul (by omega) ha.2 (by omega) (by omega)
  have p1:1*1<=(L - b)*a:=Int.mul_le_mul (by omega) ha.1 (by omega) (by omega)
  unfold dpB
  rw[if_neg (by omega),div_w (by omega) ha.1 (by omega),add_w (by omega) (by omega)]
  congr 1
  omega
 ·rw[if_neg c,if_neg c,kG (.inl (by omega)),<- fw_0,add_w (by omega) (by omega),Int.add_zero]
theorem Ho{n:Nat}(hn:1<=n/\n<=32){b:Nat->Int}{L:Int}(hb: ∀c,c<6*n*n->0<=b c/\b c<=1048576)(hL:L.natAbs<=1000):rest n (fun c=>fw (b c)) (Ss.lkW n (fun c=>fw (b c)) (fw L)) (fun _=>0):=by
 intro e he
 refine⟨rfl,fun o=> ?_⟩
 obtain⟨t1,t2,t3⟩:=bM hn.1 he
 have c1:eL n e<6*n*n:=bC t1
 have c2:eR n e<6*n*n:=bC (cY hn.1 t1)
 have ar: ∀c,c<6*n*n->1<=arC n c/\arC n c<=2147483648:=fun c hc=>arI_le (ArC_le hn hc)
 have wk: ∀c,c<6*n*n->Ss.lkW n (fun c=>fw (b c)) (fw L) c=if b c<L then(L - b c)*arC n c else 0:=fun c hc=>fil_w (hb c hc) hL (ar c hc)
 have lk: ∀c,c<6*n*n->lvC n (fun c=>fw (b c)) (Ss.lkW n (fun c=>fw (b c)) (fw L)) c=if b c<L then fw L else fw (b c):=fun c hc=>lvl_w (hb c hc) hL (ar c hc)
 have pos: ∀c,c<6*n*n->b c<L->0<Ss.lkW n (fun c=>fw (b c)) (fw L) c:=fun c hc q=>by
  rw[wk c hc,if_pos q]
  exact Int.mul_pos (by omega) (by have:=ar c hc;omega)
 have zer: ∀c,c<6*n*n-> ¬b c<L->Ss.lkW n (fun c=>fw (b c)) (fw L) c=0:=fun c hc q=>by rw[wk c hc,if_neg q]
 have le: ∀c,c<6*n*n-> ¬b c<L->(flt (fw L) (fw (b c))||feq (fw L) (fw (b c)))=true:=fun c hc q=>by
  rw[fle_of (dK _) (dK _) (fw_N _) (fw_N _)]
  refine decide_eq_true ?_
  have:=tX (n:=b c) (m:=L) (by have:=hb c hc;omega) (by omega)
  omega
 rw[lk _ c1,lk _ c2]
 by_cases q1:b (eL n e)<L
 ·by_cases q2:b (eR n e)<L
  ·rw[if_pos q1,if_pos q2]
  ·exfalso
   unfold opE opB at o
   rw[lk _ c1,if_pos q1,zer _ c2 q2,le _ c2 q2]at o
   simp at o
 ·by_cases q2:b (eR n e)<L
  ·exfalso
   unfold opE opB at o
   rw[lk _ c2,if_pos q2,zer _ c1 q1,le _ c1 q1]at o
   simp at o
  ·exfalso
   unfold opE opB at o
   rw[zer _ c1 q1,zer _ c2 q2]at o
   simp at o
end St
end
section
open Tf Cu
namespace St
open Ss Fc
def w1(_:Nat):Int:=1431655765
def w2(i:Nat):Int:=if i=0 then 2863311530 else 1431655765
def sp2(e:Nat):Nat:=if e<4 then 4600040671590431692 else 0
def fl2(e:Nat):Int:=if e<4 then 438353264 else 0
theorem aw_sp: ∀e,e<12->spE 1 4607182418800017408 4602678819172646912 0 (fun _=>0) w2 (fun _=>0) e=sp2 e:=by decide+kernel
theorem aw_q: ∀e,e<12->qnB (sp2 e) (rdAll 1 0 6 6 (fun _=>0) w2 (e:Nat) (sp2 e)) (lnE 1 e) 4602678819172646912=fl2 e:=by decide+kernel
theorem aw_wt{e:Nat}(he:e<12):wtF 1 0 4607182418800017408 4602678819172646912 0 (fun _=>0) w2 (fun _=>0) e=fl2 e:=by
 unfold wtF flB
 rw[aw_sp e he]
 exact aw_q e he
theorem og_c{n:Nat}{F H:Nat->Int}(hn:1<=n)(z: ∀e,e<12*n*n->F e=H e){t:Nat}(ht:t<24*n*n):Sh.og n F t=Sh.og n H t:=by
 unfold Sh.og
 rw[z _ (fS hn ht)]
theorem all_c{n:Nat}{V F H:Nat->Int}(hn:1<=n)(z: ∀e,e<12*n*n->F e=H e){e:Nat}(he:e<12*n*n):Sh.allF n V F e=Sh.allF n V H e:=by
 obtain⟨t1,t2,t3⟩:=bM hn he
 have m1:=cY hn t1
 have ct: ∀t,t<24*n*n->Sh.ct n V F t=Sh.ct n V H t:=fun t ht=>by
  unfold Sh.ct Sh.oS
  rw[og_c hn z ht]
  congr 1
  exact Sh.cV (fun s hs=>og_c hn z (gI (bC ht) hs))
 unfold Sh.allF
 rw[ct _ t1,ct _ m1]
theorem aw_mv:(∀c,c<6->Ms.mv 1 w2 (Sh.allF 1 w2 fl2) c=if c=0 then 1109898474 else if c=2 then 1431655765 else 1870009029):=by decide+kernel
theorem Dm{c:Nat}(hc:c<6):mvW 1 0 4607182418800017408 4602678819172646912 0 (fun _=>0) w2 (fun _=>0) c=if c=0 then 1109898474 else if c=2 then 1431655765 else 1870009029:=by
 rw[<- aw_mv c hc]
 exact Ms.oI (n:=1) (by decide) hc rfl (fun i hi=>all_c (n:=1) (by decide) (fun e he=>aw_wt he) hi)
theorem aw_fgt:fgt 4600040671590431692 0=true:=by decide
theorem aw_ar: ∀c,c<6->arC 1 c=1431655765:=by decide+kernel
end St
end
end Go.Proofs.YtaphajlpbgcfjaaGreatDoor
