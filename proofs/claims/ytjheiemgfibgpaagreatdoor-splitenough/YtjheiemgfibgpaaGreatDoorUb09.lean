/-
  Some of the texts of this proof, one behind the other.
-/
import Derived.Deep.QuietTactic
import Derived.Deep.AppendSrc
import Derived.Deep.AppendLies
import Derived.Test.YtjheiemgfibgpaaGreatDoorUb08
set_option maxRecDepth 100000
set_option maxHeartbeats 400000000
namespace Go.Proofs.YtjheiemgfibgpaaGreatDoor
open _root_.Go.Proofs.Tryz
section
open Go.RowKit Tf Cu Go.Deep
attribute [local go_sem] aI aJ aN aO aP aQ aV aF
namespace Spl
theorem zA(pb:Option Addr)(lb cb:Nat)(B:Nat->Nat)(pw:Option Addr)(lw cw:Nat)(W:Nat->Int)(pt:Option Addr)(lt ct:Nat)(T:Nat->Int)(ps:Option Addr)(ls cs:Nat)(S:Nat->Nat)(sky st:Int)(pb':Option Addr)(cb':Nat)(pw':Option Addr)(cw':Nat)(pt':Option Addr)(ct':Nat)(ps':Option Addr)(cs':Nat)(w:World)(hl:lb<=281474976710656/\lw<=281474976710656/\lt<=281474976710656/\ls<=281474976710656)(i1:IsFl w pb lb B)(i2:Sh.IsI w pw lw W)(i3:Sh.IsI w pt lt T)(i4:IsFl w ps ls S)(j1:IsFl w pb' lb B)(j2:Sh.IsI w pw' lw W)(j3:Sh.IsI w pt' lt T)(j4:IsFl w ps' ls S):
  Calls prog 10 #[.agg #[.slice pb lb cb,.slice pw lw cw,.slice pt lt ct,.slice ps ls cs,.int .i64 sky,.int .i64 st],.agg #[.slice pb' lb cb',.slice pw' lw cw',.slice pt' lt ct',.slice ps' ls cs',.int .i64 sky,.int .i64 st]] w fun e w'=>e=.returned (.bool true)/\Below w.heap.size w w':=by
 have HL:=hid hl
 have I1:=hid i1
 have I2:=hid i2
 have I3:=hid i3
 have I4:=hid i4
 have J1:=hid j1
 have J2:=hid j2
 have J3:=hid j3
 have J4:=hid j4
 clear hl i1 i2 i3 i4 j1 j2 j3 j4
 obtain⟨A0,R0,Q0⟩:=bW w (.cells #[.slice pb lb cb,.slice pw lw cw,.slice pt lt ct,.slice ps ls cs,.int .i64 sky,.int .i64 st] 29) (.cells #[.slice pb' lb cb',.slice pw' lw cw',.slice pt' lt ct',.slice ps' ls cs',.int .i64 sky,.int .i64 st] 29)
 go_enter func10,ntmps10
 go_upto_region 1 with fail
 generalize hW:World.alloc (World.alloc w _) _=v0 at*
 obtain⟨ga,hga⟩:=aB w.heap.size
 obtain⟨gq,hgq⟩:=aB (w.heap.size+1)
 rw[hgq]at Q0 ⊢
 rw[hga]at R0 ⊢
 clear hga hgq hW
 have x0:=aH R0.out
 have y0:=aH Q0.out
 have CC:=hid (sR pb pb' lb cb cb' B v0 HL.out.1 (I1.out.below A0.out) (J1.out.below A0.out))
 go_wp2_with fail
 refine CC.out.mono ?_
 rintro e9 v1 ⟨rfl,k9⟩
 have B1:Hid (Ab v0 v1):=k9
 have A1:Hid (Ab w v1):=A0.out.trans B1.out
 clear k9 CC x0 y0
 have x0:=aH (B1.out.heap R0.out)
 have y0:=aH (B1.out.heap Q0.out)
 have CC:=hid (sR ps ps' ls cs cs' S v1 HL.out.2.2.2 (I4.out.below A1.out) (J4.out.below A1.out))
 go_wp2_with fail
 refine CC.out.mono ?_
 rintro e9 v2 ⟨rfl,k9⟩
 have B2:Hid (Ab v0 v2):=B1.out.call k9
 have A2:Hid (Ab w v2):=A0.out.trans B2.out
 clear k9 CC x0 y0
 have x0:=aH (B2.out.heap R0.out)
 have y0:=aH (B2.out.heap Q0.out)
 have CC:=hid (pN pw pw' lw cw cw' W v2 HL.out.2.1 (I2.out.below A2.out) (J2.out.below A2.out))
 go_wp2_with fail
 refine CC.out.mono ?_
 rintro e9 v3 ⟨rfl,k9⟩
 have B3:Hid (Ab v0 v3):=B2.out.call k9
 have A3:Hid (Ab w v3):=A0.out.trans B3.out
 clear k9 CC x0 y0
 have x0:=aH (B3.out.heap R0.out)
 have y0:=aH (B3.out.heap Q0.out)
 have CC:=hid (pN pt pt' lt ct ct' T v3 HL.out.2.2.1 (I3.out.below A3.out) (J3.out.below A3.out))
 go_wp2_with fail
 refine CC.out.mono ?_
 rintro e9 v4 ⟨rfl,k9⟩
 have B4:Hid (Ab v0 v4):=B3.out.call k9
 have A4:Hid (Ab w v4):=A0.out.trans B4.out
 clear k9 CC x0 y0
 have x0:=aH (B4.out.heap R0.out)
 have y0:=aH (B4.out.heap Q0.out)
 go_wp2
 go_ret
 exact⟨rfl,A4.out⟩
theorem same22(x:Nat)(v:World):Calls prog 12 #[.float .f64 x,.float .f64 x] v fun e w'=>e=.returned (.bool true)/\Below v.heap.size v w':=by
 have h:=kY x x v
 rw[show sameB x x=true by unfold sameB;exact decide_eq_true rfl]at h
 exact h.mono fun _ _ ⟨he,hw⟩=>⟨he,by rw[hw];exact Below.refl _ _⟩
theorem mA(w:World)(f:Nat->Nat):IsFl w none 0 f:=fun k hk=>absurd hk (Nat.not_lt_zero k)
theorem mC(w:World)(f:Nat->Int):Sh.IsI w none 0 f:=fun k hk=>absurd hk (Nat.not_lt_zero k)
theorem zB(w:World):
  Calls prog 10 #[.agg #[.slice none 0 0,.slice none 0 0,.slice none 0 0,.slice none 0 0,.int .i64 0,.int .i64 0],.agg #[.slice none 0 0,.slice none 0 0,.slice none 0 0,.slice none 0 0,.int .i64 0,.int .i64 0]] w fun e w'=>e=.returned (.bool true)/\Below w.heap.size w w':=
 zA none 0 0 (fun _=>0) none 0 0 (fun _=>0) none 0 0 (fun _=>0) none 0 0 (fun _=>0) 0 0 none 0 none 0 none 0 none 0 w (by omega) (mA w _) (mC w _) (mC w _) (mA w _) (mA w _) (mC w _) (mC w _) (mA w _)
end Spl
end
section
open Go.RowKit Tf Cu
attribute [local go_sem] aI aJ aN aO aP aQ aV aF
theorem zC(pb pw pt ps:Option Addr)(lb cb lw cw lt ct ls cs:Nat)(sky st:Int)(q:Bool)(w:World)
  (hq:(decide ((65536:Int)<(lb:Int))=true/\q=true)\/(decide ((65536:Int)<(lb:Int))=false/\decide ((65536:Int)<(lw:Int))=true/\q=true)\/(decide ((65536:Int)<(lb:Int))=false/\decide ((65536:Int)<(lw:Int))=false/\decide ((65536:Int)<(lt:Int))=true/\q=true)\/(decide ((65536:Int)<(lb:Int))=false/\decide ((65536:Int)<(lw:Int))=false/\decide ((65536:Int)<(lt:Int))=false/\decide ((65536:Int)<(ls:Int))=q)):
  Calls prog 6 #[.agg #[.slice pb lb cb,.slice pw lw cw,.slice pt lt ct,.slice ps ls cs,.int .i64 sky,.int .i64 st]] w fun e w'=>e=.returned (.bool q)/\Below w.heap.size w w':=by
 obtain⟨A0,RO⟩:=bV w (.cells #[.slice pb lb cb,.slice pw lw cw,.slice pt lt ct,.slice ps ls cs,.int .i64 sky,.int .i64 st] 29)
 have s0:=aA 0 RO.out
 have s1:=aA 1 RO.out
 have s2:=aA 2 RO.out
 have s3:=aA 3 RO.out
 rcases hq with⟨q1,rfl⟩ | ⟨q1,q2,rfl⟩ | ⟨q1,q2,q3,rfl⟩ | ⟨q1,q2,q3,q4⟩
 ·go_enter func6,ntmps6
  go_wp2
  go_ret
  exact⟨rfl,A0.out⟩
 ·go_enter func6,ntmps6
  go_wp2
  go_ret
  exact⟨rfl,A0.out⟩
 ·go_enter func6,ntmps6
  go_wp2
  go_ret
  exact⟨rfl,A0.out⟩
 ·cases q with
  | true=>
   go_enter func6,ntmps6
   go_wp2
   go_ret
   exact⟨rfl,A0.out⟩
  | false=>
   go_enter func6,ntmps6
   go_wp2
   go_ret
   exact⟨rfl,A0.out⟩
theorem zD(pb pw pt ps:Option Addr)(lb cb lw cw lt ct ls cs:Nat)(sky st:Int)(w:World):Calls prog 6 #[.agg #[.slice pb lb cb,.slice pw lw cw,.slice pt lt ct,.slice ps ls cs,.int .i64 sky,.int .i64 st]] w fun e w'=>e=.returned (.bool (decide (65536<lb\/65536<lw\/65536<lt\/65536<ls)))/\Below w.heap.size w w':=by
 refine zC pb pw pt ps lb cb lw cw lt ct ls cs sky st _ w ?_
 by_cases c1:65536<lb
 ·exact .inl ⟨decide_eq_true (by omega),decide_eq_true (.inl c1)⟩
 ·by_cases c2:65536<lw
  ·exact .inr (.inl ⟨decide_eq_false (by omega),decide_eq_true (by omega),decide_eq_true (.inr (.inl c2))⟩)
  ·by_cases c3:65536<lt
   ·exact .inr (.inr (.inl ⟨decide_eq_false (by omega),decide_eq_false (by omega),decide_eq_true (by omega),decide_eq_true (.inr (.inr (.inl c3)))⟩))
   ·refine .inr (.inr (.inr ⟨decide_eq_false (by omega),decide_eq_false (by omega),decide_eq_false (by omega),?_⟩))
    by_cases c4:65536<ls
    ·rw[decide_eq_true (show(65536:Int)<ls by omega),decide_eq_true (.inr (.inr (.inr c4)))]
    ·rw[decide_eq_false (show¬(65536:Int)<ls by omega),decide_eq_false (by omega)]
end
section
open Go.RowKit Tf Cu Go.Deep
def cA(n t c:Nat):Bool:=c==t/4||c==bsC n (t/4) (t%4)||c==bsC n (t/4) ((t%4+2)%4)||c==bsC n (bsC n (t/4) (t%4)) ((bsS n (t/4) (t%4)+2)%4)
theorem fl_local{n k:Nat}{lim:Int}{B B':Nat->Nat}{W W':Nat->Int}{Sp Sp':Nat->Nat}{dt:Nat}(hn:1<=n)(hk:k<12*n*n)(hB: ∀c,c<6*n*n->cA n (edT n k) c=true->B' c=B c)(hW: ∀c,c<6*n*n->cA n (edT n k) c=true->W' c=W c)(hS:Sp' k=Sp k):
  flB n lim B' W' Sp' dt k=flB n lim B W Sp dt k:=by
 obtain⟨t1,t2,t3⟩:=bQ hn hk
 unfold flB rdAll
 rw[if_pos ⟨bX.2 (by omega),rfl,rfl⟩,if_pos ⟨bX.2 (by omega),rfl,rfl⟩,Int.toNat_natCast,hS]
 generalize edT n k=t at*
 have md:=fO hn t1
 have m1:=fA hn t1
 have f1:cA n t (t/4)=true:=by unfold cA;simp
 have f2:cA n t (mt n t/4)=true:=by unfold cA;rw[md.1];simp
 have f3:cA n t (bkC n t)=true:=by unfold cA bkC;simp
 have f4:cA n t (bkC n (mt n t))=true:=by unfold cA bkC;rw[md.1,md.2];simp
 have c1:=bR t1
 have c2:=bR m1
 have c3:bkC n t<6*n*n:=pH hn t1
 have c4:bkC n (mt n t)<6*n*n:=pH hn m1
 have e1:sdD n lim (arC n) B' W' t=sdD n lim (arC n) B W t:=jV (hB _ c1 f1) (hB _ c2 f2) (hW _ c1 f1) (hW _ c2 f2) (hW _ c3 f3)
 have e2:sdD n lim (arC n) B' W' (mt n t)=sdD n lim (arC n) B W (mt n t):=jV (hB _ c2 f2) (by rw[iQ hn t1];exact hB _ c1 f1) (hW _ c2 f2) (by rw[iQ hn t1];exact hW _ c1 f1) (hW _ c4 f4)
 unfold rdT
 rw[e1,e2]
section
variable {v:World} {gt bb bw bt bs M N:Nat} {TR:Array Value} {T:TypeId} {mf mi zf zi:Value} {fb fw ft fs:Nat->Value} {u:World}
end
end
section
open Tf Ieee
namespace Fc
theorem hI{y l:Nat}(hl:isN l=true):dvB y l=quiet:=by
 refine eW ?_
 rw[bH]at hl
 have ei:=bO
 show((double.read y).quotient 54 (double.read l)).map double.write=none
 rw[cZ double l eJ (by rw[cH];omega)]
 cases double.read y<;>rfl
theorem gG{x:Nat}(hx:x<18446744073709551616)(h:mg x=0):x=0\/x=9223372036854775808:=by
 unfold mg at h
 omega
theorem dv0{b:Nat}(hb:b<18446744073709551616):dvB 0 b=0\/dvB 0 b=quiet:=by
 by_cases n:isN b=true
 ·exact .inr (hI n)
 ·have n2: ¬9218868437227405312<mg b:=by rw[bH]at n;exact n
  by_cases z:mg b=0
  ·rcases gG hb z with rfl | rfl
   ·exact .inr (by decide+kernel)
   ·exact .inr (by decide+kernel)
  ·by_cases i:mg b=9218868437227405312
   ·have:b=9218868437227405312\/b=18442240474082181120:=by unfold mg at i;omega
    rcases this with rfl | rfl
    ·exact .inl (by decide+kernel)
    ·exact .inl (by decide+kernel)
   ·exact .inl (dvB_z b z (by omega) 0 (by decide))
theorem nT{a b:Nat}(ha:a<18446744073709551616)(hb:b<18446744073709551616):dvB (canonB a) b=dvB a b:=by
 rcases aZ ha with⟨h,e⟩ | ⟨h,e⟩ | ⟨h,k,e⟩
 ·rw[e,wG (y:=quiet) (by decide),wG h]
 ·rw[e]
  rcases gG ha h with rfl | rfl
  ·rfl
  ·have k:=dvB_cn (a:=0) (b:=b) (by omega)
   rw[show negB 0=9223372036854775808 by decide]at k
   rw[k]
   rcases dv0 hb with q | q<;>rw[q]<;>decide
 ·rw[e]
def puB(G dt ll lr gap:Nat):Nat:=dvB (mlB (mlB G dt) (sbB lr ll)) gap
def u1B(G dt u ll lr gap:Nat):Nat:=sbB u (puB G dt ll lr gap)
def hB(dl dr:Nat):Nat:=mlB 4602678819172646912 (addB dl dr)
def drB(D dt u1 h:Nat):Nat:=addB 4607182418800017408 (dvB (mlB (mlB D dt) (mg u1)) h)
def cuB(x:Nat):Nat:=if fgt x 4652218415073722368=true then 4652218415073722368 else if flt x 13875590451928498176=true then 13875590451928498176 else if isN x=true then 0 else canonB x
def spB(G dt D u ll lr dl dr gap:Nat):Nat:=if fgt (hB dl dr) 0=true then cuB (dvB (u1B G dt u ll lr gap) (drB D dt (u1B G dt u ll lr gap) (hB dl dr)))else 0
def opB(wl wr:Int)(ll lr bl br:Nat):Bool:= !((!decide (0<wl)&& !decide (0<wr))||(!decide (0<wl)&&(flt lr bl||feq lr bl))||(!decide (0<wr)&&(flt ll br||feq ll br)))
section
variable {G dt D u ll lr dl dr gap:Nat}
theorem puB_lt(G dt ll lr gap:Nat):puB G dt ll lr gap<18446744073709551616:=uH _ _
theorem hB_lt(h1:dl<18446744073709551616)(h2:dr<18446744073709551616):hB dl dr<18446744073709551616:=dJ (by omega) (hY _ _ h1 h2)
theorem qY(x:Nat):mg x<18446744073709551616:=by unfold mg;omega
theorem mD:rk 4652218415073722368=4652218415073722368/\rk 13875590451928498176= -4652218415073722368/\isN 4652218415073722368=false/\isN 13875590451928498176=false:=by decide
theorem zE{x:Nat}(hx:x<18446744073709551616):(isN x=true/\cuB x=0)\/(isN x=false/\4652218415073722368<rk x/\cuB x=4652218415073722368)\/(isN x=false/\rk x< -4652218415073722368/\cuB x=13875590451928498176)\/(isN x=false/\ -4652218415073722368<=rk x/\rk x<=4652218415073722368/\cuB x=canonB x):=by
 have g:=iV x 4652218415073722368 hx (by omega)
 have l:=kH x 13875590451928498176 hx (by omega)
 rw[mD.1,mD.2.2.1]at g
 rw[mD.2.1,mD.2.2.2]at l
 unfold cuB
 cases n:isN x with
 | true=>
  rw[n]at g l
  simp at g l
  left
  rw[g,l]
  simp
 | false=>
  rw[n]at g l
  simp at g l
  right
  by_cases c1:4652218415073722368<rk x
  ·left
   have:fgt x 4652218415073722368=true:=by rw[g];exact decide_eq_true c1
   rw[this]
   exact⟨rfl,c1,by simp⟩
  ·have e1:fgt x 4652218415073722368=false:=by rw[g];exact decide_eq_false c1
   right
   by_cases c2:rk x< -4652218415073722368
   ·left
    have e2:flt x 13875590451928498176=true:=by rw[l];exact decide_eq_true c2
    rw[e1,e2]
    exact⟨rfl,c2,by simp⟩
   ·right
    have e2:flt x 13875590451928498176=false:=by rw[l];exact decide_eq_false c2
    rw[e1,e2]
    exact⟨rfl,by omega,by omega,by simp⟩
end
end Fc
end
section
open Go.RowKit Tf Cu Go.Deep
namespace Fc
def eL(n i:Nat):Nat:=edT n i/4
def eR(n i:Nat):Nat:=mt n (edT n i)/4
def gpE(n i:Nat):Nat:=GpC n (edT n i/4) (edT n i%4)
def lvC(n:Nat)(B:Nat->Nat)(W:Nat->Int)(c:Nat):Nat:=lvl (B c) (W c) (arC n c)
def dpC(n:Nat)(W:Nat->Int)(c:Nat):Nat:=dpB (W c) (arC n c)
def opE(n:Nat)(B:Nat->Nat)(W:Nat->Int)(i:Nat):Bool:=opB (W (eL n i)) (W (eR n i)) (lvC n B W (eL n i)) (lvC n B W (eR n i)) (B (eL n i)) (B (eR n i))
def spE(n G dt D:Nat)(B:Nat->Nat)(W:Nat->Int)(Sp:Nat->Nat)(i:Nat):Nat:=if opE n B W i=true then spB G dt D (Sp i) (lvC n B W (eL n i)) (lvC n B W (eR n i)) (dpC n W (eL n i)) (dpC n W (eR n i)) (gpE n i)else 0
def iY(n lb lw lt ls:Nat):Prop:=lb=6*n*n/\lw=6*n*n/\lt=6*n*n/\ls=12*n*n
def has4(n lb lw lt ls:Nat)(e:Int):Prop:=iY n lb lw lt ls/\inR e (12*n*n:Nat)=true
def OpenC:Prop:= ∀(n gb:Nat) (pb:Option Addr) (lb cb:Nat) (B:Nat->Nat) (pw:Option Addr) (lw cw:Nat) (Wt:Nat->Int) (pt:Option Addr) (lt ct:Nat) (ps:Option Addr) (ls cs:Nat) (sky st e:Int) (w:World),(1<=n/\n<=32)->GridOf n gb w->IsFl w pb lb B->IsIn w pw lw Wt->(∃Sp,IsFl w ps ls Sp)->(-9223372036854775808<=e/\e<=9223372036854775807)->
 (has4 n lb lw lt ls e->Calls prog 11 #[.pointer (some ⟨gb,0,none⟩),.agg #[.slice pb lb cb,.slice pw lw cw,.slice pt lt ct,.slice ps ls cs,.int .i64 sky,.int .i64 st],.int .i64 e] w fun x w'=>x=.returned (.bool (opE n B Wt e.toNat))/\Below w.heap.size w w')/\
 (¬has4 n lb lw lt ls e->Calls prog 11 #[.pointer (some ⟨gb,0,none⟩),.agg #[.slice pb lb cb,.slice pw lw cw,.slice pt lt ct,.slice ps ls cs,.int .i64 sky,.int .i64 st],.int .i64 e] w fun x w'=>x=.returned (.bool false)/\Below w.heap.size w w')
def SpeedC:Prop:= ∀(n gb:Nat) (sd:Int) (dt gr dr:Nat) (lim:Int) (rv:Bool) (pr:Option Addr) (lr cr:Nat) (pb:Option Addr) (lb cb:Nat) (B:Nat->Nat) (pw:Option Addr) (lw cw:Nat) (Wt:Nat->Int) (pt:Option Addr) (lt ct:Nat) (ps:Option Addr) (ls cs:Nat) (Sp:Nat->Nat) (sky st e:Int) (w:World),(1<=n/\n<=32)->GridOf n gb w->IsFl w pb lb B->IsIn w pw lw Wt->IsFl w ps ls Sp->(dt<18446744073709551616/\gr<18446744073709551616/\dr<18446744073709551616)->(-9223372036854775808<=e/\e<=9223372036854775807)->
 (has4 n lb lw lt ls e->Calls prog 13 #[.pointer (some ⟨gb,0,none⟩),.agg #[.int .i64 sd,.float .f64 dt,.float .f64 gr,.float .f64 dr,.int .i64 lim,.bool rv,.slice pr lr cr],.agg #[.slice pb lb cb,.slice pw lw cw,.slice pt lt ct,.slice ps ls cs,.int .i64 sky,.int .i64 st],.int .i64 e] w fun x w'=>x=.returned (.float .f64 (spE n gr dt dr B Wt Sp e.toNat))/\Below w.heap.size w w')/\
 (¬has4 n lb lw lt ls e->Calls prog 13 #[.pointer (some ⟨gb,0,none⟩),.agg #[.int .i64 sd,.float .f64 dt,.float .f64 gr,.float .f64 dr,.int .i64 lim,.bool rv,.slice pr lr cr],.agg #[.slice pb lb cb,.slice pw lw cw,.slice pt lt ct,.slice ps ls cs,.int .i64 sky,.int .i64 st],.int .i64 e] w fun x w'=>x=.returned (.float .f64 0)/\Below w.heap.size w w')
end Fc
end
section
open Go.RowKit Tf Cu Go.Deep
namespace Spl
open Fc
theorem iL{n P k e c:Nat}(hc:c<6*n*n)(he:e ∈ edP n P k)(h:cA n (edT n e) c=true):c ∈ clP (6*n*n) P k\/c ∈ hlP n P k:=seen_of hc he h
theorem fl_seen{n P k e:Nat}{lim:Int}{B:Nat->Nat}{W:Nat->Int}{S:Nat->Nat}{dt:Nat}(hn:1<=n)(he:e ∈ edP n P k):
  flB n lim (shB (mkC n P k) B) (shW (mkC n P k) W) (shB (mkE n P k) S) dt e=flB n lim B W S dt e:=
 fl_local hn (gW.1 he).1 (fun _ hc h=>lD (iJ.2 (iL hc he h))) (fun _ hc h=>oX (iJ.2 (iL hc he h))) (lD (wS.2 he))
theorem rd_local{n k:Nat}{lim:Int}{B B':Nat->Nat}{W W':Nat->Int}{u:Nat}(hn:1<=n)(hk:k<12*n*n)(hB: ∀c,c<6*n*n->cA n (edT n k) c=true->B' c=B c)(hW: ∀c,c<6*n*n->cA n (edT n k) c=true->W' c=W c):
  rdAll n lim (6*n*n) (6*n*n) B' W' (k:Nat) u=rdAll n lim (6*n*n) (6*n*n) B W (k:Nat) u:=by
 obtain⟨t1,t2,t3⟩:=bQ hn hk
 unfold rdAll
 rw[if_pos ⟨bX.2 (by omega),rfl,rfl⟩,if_pos ⟨bX.2 (by omega),rfl,rfl⟩,Int.toNat_natCast]
 generalize edT n k=t at*
 have md:=fO hn t1
 have m1:=fA hn t1
 have q1:cA n t (t/4)=true:=by unfold cA;simp
 have q2:cA n t (mt n t/4)=true:=by unfold cA;rw[md.1];simp
 have q3:cA n t (bkC n t)=true:=by unfold cA bkC;simp
 have q4:cA n t (bkC n (mt n t))=true:=by unfold cA bkC;rw[md.1,md.2];simp
 have c1:=bR t1
 have c2:=bR m1
 have c3:bkC n t<6*n*n:=pH hn t1
 have c4:bkC n (mt n t)<6*n*n:=pH hn m1
 have e1:sdD n lim (arC n) B' W' t=sdD n lim (arC n) B W t:=jV (hB _ c1 q1) (hB _ c2 q2) (hW _ c1 q1) (hW _ c2 q2) (hW _ c3 q3)
 have e2:sdD n lim (arC n) B' W' (mt n t)=sdD n lim (arC n) B W (mt n t):=jV (hB _ c2 q2) (by rw[iQ hn t1];exact hB _ c1 q1) (hW _ c2 q2) (by rw[iQ hn t1];exact hW _ c1 q1) (hW _ c4 q4)
 unfold rdT
 rw[e1,e2]
theorem rd_seen{n P k e u:Nat}{lim:Int}{B:Nat->Nat}{W:Nat->Int}(hn:1<=n)(he:e ∈ edP n P k):
  rdAll n lim (6*n*n) (6*n*n) (shB (mkC n P k) B) (shW (mkC n P k) W) (e:Nat) u=rdAll n lim (6*n*n) (6*n*n) B W (e:Nat) u:=
 rd_local hn (gW.1 he).1 (fun _ hc h=>lD (iJ.2 (iL hc he h))) (fun _ hc h=>oX (iJ.2 (iL hc he h)))
theorem four_l{n e:Nat}:cA n (edT n e) (eL n e)=true:=by unfold cA eL;simp
theorem four_r{n e:Nat}(hn:1<=n)(he:e<12*n*n):cA n (edT n e) (eR n e)=true:=by
 unfold cA eR
 rw[(fO hn (bQ hn he).1).1]
 simp
theorem l_lt{n e:Nat}(hn:1<=n)(he:e<12*n*n):eL n e<6*n*n:=by
 have:=(bQ hn he).1
 unfold eL
 have:24*n*n=4*(6*n*n):=by rw[<- Nat.mul_assoc,<- Nat.mul_assoc]
 omega
theorem see_l{n P k e:Nat}(hn:1<=n)(he:e ∈ edP n P k):mkC n P k (eL n e)=true:=iJ.2 (iL (l_lt hn (gW.1 he).1) he four_l)
theorem see_r{n P k e:Nat}(hn:1<=n)(he:e ∈ edP n P k)(hr:eR n e<6*n*n):mkC n P k (eR n e)=true:=iJ.2 (iL hr he (four_r hn (gW.1 he).1))
theorem xG{n P k e:Nat}{B:Nat->Nat}{W:Nat->Int}(hn:1<=n)(he:e ∈ edP n P k)(hr:eR n e<6*n*n):
  opE n (shB (mkC n P k) B) (shW (mkC n P k) W) e=opE n B W e:=by
 unfold opE lvC
 rw[lD (see_l hn he),lD (see_r hn he hr),oX (see_l hn he),oX (see_r hn he hr)]
theorem sp_seen{n P k e G dt D:Nat}{B:Nat->Nat}{W:Nat->Int}{S:Nat->Nat}(hn:1<=n)(he:e ∈ edP n P k)(hr:eR n e<6*n*n):
  spE n G dt D (shB (mkC n P k) B) (shW (mkC n P k) W) (shB (mkE n P k) S) e=spE n G dt D B W S e:=by
 unfold spE
 rw[xG hn he hr]
 unfold lvC dpC
 rw[lD (see_l hn he),lD (see_r hn he hr),oX (see_l hn he),oX (see_r hn he hr),lD (wS.2 he)]
end Spl
end
section
open Go.RowKit Tf Cu Go.Deep
attribute [local go_sem] aI aJ aN aO aP aQ aV aF
namespace Spl
theorem zF(side parts:Int)(sd:Int)(dt gr dr:Nat)(lim:Int)(rv:Bool)(pr:Option Addr)(lr cr:Nat)(pb:Option Addr)(lb cb:Nat)(pw:Option Addr)(lw cw:Nat)(pt:Option Addr)(lt ct:Nat)(ps:Option Addr)(ls cs:Nat)(sky st:Int)(u:Nat)(w:World)(LV:Hid (∀v,Ab w v->Calls prog 4 #[] v fun e w'=>e=.returned (.bool true)/\Below v.heap.size v w'))
  (NW:Hid (∀v,Ab w v->Calls prog 5 #[.int .i64 side] v fun e w'=>e=.returned (.tuple #[.pointer none,.int .i64 10])/\w'=v)):
  Calls prog 3 #[.int .i64 side,.int .i64 parts,.agg #[.int .i64 sd,.float .f64 dt,.float .f64 gr,.float .f64 dr,.int .i64 lim,.bool rv,.slice pr lr cr],.agg #[.slice pb lb cb,.slice pw lw cw,.slice pt lt ct,.slice ps ls cs,.int .i64 sky,.int .i64 st],.float .f64 u] w fun e w'=>e=.returned (.bool true)/\Below w.heap.size w w':=by
 obtain⟨A0,P0,S0⟩:=bW w (.cells #[.int .i64 sd,.float .f64 dt,.float .f64 gr,.float .f64 dr,.int .i64 lim,.bool rv,.slice pr lr cr] 25) (.cells #[.slice pb lb cb,.slice pw lw cw,.slice pt lt ct,.slice ps ls cs,.int .i64 sky,.int .i64 st] 29)
 go_enter func3,ntmps3
 go_upto_region 1 with fail
 obtain⟨gp,hgp⟩:=aB w.heap.size
 obtain⟨gs,hgs⟩:=aB (w.heap.size+1)
 generalize hW:World.alloc (World.alloc w _) _=W at*
 rw[hgs]at S0 ⊢
 rw[hgp]at P0 ⊢
 clear hgp hgs hW
 go_wp2_with fail
 refine(LV.out _ A0.out).mono ?_
 rintro e9 v1 ⟨rfl,k1⟩
 have A1:Hid (Ab w v1):=A0.out.call k1
 have P1:=hid (Ab.heap k1 P0.out)
 have S1:=hid (Ab.heap k1 S0.out)
 clear k1 A0 P0 S0 LV
 go_wp2_with fail
 refine(NW.out v1 A1.out).mono ?_
 rintro e9 v2 ⟨rfl,hw⟩
 have hw2:=hw.symm
 subst hw2
 go_wp2
 go_ret
 exact⟨rfl,A1.out⟩
theorem sS(side parts:Int)(n:Nat)(sd:Int)(dt gr dr:Nat)(lim:Int)(rv:Bool)(pr:Option Addr)(lr cr:Nat)(pb:Option Addr)(lb cb:Nat)(pw:Option Addr)(lw cw:Nat)(pt:Option Addr)(lt ct:Nat)(ps:Option Addr)(ls cs:Nat)(sky st:Int)(u:Nat)(w:World)(LV:Hid (∀v,Ab w v->Calls prog 4 #[] v fun e w'=>e=.returned (.bool true)/\Below v.heap.size v w'))
  (NW:Hid (∀v,Ab w v->Calls prog 5 #[.int .i64 side] v fun e w'=> ∃gb,e=.returned (.tuple #[.pointer (some ⟨gb,0,none⟩),.int .i64 0])/\Ab v w'/\v.heap.size<=gb/\GridOf n gb w'))
  (LG:Hid (∀v,Calls prog 6 #[.agg #[.slice pb lb cb,.slice pw lw cw,.slice pt lt ct,.slice ps ls cs,.int .i64 sky,.int .i64 st]] v fun e w'=>e=.returned (.bool true)/\Below v.heap.size v w')):
  Calls prog 3 #[.int .i64 side,.int .i64 parts,.agg #[.int .i64 sd,.float .f64 dt,.float .f64 gr,.float .f64 dr,.int .i64 lim,.bool rv,.slice pr lr cr],.agg #[.slice pb lb cb,.slice pw lw cw,.slice pt lt ct,.slice ps ls cs,.int .i64 sky,.int .i64 st],.float .f64 u] w fun e w'=>e=.returned (.bool true)/\Below w.heap.size w w':=by
 obtain⟨A0,P0,S0⟩:=bW w (.cells #[.int .i64 sd,.float .f64 dt,.float .f64 gr,.float .f64 dr,.int .i64 lim,.bool rv,.slice pr lr cr] 25) (.cells #[.slice pb lb cb,.slice pw lw cw,.slice pt lt ct,.slice ps ls cs,.int .i64 sky,.int .i64 st] 29)
 go_enter func3,ntmps3
 go_upto_region 1 with fail
 obtain⟨gp,hgp⟩:=aB w.heap.size
 obtain⟨gs,hgs⟩:=aB (w.heap.size+1)
 generalize hW:World.alloc (World.alloc w _) _=W at*
 rw[hgs]at S0 ⊢
 rw[hgp]at P0 ⊢
 clear hgp hgs hW
 go_wp2_with fail
 refine(LV.out _ A0.out).mono ?_
 rintro e9 v1 ⟨rfl,k1⟩
 have A1:Hid (Ab w v1):=A0.out.call k1
 have P1:=hid (Ab.heap k1 P0.out)
 have S1:=hid (Ab.heap k1 S0.out)
 clear k1 A0 P0 S0 LV
 go_wp2_with fail
 refine(NW.out v1 A1.out).mono ?_
 rintro e9 v2 ⟨gb,rfl,k2,-,g2⟩
 have A2:Hid (Ab w v2):=A1.out.trans k2
 have P2:=hid (Ab.heap k2 P1.out)
 have S2:=hid (Ab.heap k2 S1.out)
 have G2:=hid g2
 clear k2 g2 NW A1 P1 S1
 have s0:=aH (S2.out)
 go_wp2_with fail
 refine(LG.out v2).mono ?_
 rintro e9 v3 ⟨rfl,k3⟩
 have A3:Hid (Ab w v3):=A2.out.trans k3
 have P3:=hid (Ab.heap k3 P2.out)
 have S3:=hid (Ab.heap k3 S2.out)
 have G3:=hid (G2.out.to k3)
 clear k3 A2 P2 S2 G2 LG s0
 go_wp2
 go_ret
 exact⟨rfl,A3.out⟩
theorem uZ(side parts:Int)(n:Nat)(sd:Int)(dt gr dr:Nat)(lim:Int)(rv:Bool)(pr:Option Addr)(lr cr:Nat)(pb:Option Addr)(lb cb:Nat)(pw:Option Addr)(lw cw:Nat)(pt:Option Addr)(lt ct:Nat)(ps:Option Addr)(ls cs:Nat)(sky st:Int)(u:Nat)(w:World)(LV:Hid (∀v,Ab w v->Calls prog 4 #[] v fun e w'=>e=.returned (.bool true)/\Below v.heap.size v w'))
  (NW:Hid (∀v,Ab w v->Calls prog 5 #[.int .i64 side] v fun e w'=> ∃gb,e=.returned (.tuple #[.pointer (some ⟨gb,0,none⟩),.int .i64 0])/\Ab v w'/\v.heap.size<=gb/\GridOf n gb w'))
  (LG:Hid (∀v,Calls prog 6 #[.agg #[.slice pb lb cb,.slice pw lw cw,.slice pt lt ct,.slice ps ls cs,.int .i64 sky,.int .i64 st]] v fun e w'=>e=.returned (.bool false)/\Below v.heap.size v w'))
  (SB:Hid (∀v gb,GridOf n gb v->Calls prog 7 #[.pointer (some ⟨gb,0,none⟩),.int .i64 parts] v fun e w'=>e=.returned (.tuple #[.slice none 0 0,.int .i64 1])/\Below v.heap.size v w')):
  Calls prog 3 #[.int .i64 side,.int .i64 parts,.agg #[.int .i64 sd,.float .f64 dt,.float .f64 gr,.float .f64 dr,.int .i64 lim,.bool rv,.slice pr lr cr],.agg #[.slice pb lb cb,.slice pw lw cw,.slice pt lt ct,.slice ps ls cs,.int .i64 sky,.int .i64 st],.float .f64 u] w fun e w'=>e=.returned (.bool true)/\Below w.heap.size w w':=by
 obtain⟨A0,P0,S0⟩:=bW w (.cells #[.int .i64 sd,.float .f64 dt,.float .f64 gr,.float .f64 dr,.int .i64 lim,.bool rv,.slice pr lr cr] 25) (.cells #[.slice pb lb cb,.slice pw lw cw,.slice pt lt ct,.slice ps ls cs,.int .i64 sky,.int .i64 st] 29)
 go_enter func3,ntmps3
 go_upto_region 1 with fail
 obtain⟨gp,hgp⟩:=aB w.heap.size
 obtain⟨gs,hgs⟩:=aB (w.heap.size+1)
 generalize hW:World.alloc (World.alloc w _) _=W at*
 rw[hgs]at S0 ⊢
 rw[hgp]at P0 ⊢
 clear hgp hgs hW
 go_wp2_with fail
 refine(LV.out _ A0.out).mono ?_
 rintro e9 v1 ⟨rfl,k1⟩
 have A1:Hid (Ab w v1):=A0.out.call k1
 have P1:=hid (Ab.heap k1 P0.out)
 have S1:=hid (Ab.heap k1 S0.out)
 clear k1 A0 P0 S0 LV
 go_wp2_with fail
 refine(NW.out v1 A1.out).mono ?_
 rintro e9 v2 ⟨gb,rfl,k2,-,g2⟩
 have A2:Hid (Ab w v2):=A1.out.trans k2
 have P2:=hid (Ab.heap k2 P1.out)
 have S2:=hid (Ab.heap k2 S1.out)
 have G2:=hid g2
 clear k2 g2 NW A1 P1 S1
 have s0:=aH (S2.out)
 go_wp2_with fail
 refine(LG.out v2).mono ?_
 rintro e9 v3 ⟨rfl,k3⟩
 have A3:Hid (Ab w v3):=A2.out.trans k3
 have P3:=hid (Ab.heap k3 P2.out)
 have S3:=hid (Ab.heap k3 S2.out)
 have G3:=hid (G2.out.to k3)
 clear k3 A2 P2 S2 G2 LG s0
 go_wp2_with fail
 refine(SB.out v3 gb G3.out).mono ?_
 rintro e9 v4 ⟨rfl,k4⟩
 have A4:Hid (Ab w v4):=A3.out.trans k4
 go_wp2
 go_ret
 exact⟨rfl,A4.out⟩
end Spl
end
section
open Go.RowKit Tf Cu Go.Deep
attribute [local go_sem] aI aJ aN aO aP aQ aV aF
namespace Spl
theorem qZ(side:Int)(n P:Nat)(sd:Int)(dt gr dr:Nat)(lim:Int)(rv:Bool)(pr:Option Addr)(lr cr:Nat)(pb:Option Addr)(lb cb:Nat)(pw:Option Addr)(lw cw:Nat)(pt:Option Addr)(lt ct:Nat)(ps:Option Addr)(ls cs:Nat)(sky st:Int)(u:Nat)(w:World)(hP:1<=P/\P<=64)(LV:Hid (∀v,Ab w v->Calls prog 4 #[] v fun e w'=>e=.returned (.bool true)/\Below v.heap.size v w'))
  (NW:Hid (∀v,Ab w v->Calls prog 5 #[.int .i64 side] v fun e w'=> ∃gb,e=.returned (.tuple #[.pointer (some ⟨gb,0,none⟩),.int .i64 0])/\Ab v w'/\v.heap.size<=gb/\GridOf n gb w'))
  (LG:Hid (∀v,Calls prog 6 #[.agg #[.slice pb lb cb,.slice pw lw cw,.slice pt lt ct,.slice ps ls cs,.int .i64 sky,.int .i64 st]] v fun e w'=>e=.returned (.bool false)/\Below v.heap.size v w'))
  (SP:Hid (∀v gb,GridOf n gb v->Calls prog 7 #[.pointer (some ⟨gb,0,none⟩),.int .i64 (P:Nat)] v fun e w'=> ∃gl p c,e=.returned (.tuple #[.slice (some ⟨gl,0,none⟩) P P,.int .i64 0])/\Below v.heap.size v w'/\PsAt n P gl p c w'))
  (AL:Hid (∀v gb,Ab w v->GridOf n gb v->Calls prog 8 #[.pointer (some ⟨gb,0,none⟩),.agg #[.int .i64 sd,.float .f64 dt,.float .f64 gr,.float .f64 dr,.int .i64 lim,.bool rv,.slice pr lr cr],.agg #[.slice pb lb cb,.slice pw lw cw,.slice pt lt ct,.slice ps ls cs,.int .i64 sky,.int .i64 st]] v fun e w'=>e=.returned (.tuple #[.slice none 0 0,.int .i64 1])/\Below v.heap.size v w'))
  (LK:Hid (∀v gb gl p c,Ab w v->GridOf n gb v->PsAt n P gl p c v->Calls prog 9 #[.pointer (some ⟨gb,0,none⟩),.agg #[.slice (p 0) (lsP n P 0).length (c 0),.slice (p 1) (lsP n P 1).length (c 1),.slice (p 2) (lsP n P 2).length (c 2)],.agg #[.slice pb lb cb,.slice pw lw cw,.slice pt lt ct,.slice ps ls cs,.int .i64 sky,.int .i64 st]] v fun e w'=>e=.returned (.tuple #[.agg #[.slice none 0 0,.slice none 0 0,.slice none 0 0,.slice none 0 0,.int .i64 0,.int .i64 0],.int .i64 1])/\Below v.heap.size v w')):
  Calls prog 3 #[.int .i64 side,.int .i64 (P:Nat),.agg #[.int .i64 sd,.float .f64 dt,.float .f64 gr,.float .f64 dr,.int .i64 lim,.bool rv,.slice pr lr cr],.agg #[.slice pb lb cb,.slice pw lw cw,.slice pt lt ct,.slice ps ls cs,.int .i64 sky,.int .i64 st],.float .f64 u] w fun e w'=>e=.returned (.bool true)/\Below w.heap.size w w':=by
 have hP1:(0:Int)<(P:Int):=by omega
 have hP0:0<P:=by omega
 have hP2:(P:Int)<=64:=by omega
 have HPP:=hid hP
 clear hP
 obtain⟨A0,P0,S0⟩:=bW w (.cells #[.int .i64 sd,.float .f64 dt,.float .f64 gr,.float .f64 dr,.int .i64 lim,.bool rv,.slice pr lr cr] 25) (.cells #[.slice pb lb cb,.slice pw lw cw,.slice pt lt ct,.slice ps ls cs,.int .i64 sky,.int .i64 st] 29)
 go_enter func3,ntmps3
 go_upto_region 1 with fail
 obtain⟨gp,hgp⟩:=aB w.heap.size
 obtain⟨gs,hgs⟩:=aB (w.heap.size+1)
 generalize hW:World.alloc (World.alloc w _) _=W at*
 rw[hgs]at S0 ⊢
 rw[hgp]at P0 ⊢
 clear hgp hgs hW
 go_wp2_with fail
 refine(LV.out _ A0.out).mono ?_
 rintro e9 v1 ⟨rfl,k1⟩
 have A1:Hid (Ab w v1):=A0.out.call k1
 have P1:=hid (Ab.heap k1 P0.out)
 have S1:=hid (Ab.heap k1 S0.out)
 clear k1 A0 P0 S0 LV
 go_wp2_with fail
 refine(NW.out v1 A1.out).mono ?_
 rintro e9 v2 ⟨gb,rfl,k2,-,g2⟩
 have A2:Hid (Ab w v2):=A1.out.trans k2
 have P2:=hid (Ab.heap k2 P1.out)
 have S2:=hid (Ab.heap k2 S1.out)
 have G2:=hid g2
 clear k2 g2 NW A1 P1 S1
 have s0:=aH (S2.out)
 go_wp2_with fail
 refine(LG.out v2).mono ?_
 rintro e9 v3 ⟨rfl,k3⟩
 have A3:Hid (Ab w v3):=A2.out.trans k3
 have P3:=hid (Ab.heap k3 P2.out)
 have S3:=hid (Ab.heap k3 S2.out)
 have G3:=hid (G2.out.to k3)
 clear k3 A2 P2 S2 G2 LG s0
 go_wp2_with fail
 refine(SP.out v3 gb G3.out).mono ?_
 rintro e9 v4 ⟨gl,qp,qc,rfl,k4,ps4⟩
 have A4:Hid (Ab w v4):=A3.out.trans k4
 have P4:=hid (Ab.heap k4 P3.out)
 have S4:=hid (Ab.heap k4 S3.out)
 have G4:=hid (G3.out.to k4)
 have Q4:=hid ps4
 clear k4 ps4 A3 P3 S3 G3 SP
 have s0:=aH (S4.out)
 have p0:=gK (P4.out)
 go_wp2_with fail
 refine(AL.out v4 gb A4.out G4.out).mono ?_
 rintro e9 v5 ⟨rfl,k5⟩
 have A5:Hid (Ab w v5):=A4.out.trans k5
 have S5:=hid (Ab.heap k5 S4.out)
 have G5:=hid (G4.out.to k5)
 have Q5:=hid (Q4.out.to k5)
 clear k5 A4 P4 S4 G4 Q4 AL s0 p0
 go_upto_region 11 with fail
 have l0:=(Q5.out.2 0 (by have:=HPP.out;omega)).1
 have l1:=(Q5.out.2 1 (by have:=HPP.out;omega)).1
 have l2:=(Q5.out.2 2 (by have:=HPP.out;omega)).1
 have LKk:Hid (∀v,Ab v5 v->Calls prog 9 #[.pointer (some ⟨gb,0,none⟩),.agg #[.slice (qp 0) (lsP n P 0).length (qc 0),.slice (qp 1) (lsP n P 1).length (qc 1),.slice (qp 2) (lsP n P 2).length (qc 2)],.agg #[.slice pb lb cb,.slice pw lw cw,.slice pt lt ct,.slice ps ls cs,.int .i64 sky,.int .i64 st]] v fun e w'=>e=.returned (.tuple #[.agg #[.slice none 0 0,.slice none 0 0,.slice none 0 0,.slice none 0 0,.int .i64 0,.int .i64 0],.int .i64 1])/\Below v.heap.size v w'/\Ab v5 v):=fun v a=>(LK.out v gb gl qp qc (A5.out.trans a) (G5.out.to a) (Q5.out.to a)).mono fun _ _ h=>⟨h.1,h.2,a⟩
 have GL:Hid (gl<v5.heap.size):=Q5.out.1
 generalize(lsP n P 0).length=la at*
 generalize(lsP n P 1).length=le at*
 generalize(lsP n P 2).length=lh at*
 generalize qp 0=qa at*
 generalize qp 1=qe at*
 generalize qp 2=qh at*
 generalize qc 0=ca at*
 generalize qc 1=ce at*
 generalize qc 2=ch at*
 have K0:=hid l0
 have K1:=hid l1
 have K2:=hid l2
 clear l0 l1 l2 LK
 go_cut [15,16]from 56 to 64 (fun s15 s16 wx=> ∃gm,s16=.int .i64 1/\s15=.pointer (some ⟨gm,0,none⟩)/\Ab v5 wx/\wx.heap[gm]? =some (.cells #[.slice none 0 0,.slice none 0 0,.slice none 0 0,.slice none 0 0,.int .i64 0,.int .i64 0] 29))
 case first=>
  have av:Ab v5 v5:=Ab.refl _
  have KS:Hid (∀w',Ab v5 w'->Ab v5 w'/\w'.cell? ⟨gl,0,none⟩=some (.slice qa la ca)/\w'.cell? ⟨gl,1,none⟩=some (.slice qe le ce)/\w'.cell? ⟨gl,2,none⟩=some (.slice qh lh ch)/\w'.cell? ⟨gs,0,none⟩=some (.slice pb lb cb)/\w'.cell? ⟨gs,1,none⟩=some (.slice pw lw cw)/\w'.cell? ⟨gs,2,none⟩=some (.slice pt lt ct)/\w'.cell? ⟨gs,3,none⟩=some (.slice ps ls cs)/\w'.cell? ⟨gs,4,none⟩=some (.int .i64 sky)/\w'.cell? ⟨gs,5,none⟩=some (.int .i64 st)):=fun w' h=>⟨h,(Below.cell h GL.out).trans K0.out,(Below.cell h GL.out).trans K1.out,(Below.cell h GL.out).trans K2.out,aA 0 (h.heap S5.out),aA 1 (h.heap S5.out),aA 2 (h.heap S5.out),aA 3 (h.heap S5.out),aA 4 (h.heap S5.out),aA 5 (h.heap S5.out)⟩
  go_region_held3 (fun w'=>Ab v5 w'/\w'.cell? ⟨gl,0,none⟩=some (.slice qa la ca)/\w'.cell? ⟨gl,1,none⟩=some (.slice qe le ce)/\w'.cell? ⟨gl,2,none⟩=some (.slice qh lh ch)/\w'.cell? ⟨gs,0,none⟩=some (.slice pb lb cb)/\w'.cell? ⟨gs,1,none⟩=some (.slice pw lw cw)/\w'.cell? ⟨gs,2,none⟩=some (.slice pt lt ct)/\w'.cell? ⟨gs,3,none⟩=some (.slice ps ls cs)/\w'.cell? ⟨gs,4,none⟩=some (.int .i64 sky)/\w'.cell? ⟨gs,5,none⟩=some (.int .i64 st)) ((refine KS.out _ ?_;(with_reducible (repeat(first | assumption | apply Ab.drew | apply Ab.alloc | (refine Ab.setk ?_ (by first | assumption | exact Nat.le_refl _) _))));done)) (first
   | (go_at_call 9;refine(LKk.out _ (show Ab v5 _ by with_reducible (repeat(first | assumption | apply Ab.drew | apply Ab.alloc)))).mono ?_;rintro e9 z2 ⟨rfl,c2,lo⟩;have az2:Ab v5 z2:=Ab.trans lo c2;have LO:=hid (Ab.size lo);clear lo;first
    | (have q2:=Ab.heap c2 (dA _ _);have t0:=aA 0 q2;have f0:=aE q2 0;have t1:=aA 1 q2;have f1:=aE q2 1;have t2:=aA 2 q2;have f2:=aE q2 2;have t3:=aA 3 q2;have f3:=aE q2 3;have t4:=aA 4 q2;have f4:=aE q2 4;have t5:=aA 5 q2;have f5:=aE q2 5;skip)
    | (have q2:=Ab.heap c2 (heap_alloc_new _ _);have t0:=aA 0 q2;have f0:=aE q2 0;have t1:=aA 1 q2;have f1:=aE q2 1;have t2:=aA 2 q2;have f2:=aE q2 2;have t3:=aA 3 q2;have f3:=aE q2 3;have t4:=aA 4 q2;have f4:=aE q2 4;have t5:=aA 5 q2;have f5:=aE q2 5;skip)
    | skip))
  all_goals(try go_wp2_with fail)
  all_goals(try go_meet)
  all_goals first
   | (have q9:=q2;exact⟨_,rfl,rfl,(((((az2.setk (Nat.le_refl _) _).setk (Nat.le_refl _) _).setk (Nat.le_refl _) _).setk (Nat.le_refl _) _).setk (Nat.le_refl _) _).setk (Nat.le_refl _) _,row6 q9⟩)
   | exact⟨_,rfl,rfl,az2.alloc _,heap_alloc_new _ _⟩
 case rest=>
  obtain⟨gm,rfl,rfl,ac,rm⟩:=hcut
  rename World=>v6
  have A6:Hid (Ab w v6):=A5.out.trans ac
  have M6:=hid rm
  clear ac rm
  have m0:=aH (M6.out)
  go_wp2_with fail
  refine(zB v6).mono ?_
  rintro e9 v7 ⟨rfl,k7⟩
  have A7:Hid (Ab w v7):=A6.out.trans k7
  go_wp2
  go_ret
  exact⟨rfl,A7.out⟩
end Spl
end
section
open Go.RowKit Tf Cu Go.Deep
attribute [local go_sem] aI aJ aN aO aP aQ aV aF
namespace Spl
theorem zG(side:Int)(n N M P:Nat)(sd:Int)(dt gr dr:Nat)(lim:Int)(rv:Bool)(pr:Option Addr)(lr cr:Nat)(pb:Option Addr)(cb:Nat)(pw:Option Addr)(cw:Nat)(pt:Option Addr)(ct:Nat)(ps:Option Addr)(cs:Nat)(sky st:Int)(u:Nat)(A:Nat->Nat->Nat)(Wk Tk:Nat->Nat->Int)(Sk:Nat->Nat->Nat)(FA:Nat->Int)(FK:Nat->Nat->Int)(O:Nat->Bool)(SD DD:Nat->Nat)(w:World)(hP:P<=64)(hM:M<=12288)
  (LV:Hid (∀v,Ab w v->Calls prog 4 #[] v fun e w'=>e=.returned (.bool true)/\Below v.heap.size v w'))
  (NW:Hid (∀v,Ab w v->Calls prog 5 #[.int .i64 side] v fun e w'=> ∃gb,e=.returned (.tuple #[.pointer (some ⟨gb,0,none⟩),.int .i64 0])/\Ab v w'/\v.heap.size<=gb/\GridOf n gb w'))
  (LG:Hid (∀v,Calls prog 6 #[.agg #[.slice pb N cb,.slice pw N cw,.slice pt N ct,.slice ps M cs,.int .i64 sky,.int .i64 st]] v fun e w'=>e=.returned (.bool false)/\Below v.heap.size v w'))
  (SP:Hid (∀v gb,GridOf n gb v->Calls prog 7 #[.pointer (some ⟨gb,0,none⟩),.int .i64 (P:Nat)] v fun e w'=> ∃gl p c,e=.returned (.tuple #[.slice (some ⟨gl,0,none⟩) P P,.int .i64 0])/\Below v.heap.size v w'/\PsAt n P gl p c w'))
  (AL:Hid (∀v gb,Ab w v->GridOf n gb v->Calls prog 8 #[.pointer (some ⟨gb,0,none⟩),.agg #[.int .i64 sd,.float .f64 dt,.float .f64 gr,.float .f64 dr,.int .i64 lim,.bool rv,.slice pr lr cr],.agg #[.slice pb N cb,.slice pw N cw,.slice pt N ct,.slice ps M cs,.int .i64 sky,.int .i64 st]] v fun e w'=> ∃b,e=.returned (.tuple #[.slice (some ⟨b,0,none⟩) M M,.int .i64 0])/\Below v.heap.size v w'/\w'.rowIs b 2 M (fun i=>.int .i64 (FA i))/\v.heap.size<=b))
  (LK:Hid (∀v gb gl p c k,k<P->Ab w v->GridOf n gb v->PsAt n P gl p c v->Calls prog 9 #[.pointer (some ⟨gb,0,none⟩),.agg #[.slice (p (k*3)) (lsP n P (k*3)).length (c (k*3)),.slice (p (k*3+1)) (lsP n P (k*3+1)).length (c (k*3+1)),.slice (p (k*3+2)) (lsP n P (k*3+2)).length (c (k*3+2))],.agg #[.slice pb N cb,.slice pw N cw,.slice pt N ct,.slice ps M cs,.int .i64 sky,.int .i64 st]] v fun e w'=> ∃s,e=.returned (.tuple #[s,.int .i64 0])/\Below v.heap.size v w'/\OwnS v.heap.size s N N N M (A k) (Wk k) (Tk k) (Sk k) 0 st w'))
  (BN:Hid (∀k,Bnd N N N M (A k) (Wk k) (Tk k) (Sk k)))
  (LB:Hid (∀i,(lsP n P i).length<=12288))
  (AM:Hid (∀v gb k (x1:Option Addr) (c1:Nat) (x2:Option Addr) (c2:Nat) (x3:Option Addr) (c3:Nat) (x4:Option Addr) (c4:Nat),k<P->GridOf n gb v->IsFl v x1 N (A k)->Sh.IsI v x2 N (Wk k)->IsFl v x4 M (Sk k)->Calls prog 8 #[.pointer (some ⟨gb,0,none⟩),.agg #[.int .i64 sd,.float .f64 dt,.float .f64 gr,.float .f64 dr,.int .i64 lim,.bool rv,.slice pr lr cr],.agg #[.slice x1 N c1,.slice x2 N c2,.slice x3 N c3,.slice x4 M c4,.int .i64 0,.int .i64 st]] v fun e w'=> ∃b,e=.returned (.tuple #[.slice (some ⟨b,0,none⟩) M M,.int .i64 0])/\Below v.heap.size v w'/\w'.rowIs b 2 M (fun i=>.int .i64 (FK k i))))
  (FE:Hid (∀k i,k<P->i<(lsP n P (k*3+1)).length-> ∃e:Nat,rd (lsP n P (k*3+1)) i=(e:Int)/\e<M/\FK k e=FA e/\e ∈ lsP n P (k*3+1)))
  (OS:Hid (∀v gb (e:Nat),Ab w v->GridOf n gb v->e<M->Calls prog 11 #[.pointer (some ⟨gb,0,none⟩),.agg #[.slice pb N cb,.slice pw N cw,.slice pt N ct,.slice ps M cs,.int .i64 sky,.int .i64 st],.int .i64 (e:Nat)] v fun x w'=>x=.returned (.bool (O e))/\Below v.heap.size v w'))
  (OM:Hid (∀v gb k (e:Nat) (x1:Option Addr) (c1:Nat) (x2:Option Addr) (c2:Nat) (x3:Option Addr) (c3:Nat) (x4:Option Addr) (c4:Nat),k<P->e ∈ lsP n P (k*3+1)->GridOf n gb v->IsFl v x1 N (A k)->Sh.IsI v x2 N (Wk k)->IsFl v x4 M (Sk k)->Calls prog 11 #[.pointer (some ⟨gb,0,none⟩),.agg #[.slice x1 N c1,.slice x2 N c2,.slice x3 N c3,.slice x4 M c4,.int .i64 0,.int .i64 st],.int .i64 (e:Nat)] v fun x w'=>x=.returned (.bool (O e))/\Below v.heap.size v w'))
  (VS:Hid (∀v gb (e:Nat),Ab w v->GridOf n gb v->e<M->Calls prog 13 #[.pointer (some ⟨gb,0,none⟩),.agg #[.int .i64 sd,.float .f64 dt,.float .f64 gr,.float .f64 dr,.int .i64 lim,.bool rv,.slice pr lr cr],.agg #[.slice pb N cb,.slice pw N cw,.slice pt N ct,.slice ps M cs,.int .i64 sky,.int .i64 st],.int .i64 (e:Nat)] v fun x w'=>x=.returned (.float .f64 (SD e))/\Below v.heap.size v w'))
  (VM:Hid (∀v gb k (e:Nat) (x1:Option Addr) (c1:Nat) (x2:Option Addr) (c2:Nat) (x3:Option Addr) (c3:Nat) (x4:Option Addr) (c4:Nat),k<P->e ∈ lsP n P (k*3+1)->GridOf n gb v->IsFl v x1 N (A k)->Sh.IsI v x2 N (Wk k)->IsFl v x4 M (Sk k)->Calls prog 13 #[.pointer (some ⟨gb,0,none⟩),.agg #[.int .i64 sd,.float .f64 dt,.float .f64 gr,.float .f64 dr,.int .i64 lim,.bool rv,.slice pr lr cr],.agg #[.slice x1 N c1,.slice x2 N c2,.slice x3 N c3,.slice x4 M c4,.int .i64 0,.int .i64 st],.int .i64 (e:Nat)] v fun x w'=>x=.returned (.float .f64 (SD e))/\Below v.heap.size v w'))
  (DS:Hid (∀v gb (e:Nat),Ab w v->GridOf n gb v->e<M->Calls prog 14 #[.pointer (some ⟨gb,0,none⟩),.int .i64 lim,.agg #[.slice pb N cb,.slice pw N cw,.slice pt N ct,.slice ps M cs,.int .i64 sky,.int .i64 st],.int .i64 (e:Nat),.float .f64 u] v fun x w'=>x=.returned (.float .f64 (DD e))/\Below v.heap.size v w'))
  (DM:Hid (∀v gb k (e:Nat) (x1:Option Addr) (c1:Nat) (x2:Option Addr) (c2:Nat) (x3:Option Addr) (c3:Nat) (x4:Option Addr) (c4:Nat),k<P->e ∈ lsP n P (k*3+1)->GridOf n gb v->IsFl v x1 N (A k)->Sh.IsI v x2 N (Wk k)->IsFl v x4 M (Sk k)->Calls prog 14 #[.pointer (some ⟨gb,0,none⟩),.int .i64 lim,.agg #[.slice x1 N c1,.slice x2 N c2,.slice x3 N c3,.slice x4 M c4,.int .i64 0,.int .i64 st],.int .i64 (e:Nat),.float .f64 u] v fun x w'=>x=.returned (.float .f64 (DD e))/\Below v.heap.size v w')):
  Calls prog 3 #[.int .i64 side,.int .i64 (P:Nat),.agg #[.int .i64 sd,.float .f64 dt,.float .f64 gr,.float .f64 dr,.int .i64 lim,.bool rv,.slice pr lr cr],.agg #[.slice pb N cb,.slice pw N cw,.slice pt N ct,.slice ps M cs,.int .i64 sky,.int .i64 st],.float .f64 u] w fun e w'=>e=.returned (.bool true)/\Below w.heap.size w w':=by
 have pB:(P:Int)<=64:=by omega
 have mB:(M:Int)<=12288:=by omega
 clear hP hM
 obtain⟨A0,P0,S0⟩:=bW w (.cells #[.int .i64 sd,.float .f64 dt,.float .f64 gr,.float .f64 dr,.int .i64 lim,.bool rv,.slice pr lr cr] 25) (.cells #[.slice pb N cb,.slice pw N cw,.slice pt N ct,.slice ps M cs,.int .i64 sky,.int .i64 st] 29)
 go_enter func3,ntmps3
 go_upto_region 1 with fail
 obtain⟨gp,hgp⟩:=aB w.heap.size
 obtain⟨gs,hgs⟩:=aB (w.heap.size+1)
 generalize hW:World.alloc (World.alloc w _) _=W at*
 rw[hgs]at S0 ⊢
 rw[hgp]at P0 ⊢
 clear hgp hgs hW
 go_wp2_with fail
 refine(LV.out _ A0.out).mono ?_
 rintro e9 v1 ⟨rfl,k1⟩
 have A1:Hid (Ab w v1):=A0.out.call k1
 have P1:=hid (Ab.heap k1 P0.out)
 have S1:=hid (Ab.heap k1 S0.out)
 clear k1 A0 P0 S0 LV
 go_wp2_with fail
 refine(NW.out v1 A1.out).mono ?_
 rintro e9 v2 ⟨gb,rfl,k2,-,g2⟩
 have A2:Hid (Ab w v2):=A1.out.trans k2
 have P2:=hid (Ab.heap k2 P1.out)
 have S2:=hid (Ab.heap k2 S1.out)
 have G2:=hid g2
 clear k2 g2 NW A1 P1 S1
 obtain⟨s0,s1,s2,s3,s4,s5⟩:=aH (S2.out)
 go_wp2_with fail
 refine(LG.out v2).mono ?_
 rintro e9 v3 ⟨rfl,k3⟩
 have A3:Hid (Ab w v3):=A2.out.trans k3
 have P3:=hid (Ab.heap k3 P2.out)
 have S3:=hid (Ab.heap k3 S2.out)
 have G3:=hid (G2.out.to k3)
 clear k3 A2 P2 S2 G2 LG s0 s1 s2 s3 s4 s5
 go_wp2_with fail
 refine(SP.out v3 gb G3.out).mono ?_
 rintro e9 v4 ⟨gl,qp,qc,rfl,k4,ps4⟩
 have A4:Hid (Ab w v4):=A3.out.trans k4
 have P4:=hid (Ab.heap k4 P3.out)
 have S4:=hid (Ab.heap k4 S3.out)
 have G4:=hid (G3.out.to k4)
 have Q4:=hid ps4
 clear k4 ps4 A3 P3 S3 G3 SP
 obtain⟨s0,s1,s2,s3,s4,s5⟩:=aH (S4.out)
 obtain⟨p0,p1,p2,p3,p4,p5,p6⟩:=gK (P4.out)
 go_wp2_with fail
 refine(AL.out v4 gb A4.out G4.out).mono ?_
 rintro e9 v5 ⟨ba,rfl,k5,r5,-⟩
 have A5:Hid (Ab w v5):=A4.out.trans k5
 have P5:=hid (Ab.heap k5 P4.out)
 have S5:=hid (Ab.heap k5 S4.out)
 have G5:=hid (G4.out.to k5)
 have Q5:=hid (Q4.out.to k5)
 have R5:=hid r5
 clear k5 r5 A4 P4 S4 G4 Q4 AL s0 s1 s2 s3 s4 s5 p0 p1 p2 p3 p4 p5 p6
 go_wp2_with fail
 go_loopw [17] (fun kv wr=> ∃k:Nat,k<=P/\kv=.int .i64 (k:Nat)/\Ab v5 wr) (fun kv _=>P - (intOf kv).toNat)
 case atStart=>exact⟨0,by omega,rfl,Ab.refl _⟩
 case round=>
  obtain⟨k,hk,rfl,ar⟩:=hrel
  have AR:=hid ar
  have HKL:=hid hk
  have kB:(k:Int)<=64:=by omega
  clear ar hk
  by_cases hkn:k<P
  ·have HK:=hid hkn
   have kI:(k:Int)<P:=by omega
   have QR:=hid (Q5.out.to AR.out)
   have GR:=hid (G5.out.to AR.out)
   have SR:=hid (Ab.heap AR.out S5.out)
   have PR:=hid (Ab.heap AR.out P5.out)
   have WR:Hid (Ab w wr):=A5.out.trans AR.out
   have l0:=(QR.out.2 (k*3) (by omega)).1
   have l1:=(QR.out.2 (k*3+1) (by omega)).1
   have l2:=(QR.out.2 (k*3+2) (by omega)).1
   have e1:=(QR.out.2 (k*3+1) (by omega)).2
   have GL:Hid (gl<wr.heap.size):=QR.out.1
   have leB0:=LB.out (k*3+1)
   have LKk:Hid (∀v,Ab wr v->Calls prog 9 #[.pointer (some ⟨gb,0,none⟩),.agg #[.slice (qp (k*3)) (lsP n P (k*3)).length (qc (k*3)),.slice (qp (k*3+1)) (lsP n P (k*3+1)).length (qc (k*3+1)),.slice (qp (k*3+2)) (lsP n P (k*3+2)).length (qc (k*3+2))],.agg #[.slice pb N cb,.slice pw N cw,.slice pt N ct,.slice ps M cs,.int .i64 sky,.int .i64 st]] v fun e w'=> ∃s,e=.returned (.tuple #[s,.int .i64 0])/\Below v.heap.size v w'/\OwnS v.heap.size s N N N M (A k) (Wk k) (Tk k) (Sk k) 0 st w'/\Ab wr v):=fun v a=>(LK.out v gb gl qp qc k hkn (WR.out.trans a) (GR.out.to a) (QR.out.to a)).mono fun _ _ ⟨s,h1,h2,h3⟩=>⟨s,h1,h2,h3,a⟩
   have FEk:=hid (fun i=>FE.out k i hkn)
   have AMk:=hid (fun v gb x1 c1 x2 c2 x3 c3 x4 c4=>AM.out v gb k x1 c1 x2 c2 x3 c3 x4 c4 hkn)
   have OMk:=hid (fun v gb e x1 c1 x2 c2 x3 c3 x4 c4=>OM.out v gb k e x1 c1 x2 c2 x3 c3 x4 c4 hkn)
   have VMk:=hid (fun v gb e x1 c1 x2 c2 x3 c3 x4 c4=>VM.out v gb k e x1 c1 x2 c2 x3 c3 x4 c4 hkn)
   have DMk:=hid (fun v gb e x1 c1 x2 c2 x3 c3 x4 c4=>DM.out v gb k e x1 c1 x2 c2 x3 c3 x4 c4 hkn)
   have BF:=hid (BN.out k)
   generalize A k=Ak at*
   generalize Wk k=Wkk at*
   generalize Tk k=Tkk at*
   generalize Sk k=Skk at*
   generalize FK k=FKk at*
   generalize hle:(lsP n P (k*3+1)).length=le at*
   generalize hre:rd (lsP n P (k*3+1))=Re at*
   generalize lsP n P (k*3+1)=Le at*
   clear hle hre
   generalize(lsP n P (k*3)).length=la at*
   generalize(lsP n P (k*3+2)).length=lh at*
   generalize qp (k*3)=qa at*
   generalize qp (k*3+1)=qe at*
   generalize qp (k*3+2)=qh at*
   generalize qc (k*3)=ca at*
   generalize qc (k*3+1)=ce at*
   generalize qc (k*3+2)=ch at*
   have leB:(le:Int)<=12288:=by omega
   have E1:=hid e1
   clear hkn e1 leB0
   by_cases hz:le=0
   ·have z1:((le:Int)==0)=true:=by simp[hz]
    clear hz
    go_wp2
    exact⟨⟨k+1,by have:=HK.out;omega,by simp,AR.out⟩,by have:=HK.out;simp[intOf];omega⟩
   ·have z1:((le:Int)==0)=false:=by simp[hz]
    obtain⟨eb,eo,rfl⟩:=E1.out.some0 (by omega)
    clear hz
    go_upto_region 17 with fail
    have K0:=hid l0
    have K1:=hid l1
    have K2:=hid l2
    clear l0 l1 l2 z1
    go_cut [18,19]from 72 to 182 (fun s18 s19 wx=> ∃gm mp1 mc1 mp2 mc2 mp3 mc3 mp4 mc4,s19=.int .i64 0/\s18=.pointer (some ⟨gm,0,none⟩)/\Ab wr wx/\wr.heap.size<=gm/\SeaP gm mp1 mc1 mp2 mc2 mp3 mc3 mp4 mc4 N N N M Ak Wkk Tkk Skk 0 st wx/\((∀b o,mp1=some ⟨b,o,none⟩->wr.heap.size<=b)/\(∀b o,mp2=some ⟨b,o,none⟩->wr.heap.size<=b)/\(∀b o,mp3=some ⟨b,o,none⟩->wr.heap.size<=b)/\ ∀b o,mp4=some ⟨b,o,none⟩->wr.heap.size<=b))
    case first=>
     have av:Ab wr wr:=Ab.refl _
     have KS:Hid (∀w',Ab wr w'->Ab wr w'/\w'.cell? ⟨gl,k*3,none⟩=some (.slice qa la ca)/\w'.cell? ⟨gl,k*3+1,none⟩=some (.slice (some ⟨eb,eo,none⟩) le ce)/\w'.cell? ⟨gl,k*3+2,none⟩=some (.slice qh lh ch)/\w'.cell? ⟨gs,0,none⟩=some (.slice pb N cb)/\w'.cell? ⟨gs,1,none⟩=some (.slice pw N cw)/\w'.cell? ⟨gs,2,none⟩=some (.slice pt N ct)/\w'.cell? ⟨gs,3,none⟩=some (.slice ps M cs)/\w'.cell? ⟨gs,4,none⟩=some (.int .i64 sky)/\w'.cell? ⟨gs,5,none⟩=some (.int .i64 st)):=fun w' h=>⟨h,(Below.cell h GL.out).trans K0.out,(Below.cell h GL.out).trans K1.out,(Below.cell h GL.out).trans K2.out,aA 0 (h.heap SR.out),aA 1 (h.heap SR.out),aA 2 (h.heap SR.out),aA 3 (h.heap SR.out),aA 4 (h.heap SR.out),aA 5 (h.heap SR.out)⟩
     go_region_held3 (fun w'=>Ab wr w'/\w'.cell? ⟨gl,k*3,none⟩=some (.slice qa la ca)/\w'.cell? ⟨gl,k*3+1,none⟩=some (.slice (some ⟨eb,eo,none⟩) le ce)/\w'.cell? ⟨gl,k*3+2,none⟩=some (.slice qh lh ch)/\w'.cell? ⟨gs,0,none⟩=some (.slice pb N cb)/\w'.cell? ⟨gs,1,none⟩=some (.slice pw N cw)/\w'.cell? ⟨gs,2,none⟩=some (.slice pt N ct)/\w'.cell? ⟨gs,3,none⟩=some (.slice ps M cs)/\w'.cell? ⟨gs,4,none⟩=some (.int .i64 sky)/\w'.cell? ⟨gs,5,none⟩=some (.int .i64 st)) ((refine KS.out _ ?_;(with_reducible (repeat(first | assumption | apply Ab.drew | apply Ab.alloc | (refine Ab.setk ?_ (by first | assumption | exact Nat.le_refl _) _))));done)) (first
      | (go_at_call 9;refine(LKk.out _ (show Ab wr _ by with_reducible (repeat(first | assumption | apply Ab.drew | apply Ab.alloc)))).mono ?_;rintro e9 z2 ⟨vv,rfl,c2,os,lo⟩;have az2:Ab wr z2:=Ab.trans lo c2;have LO:=hid (Ab.size lo);clear lo;first
        | (have q0:=Ab.heap c2 (dA _ _);obtain⟨mp1,mc1,mp2,mc2,mp3,mc3,mp4,mc4,rfl,q2,FIN,MM⟩:=lY (dA _ _) c2 os BF.out;have t0:=aA 0 q2;have f0:=aE q2 0;have t1:=aA 1 q2;have f1:=aE q2 1;have t2:=aA 2 q2;have f2:=aE q2 2;have t3:=aA 3 q2;have f3:=aE q2 3;have t4:=aA 4 q2;have f4:=aE q2 4;have t5:=aA 5 q2;have f5:=aE q2 5;skip)
        | (have q0:=Ab.heap c2 (heap_alloc_new _ _);obtain⟨mp1,mc1,mp2,mc2,mp3,mc3,mp4,mc4,rfl,q2,FIN,MM⟩:=lY (heap_alloc_new _ _) c2 os BF.out;have t0:=aA 0 q2;have f0:=aE q2 0;have t1:=aA 1 q2;have f1:=aE q2 1;have t2:=aA 2 q2;have f2:=aE q2 2;have t3:=aA 3 q2;have f3:=aE q2 3;have t4:=aA 4 q2;have f4:=aE q2 4;have t5:=aA 5 q2;have f5:=aE q2 5;skip)
        | (obtain⟨mp1,mc1,mp2,mc2,mp3,mc3,mp4,mc4,rfl,FIN,MM⟩:=wX os BF.out)))
     all_goals(try go_wp2_with fail)
     all_goals(try go_meet)
     all_goals first
      | (have q9:=q2;exact⟨_,_,_,_,_,_,_,_,_,rfl,rfl,(((((az2.setk (Nat.le_refl _) _).setk (Nat.le_refl _) _).setk (Nat.le_refl _) _).setk (Nat.le_refl _) _).setk (Nat.le_refl _) _).setk (Nat.le_refl _) _,Nat.le_refl _,FIN,MM.up LO.out⟩)
      | exact⟨_,_,_,_,_,_,_,_,_,rfl,rfl,az2.alloc _,az2.size,FIN,MM.up LO.out⟩
    case rest=>
     obtain⟨gm,mp1,mc1,mp2,mc2,mp3,mc3,mp4,mc4,rfl,rfl,ac,ltm,spm,mmm⟩:=hcut
     rename World=>v8
     have A8:Hid (Ab wr v8):=ac
     have M8:=hid spm
     clear ac ltm spm mmm
     have P8:=hid (Ab.heap A8.out PR.out)
     have G8:=hid (GR.out.to A8.out)
     obtain⟨p0,p1,p2,p3,p4,p5,p6⟩:=gK (P8.out)
     obtain⟨m0,m1,m2,m3,m4,m5⟩:=aH (M8.out.1)
     go_wp2_with fail
     refine(AMk.out v8 gb mp1 mc1 mp2 mc2 mp3 mc3 mp4 mc4 G8.out M8.out.2.1 M8.out.2.2.1 M8.out.2.2.2.2).mono ?_
     rintro e9 v9 ⟨bo,rfl,k9,r9⟩
     have A9:Hid (Ab wr v9):=A8.out.trans k9
     have M9:=hid (M8.out.to k9)
     have R9:=hid r9
     clear k9 r9 A8 M8 P8 G8 AMk p0 p1 p2 p3 p4 p5 p6 m0 m1 m2 m3 m4 m5
     have K19:=(Below.cell A9.out GL.out).trans K1.out
     go_wp2_with fail
     go_loopw [22] (fun iv wq=> ∃i:Nat,i<=le/\iv=.int .i64 (i:Nat)/\Ab v9 wq) (fun iv _=>le - (intOf iv).toNat)
     case atStart=>exact⟨0,by omega,rfl,Ab.refl _⟩
     case round=>
      obtain⟨i,hi,rfl,aq⟩:=hrel
      rename World=>wq
      have AQ:=hid aq
      have HIL:=hid hi
      have iB:(i:Int)<=12288:=by omega
      have A10:Hid (Ab wr wq):=A9.out.trans AQ.out
      have k1c:=(Below.cell A10.out GL.out).trans K1.out
      clear aq hi
      by_cases hin:i<le
      ·have HI:=hid hin
       have iI:(i:Int)<le:=by omega
       obtain⟨e,re,hem,fe,mem⟩:=FEk.out i hin
       obtain⟨_,_,_,q1,q2,q3⟩:=E1.out i hin
       cases q1
       rw[re]at q3
       have y0:=(Below.cell A10.out q2).trans q3
       have eI:(e:Int)<M:=by omega
       have eB:(e:Int)<=12288:=by omega
       have MEM:=hid mem
       have HEM:=hid hem
       have z1:=(rowIs.ab R9.out AQ.out).cell hem
       have z2:=(rowIs.ab R5.out (AR.out.trans A10.out)).cell hem
       try dsimp only at z1 z2
       rw[fe]at z1
       obtain⟨d,hd⟩:=aB (FA e)
       rw[hd]at z1 z2
       have G10:=hid (GR.out.to A10.out)
       have S10:=hid (Ab.heap A10.out SR.out)
       have P10:=hid (Ab.heap A10.out PR.out)
       have M10:=hid (M9.out.to AQ.out)
       have W10:Hid (Ab w wq):=WR.out.trans A10.out
       have Z1:=hid z1
       have Z2:=hid z2
       have ZB:Hid (bo<wq.heap.size/\ba<wq.heap.size):=⟨(rowIs.ab R9.out AQ.out).lt,(rowIs.ab R5.out (AR.out.trans A10.out)).lt⟩
       have CO1:Hid (∀v,Ab wq v->Calls prog 11 #[.pointer (some ⟨gb,0,none⟩),.agg #[.slice mp1 N mc1,.slice mp2 N mc2,.slice mp3 N mc3,.slice mp4 M mc4,.int .i64 0,.int .i64 st],.int .i64 (e:Nat)] v fun x w'=>x=.returned (.bool (O e))/\Below v.heap.size v w'):=fun v a=>OMk.out v gb e mp1 mc1 mp2 mc2 mp3 mc3 mp4 mc4 MEM.out (G10.out.to a) (M10.out.to a).2.1 (M10.out.to a).2.2.1 (M10.out.to a).2.2.2.2
       have CO2:Hid (∀v,Ab wq v->Calls prog 11 #[.pointer (some ⟨gb,0,none⟩),.agg #[.slice pb N cb,.slice pw N cw,.slice pt N ct,.slice ps M cs,.int .i64 sky,.int .i64 st],.int .i64 (e:Nat)] v fun x w'=>x=.returned (.bool (O e))/\Below v.heap.size v w'):=fun v a=>OS.out v gb e (W10.out.trans a) (G10.out.to a) HEM.out
       have CV1:Hid (∀v,Ab wq v->Calls prog 13 #[.pointer (some ⟨gb,0,none⟩),.agg #[.int .i64 sd,.float .f64 dt,.float .f64 gr,.float .f64 dr,.int .i64 lim,.bool rv,.slice pr lr cr],.agg #[.slice mp1 N mc1,.slice mp2 N mc2,.slice mp3 N mc3,.slice mp4 M mc4,.int .i64 0,.int .i64 st],.int .i64 (e:Nat)] v fun x w'=>x=.returned (.float .f64 (SD e))/\Below v.heap.size v w'):=fun v a=>VMk.out v gb e mp1 mc1 mp2 mc2 mp3 mc3 mp4 mc4 MEM.out (G10.out.to a) (M10.out.to a).2.1 (M10.out.to a).2.2.1 (M10.out.to a).2.2.2.2
       have CV2:Hid (∀v,Ab wq v->Calls prog 13 #[.pointer (some ⟨gb,0,none⟩),.agg #[.int .i64 sd,.float .f64 dt,.float .f64 gr,.float .f64 dr,.int .i64 lim,.bool rv,.slice pr lr cr],.agg #[.slice pb N cb,.slice pw N cw,.slice pt N ct,.slice ps M cs,.int .i64 sky,.int .i64 st],.int .i64 (e:Nat)] v fun x w'=>x=.returned (.float .f64 (SD e))/\Below v.heap.size v w'):=fun v a=>VS.out v gb e (W10.out.trans a) (G10.out.to a) HEM.out
       have CD1:Hid (∀v,Ab wq v->Calls prog 14 #[.pointer (some ⟨gb,0,none⟩),.int .i64 lim,.agg #[.slice mp1 N mc1,.slice mp2 N mc2,.slice mp3 N mc3,.slice mp4 M mc4,.int .i64 0,.int .i64 st],.int .i64 (e:Nat),.float .f64 u] v fun x w'=>x=.returned (.float .f64 (DD e))/\Below v.heap.size v w'):=fun v a=>DMk.out v gb e mp1 mc1 mp2 mc2 mp3 mc3 mp4 mc4 MEM.out (G10.out.to a) (M10.out.to a).2.1 (M10.out.to a).2.2.1 (M10.out.to a).2.2.2.2
       have CD2:Hid (∀v,Ab wq v->Calls prog 14 #[.pointer (some ⟨gb,0,none⟩),.int .i64 lim,.agg #[.slice pb N cb,.slice pw N cw,.slice pt N ct,.slice ps M cs,.int .i64 sky,.int .i64 st],.int .i64 (e:Nat),.float .f64 u] v fun x w'=>x=.returned (.float .f64 (DD e))/\Below v.heap.size v w'):=fun v a=>DS.out v gb e (W10.out.trans a) (G10.out.to a) HEM.out
       generalize O e=oe at*
       generalize SD e=se at*
       generalize DD e=de at*
       have SMs:=hid (same22 se)
       have SMd:=hid (same22 de)
       clear z1 z2 fe mem hem q2 q3 re hin hd
       go_upto_region 25 with fail
       clear y0 k1c
       obtain⟨UU,E,hF1,hF2⟩:=cls wq
       have HU:=hid hF2
       have HU1:=hid hF1
       have z1: ∀u,(E u).cell? ⟨bo,e,none⟩=some (.int .i64 d):=fun u=>(Below.cell (hF1 u) ZB.out.1).trans Z1.out
       have z2: ∀u,(E u).cell? ⟨ba,e,none⟩=some (.int .i64 d):=fun u=>(Below.cell (hF1 u) ZB.out.2).trans Z2.out
       have s0: ∀u,(E u).cell? ⟨gs,0,none⟩=some (.slice pb N cb):=fun u=>aA 0 ((hF1 u).heap S10.out)
       have s1: ∀u,(E u).cell? ⟨gs,1,none⟩=some (.slice pw N cw):=fun u=>aA 1 ((hF1 u).heap S10.out)
       have s2: ∀u,(E u).cell? ⟨gs,2,none⟩=some (.slice pt N ct):=fun u=>aA 2 ((hF1 u).heap S10.out)
       have s3: ∀u,(E u).cell? ⟨gs,3,none⟩=some (.slice ps M cs):=fun u=>aA 3 ((hF1 u).heap S10.out)
       have s4: ∀u,(E u).cell? ⟨gs,4,none⟩=some (.int .i64 sky):=fun u=>aA 4 ((hF1 u).heap S10.out)
       have s5: ∀u,(E u).cell? ⟨gs,5,none⟩=some (.int .i64 st):=fun u=>aA 5 ((hF1 u).heap S10.out)
       have m0: ∀u,(E u).cell? ⟨gm,0,none⟩=some (.slice mp1 N mc1):=fun u=>aA 0 ((hF1 u).heap M10.out.1)
       have m1: ∀u,(E u).cell? ⟨gm,1,none⟩=some (.slice mp2 N mc2):=fun u=>aA 1 ((hF1 u).heap M10.out.1)
       have m2: ∀u,(E u).cell? ⟨gm,2,none⟩=some (.slice mp3 N mc3):=fun u=>aA 2 ((hF1 u).heap M10.out.1)
       have m3: ∀u,(E u).cell? ⟨gm,3,none⟩=some (.slice mp4 M mc4):=fun u=>aA 3 ((hF1 u).heap M10.out.1)
       have m4: ∀u,(E u).cell? ⟨gm,4,none⟩=some (.int .i64 0):=fun u=>aA 4 ((hF1 u).heap M10.out.1)
       have m5: ∀u,(E u).cell? ⟨gm,5,none⟩=some (.int .i64 st):=fun u=>aA 5 ((hF1 u).heap M10.out.1)
       have p0: ∀u,(E u).cell? ⟨gp,0,none⟩=some (.int .i64 sd):=fun u=>aA 0 ((hF1 u).heap P10.out)
       have p1: ∀u,(E u).cell? ⟨gp,1,none⟩=some (.float .f64 dt):=fun u=>aA 1 ((hF1 u).heap P10.out)
       have p2: ∀u,(E u).cell? ⟨gp,2,none⟩=some (.float .f64 gr):=fun u=>aA 2 ((hF1 u).heap P10.out)
       have p3: ∀u,(E u).cell? ⟨gp,3,none⟩=some (.float .f64 dr):=fun u=>aA 3 ((hF1 u).heap P10.out)
       have p4: ∀u,(E u).cell? ⟨gp,4,none⟩=some (.int .i64 lim):=fun u=>aA 4 ((hF1 u).heap P10.out)
       have p5: ∀u,(E u).cell? ⟨gp,5,none⟩=some (.bool rv):=fun u=>aA 5 ((hF1 u).heap P10.out)
       have p6: ∀u,(E u).cell? ⟨gp,6,none⟩=some (.slice pr lr cr):=fun u=>aA 6 ((hF1 u).heap P10.out)
       have DD0:=HU.out _ (Ab.refl wq).drew
       clear hF1 hF2
       refine aG E (by kernel_rfl) (by kernel_rfl) DD0 ?_
       repeat(go_big_quiet_step (first
        | (with_reducible rfl)
        | (go_at_call_of 11 mc1;exact aD HU HU1 (CO1.out _ (HU1.out _)))
        | (go_at_call_of 11 cb;exact aD HU HU1 (CO2.out _ (HU1.out _)))
        | (go_at_call_of 13 mc1;exact aD HU HU1 (CV1.out _ (HU1.out _)))
        | (go_at_call_of 13 cb;exact aD HU HU1 (CV2.out _ (HU1.out _)))
        | (go_at_call 12;exact aD HU HU1 (SMs.out _))))
       refine wpQuiet_nil ?_
       intro v11 hwz
       obtain⟨u0,hu⟩:=hwz
       have A11:Hid (Ab wq v11):=by rw[hu];exact HU1.out u0
       clear hu u0
       clear HU HU1 DD0 z1 z2 s0 s1 s2 s3 s4 s5 m0 m1 m2 m3 m4 m5 p0 p1 p2 p3 p4 p5 p6
       clear E UU
       have S11:=hid (Ab.heap A11.out S10.out)
       have P11:=hid (Ab.heap A11.out P10.out)
       have M11:=hid (M10.out.to A11.out)
       go_upto_region 27 with fail
       obtain⟨UU,E,hF1,hF2⟩:=cls v11
       have HU:=hid hF2
       have HU1:=hid hF1
       have s0: ∀u,(E u).cell? ⟨gs,0,none⟩=some (.slice pb N cb):=fun u=>aA 0 ((hF1 u).heap S11.out)
       have s1: ∀u,(E u).cell? ⟨gs,1,none⟩=some (.slice pw N cw):=fun u=>aA 1 ((hF1 u).heap S11.out)
       have s2: ∀u,(E u).cell? ⟨gs,2,none⟩=some (.slice pt N ct):=fun u=>aA 2 ((hF1 u).heap S11.out)
       have s3: ∀u,(E u).cell? ⟨gs,3,none⟩=some (.slice ps M cs):=fun u=>aA 3 ((hF1 u).heap S11.out)
       have s4: ∀u,(E u).cell? ⟨gs,4,none⟩=some (.int .i64 sky):=fun u=>aA 4 ((hF1 u).heap S11.out)
       have s5: ∀u,(E u).cell? ⟨gs,5,none⟩=some (.int .i64 st):=fun u=>aA 5 ((hF1 u).heap S11.out)
       have m0: ∀u,(E u).cell? ⟨gm,0,none⟩=some (.slice mp1 N mc1):=fun u=>aA 0 ((hF1 u).heap M11.out.1)
       have m1: ∀u,(E u).cell? ⟨gm,1,none⟩=some (.slice mp2 N mc2):=fun u=>aA 1 ((hF1 u).heap M11.out.1)
       have m2: ∀u,(E u).cell? ⟨gm,2,none⟩=some (.slice mp3 N mc3):=fun u=>aA 2 ((hF1 u).heap M11.out.1)
       have m3: ∀u,(E u).cell? ⟨gm,3,none⟩=some (.slice mp4 M mc4):=fun u=>aA 3 ((hF1 u).heap M11.out.1)
       have m4: ∀u,(E u).cell? ⟨gm,4,none⟩=some (.int .i64 0):=fun u=>aA 4 ((hF1 u).heap M11.out.1)
       have m5: ∀u,(E u).cell? ⟨gm,5,none⟩=some (.int .i64 st):=fun u=>aA 5 ((hF1 u).heap M11.out.1)
       have p0: ∀u,(E u).cell? ⟨gp,0,none⟩=some (.int .i64 sd):=fun u=>aA 0 ((hF1 u).heap P11.out)
       have p1: ∀u,(E u).cell? ⟨gp,1,none⟩=some (.float .f64 dt):=fun u=>aA 1 ((hF1 u).heap P11.out)
       have p2: ∀u,(E u).cell? ⟨gp,2,none⟩=some (.float .f64 gr):=fun u=>aA 2 ((hF1 u).heap P11.out)
       have p3: ∀u,(E u).cell? ⟨gp,3,none⟩=some (.float .f64 dr):=fun u=>aA 3 ((hF1 u).heap P11.out)
       have p4: ∀u,(E u).cell? ⟨gp,4,none⟩=some (.int .i64 lim):=fun u=>aA 4 ((hF1 u).heap P11.out)
       have p5: ∀u,(E u).cell? ⟨gp,5,none⟩=some (.bool rv):=fun u=>aA 5 ((hF1 u).heap P11.out)
       have p6: ∀u,(E u).cell? ⟨gp,6,none⟩=some (.slice pr lr cr):=fun u=>aA 6 ((hF1 u).heap P11.out)
       have DD0:=HU.out _ (Ab.refl v11).drew
       clear hF1 hF2
       refine aG E (by kernel_rfl) (by kernel_rfl) DD0 ?_
       repeat(go_big_quiet_step (first
        | (with_reducible rfl)
        | (go_at_call_of 14 mc1;exact aD HU HU1 (CD1.out _ (A11.out.trans (HU1.out _))))
        | (go_at_call_of 14 cb;exact aD HU HU1 (CD2.out _ (A11.out.trans (HU1.out _))))
        | (go_at_call 12;exact aD HU HU1 (SMd.out _))))
       refine wpQuiet_nil ?_
       intro v12 hwz
       obtain⟨u0,hu⟩:=hwz
       have A12:Hid (Ab v11 v12):=by rw[hu];exact HU1.out u0
       clear hu u0
       clear HU HU1 DD0 s0 s1 s2 s3 s4 s5 m0 m1 m2 m3 m4 m5 p0 p1 p2 p3 p4 p5 p6
       clear E UU
       go_wp2
       exact⟨⟨i+1,by have:=HI.out;omega,by simp,AQ.out.trans (A11.out.trans A12.out)⟩,by have:=HI.out;simp[intOf];omega⟩
      ·have e6:le=i:=by have:=HIL.out;omega
       subst e6
       go_wp2
       go_roundw
       case rel=>exact⟨k+1,by have:=HK.out;omega,by simp,AR.out.trans A10.out⟩
       case measure=>have:=HK.out;simp[intOf];omega
  ·have e6:P=k:=by have:=HKL.out;omega
   subst e6
   go_wp2
   go_ret
   exact⟨rfl,A5.out.trans AR.out⟩
end Spl
end
end Go.Proofs.YtjheiemgfibgpaaGreatDoor
