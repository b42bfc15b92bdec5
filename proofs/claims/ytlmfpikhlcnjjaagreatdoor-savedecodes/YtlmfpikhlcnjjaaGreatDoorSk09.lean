/-
  Some of the texts of this proof, one behind the other.
-/
import Derived.Test.YtlmfpikhlcnjjaaGreatDoorSk08
set_option maxRecDepth 100000
set_option maxHeartbeats 400000000
namespace Go.Proofs.YtlmfpikhlcnjjaaGreatDoor
open _root_.Go.Proofs.Tryz
section
open Go.RowKit Tf Cu Go.Deep
attribute [local go_sem] aF aG aI aJ aK aL aM aD
namespace Ss
theorem sameF_at(a b:Nat)(r:Bool)(w:World)(hr:decide (a=b)=r):
  Calls prog 92 #[.float .f64 a,.float .f64 b] w fun e w'=>e=.returned (.bool r)/\w'=w:=by
 by_cases h:a=b
 ·have d1:((a:Int)==(b:Int))=true:=by simp[h]
  have R:Hid (r=true):=hr.symm.trans (decide_eq_true h)
  clear hr h
  go_enter func92,ntmps92
  go_wp2
  go_ret
  exact⟨by rw[R.out];rfl,rfl⟩
 ·have d1:((a:Int)==(b:Int))=false:=by simp;omega
  have R:Hid (r=false):=hr.symm.trans (decide_eq_false h)
  clear hr h
  go_enter func92,ntmps92
  go_wp2
  go_ret
  exact⟨by rw[R.out];rfl,rfl⟩
theorem lJ(x lo hi:Nat)(r:Bool)(w:World)(hr:((fgt x lo||feq x lo)&&(flt x hi||feq x hi))=r):
  Calls prog 91 #[.float .f64 x,.float .f64 lo,.float .f64 hi] w fun e w'=>e=.returned (.bool r)/\w'=w:=by
 cases h1:(fgt x lo||feq x lo)with
 | false=>
  have R:Hid (r=false):=hr.symm.trans (by rw[h1];rfl)
  clear hr
  go_enter func91,ntmps91
  go_wp2
  go_ret
  exact⟨by rw[R.out];rfl,rfl⟩
 | true=>
  cases h2:(flt x hi||feq x hi)with
  | false=>
   have R:Hid (r=false):=hr.symm.trans (by rw[h1,h2];rfl)
   clear hr
   go_enter func91,ntmps91
   go_wp2
   go_ret
   exact⟨by rw[R.out];rfl,rfl⟩
  | true=>
   have R:Hid (r=true):=hr.symm.trans (by rw[h1,h2];rfl)
   clear hr
   go_enter func91,ntmps91
   go_wp2
   go_ret
   exact⟨by rw[R.out];rfl,rfl⟩
theorem canon_in{x lo:Nat}(hx:x<18446744073709551616)(hl:lo<18446744073709551616)(h:(fgt x lo||feq x lo)=true):decide (x=canonB x)=decide (x≠9223372036854775808):=by
 have n:isN x=false:=by
  rw[fgt_rk x lo hx hl,mC x lo hx hl]at h
  cases q:isN x with
  | false=>rfl
  | true=>rw[q]at h;simp at h
 unfold canonB
 rw[if_neg (by rw[n];decide)]
 unfold mg
 by_cases z:x%9223372036854775808=0
 ·rw[if_pos z]
  by_cases e:x=9223372036854775808
  ·rw[decide_eq_false (by omega),decide_eq_false (fun q=>q e)]
  ·rw[decide_eq_true (by omega),decide_eq_true e]
 ·rw[if_neg z,decide_eq_true rfl,decide_eq_true (by omega)]
theorem rU(x lo hi:Nat)(r:Bool)(w:World)(hx:x<18446744073709551616)(hl:lo<18446744073709551616)(hr:btw x lo hi=r):
  Calls prog 70 #[.float .f64 x,.float .f64 lo,.float .f64 hi] w fun e w'=>e=.returned (.bool r)/\w'=w:=by
 unfold btw at hr
 cases h1:((fgt x lo||feq x lo)&&(flt x hi||feq x hi))with
 | false=>
  have R:Hid (r=false):=hr.symm.trans (by rw[h1];rfl)
  have CW:=hid (lJ x lo hi false w h1)
  clear hr hx hl h1
  go_enter func70,ntmps70
  go_wp2_with fail
  refine CW.out.mono ?_
  rintro e9 v9 ⟨rfl,hv9⟩
  have hv8:=hv9.symm
  subst hv8
  go_wp2
  go_ret
  exact⟨by rw[R.out];rfl,rfl⟩
 | true=>
  have R:Hid (decide (x≠9223372036854775808)=r):=by
   show _=_
   rw[<- hr,h1]
   rfl
  have CW:=hid (lJ x lo hi true w h1)
  have h3:=canon_in hx hl ((Bool.and_eq_true _ _).mp h1).1
  have CC:=hid (oB x _ w hx rfl)
  have CS:=hid (sameF_at x (canonB x) r w (by rw[h3];exact R.out))
  generalize canonB x=y at*
  clear hr hx hl h1 h3 R
  go_enter func70,ntmps70
  go_wp2_with fail
  refine CW.out.mono ?_
  rintro e9 v9 ⟨rfl,hv9⟩
  have hv8:=hv9.symm
  subst hv8
  go_wp2_with fail
  refine CC.out.mono ?_
  rintro e9 v9 ⟨rfl,hv9⟩
  have hv8:=hv9.symm
  subst hv8
  go_wp2_with fail
  refine CS.out.mono ?_
  rintro e9 v9 ⟨rfl,hv9⟩
  have hv8:=hv9.symm
  subst hv8
  go_wp2
  go_ret
  exact⟨rfl,rfl⟩
theorem lK(p:Option Addr)(N c:Nat)(f:Nat->Nat)(m nm:Nat)(q:Nat->Bool)(w:World)(hm:Op.negFloat .f64 m=nm)(hn:nm<18446744073709551616)(hN:N<=281474976710656)(hf:IsFl w p N f)(hq: ∀i,i<N->q i= !btw (f i) nm m):
  Calls prog 47 #[.slice p N c,.float .f64 m] w fun e w'=>e=.returned (.int .i64 (fp q N))/\w'=w:=by
 have HF:=hid hf
 have HN:=hid hN
 have HQ:=hid hq
 have HNM:=hid hn
 clear hf hN hq hn
 go_enter func47,ntmps47
 go_wp2
 go_loopw [9] (fun iv wr=> ∃k:Nat,k<=N/\iv=.int .i64 (k:Nat)/\(∀i,i<k->q i=false)/\wr=w) (fun iv _=>N - (intOf iv).toNat)
 case atStart=>exact⟨0,by omega,rfl,fun i hi=>absurd hi (Nat.not_lt_zero i),rfl⟩
 case round=>
  obtain⟨k,hk,rfl,g1,hwr⟩:=hrel
  have hwr2:=hwr.symm
  subst hwr2
  have G1:=hid g1
  clear g1
  by_cases hkn:k<N
  ·have HK:=hid hkn
   have kI:(k:Int)<N:=by omega
   have kB:(k:Int)<=281474976710656:=by have:=HN.out;omega
   obtain⟨b0,o0,rfl⟩:=HF.out.some0 (show 0<N by omega)
   obtain⟨x,hx⟩:=aB (f k)
   have xa:=HF.out.at0 hkn
   have xc:=xa.2.2
   have xl:=(HF.out k hkn).1
   rw[hx]at xc xl
   have qk:=HQ.out k hkn
   rw[hx]at qk
   clear hx hkn hk xa
   cases hb:btw x nm m with
   | false=>
    have CB:=hid (rU x nm m false w xl HNM.out hb)
    have QK:Hid (q k=true):=qk.trans (by rw[hb];rfl)
    have E:Hid (fp q N=(k:Nat)):=fF G1.out QK.out HK.out
    clear qk hb xl
    go_wp2_with fail
    refine CB.out.mono ?_
    rintro e9 v9 ⟨rfl,hv9⟩
    have hv8:=hv9.symm
    subst hv8
    go_wp2
    go_ret
    exact⟨by rw[E.out];rfl,by first | trivial | rfl⟩
   | true=>
    have CB:=hid (rU x nm m true w xl HNM.out hb)
    have QK:Hid (q k=false):=qk.trans (by rw[hb];rfl)
    clear qk hb xl
    go_wp2_with fail
    refine CB.out.mono ?_
    rintro e9 v9 ⟨rfl,hv9⟩
    have hv8:=hv9.symm
    subst hv8
    go_wp2
    refine⟨⟨k+1,by have:=HK.out;omega,by simp,fun i hi=> ?_,by first | trivial | rfl⟩,by have:=HK.out;simp[intOf];omega⟩
    by_cases l:i<k
    ·exact G1.out i l
    ·obtain rfl:i=k:=by omega
     exact QK.out
  ·have e6:N=k:=by omega
   subst e6
   have E:Hid (fp q N= -1):=gA G1.out
   go_wp2
   go_ret
   exact⟨by rw[E.out];rfl,by first | trivial | rfl⟩
theorem rV(p:Option Addr)(N c:Nat)(f:Nat->Int)(th rm:Int)(w:World)(hN:N<=281474976710656)(hf:Sh.IsI w p N f)(ht:0<=th/\th<=4503599627370496)(hrm:rm=4503599627370496 - th):
  Calls prog 48 #[.slice p N c,.int .i64 rm] w fun e w'=>e=.returned (.int .i64 (fp (bQ f th) N))/\w'=w:=by
 have HF:=hid hf
 have HN:=hid hN
 have HT:=hid ht
 have HR:=hid hrm
 clear hf hN ht hrm
 go_enter func48,ntmps48
 go_wp2
 go_loopw [1,9] (fun sv iv wr=> ∃k:Nat,k<=N/\iv=.int .i64 (k:Nat)/\sv=.int .i64 (4503599627370496 - (th+Sh.sumN f k))/\(0<=th+Sh.sumN f k/\th+Sh.sumN f k<=4503599627370496)/\(∀i,i<k->bQ f th i=false)/\wr=w) (fun _ iv _=>N - (intOf iv).toNat)
 case atStart=>exact⟨0,by omega,rfl,by show _=Value.int .i64 (4503599627370496 - (th+0));rw[Int.add_zero,HR.out],by show 0<=th+0/\th+0<=_;have:=HT.out;omega,fun i hi=>absurd hi (Nat.not_lt_zero i),rfl⟩
 case round=>
  obtain⟨k,hk,rfl,rfl,hb,g1,hwr⟩:=hrel
  have hwr2:=hwr.symm
  subst hwr2
  have G1:=hid g1
  clear g1
  obtain⟨s,hs⟩:=aB (4503599627370496 - (th+Sh.sumN f k))
  have s1:0<=s:=by omega
  have s2:s<=4503599627370496:=by omega
  rw[hs]
  clear hb
  by_cases hkn:k<N
  ·have HK:=hid hkn
   have kI:(k:Int)<N:=by omega
   have kB:(k:Int)<=281474976710656:=by have:=HN.out;omega
   obtain⟨b0,o0,rfl⟩:=HF.out.some0 (show 0<N by omega)
   obtain⟨x,hx⟩:=aB (f k)
   have xc:=(HF.out.at0 hkn).2.2
   rw[hx]at xc
   have QE:Hid (bQ f th k=(decide (x<0)||decide (s<x))):=by show bQ f th k=_;unfold bQ;rw[hs,hx]
   have M3:Hid (th+Sh.sumN f (k+1)=4503599627370496 - s+x):=by show th+(Sh.sumN f k+f k)=_;rw[hx];omega
   clear hx hs hkn hk
   by_cases q1:x<0
   ·have d1:decide (x<0)=true:=decide_eq_true q1
    have E:Hid (fp (bQ f th) N=(k:Nat)):=fF G1.out (QE.out.trans (by rw[d1];rfl)) HK.out
    go_wp2
    go_ret
    exact⟨by rw[E.out];rfl,by first | trivial | rfl⟩
   ·have d1:decide (x<0)=false:=decide_eq_false q1
    by_cases q2:s<x
    ·have d2:decide (s<x)=true:=decide_eq_true q2
     have E:Hid (fp (bQ f th) N=(k:Nat)):=fF G1.out (QE.out.trans (by rw[d1,d2];rfl)) HK.out
     go_wp2
     go_ret
     exact⟨by rw[E.out];rfl,by first | trivial | rfl⟩
    ·have d2:decide (s<x)=false:=decide_eq_false q2
     have QF:Hid (bQ f th k=false):=QE.out.trans (by rw[d1,d2];rfl)
     have n1:0<=s - x:=by omega
     have n2:s - x<=4503599627370496:=by omega
     have N3:Hid (4503599627370496 - (4503599627370496 - s+x)=s - x):=by show _=_;omega
     have N4:Hid (0<=4503599627370496 - s+x/\4503599627370496 - s+x<=4503599627370496):=by show _/\_;omega
     clear q1 q2
     go_wp2
     refine⟨⟨k+1,by have:=HK.out;omega,by simp,by rw[M3.out,N3.out],by rw[M3.out];exact N4.out,fun i hi=> ?_,by first | trivial | rfl⟩,by have:=HK.out;simp[intOf];omega⟩
     by_cases l:i<k
     ·exact G1.out i l
     ·obtain rfl:i=k:=by omega
      exact QF.out
  ·have e6:N=k:=by omega
   subst e6
   have E:Hid (fp (bQ f th) N= -1):=gA G1.out
   go_wp2
   go_ret
   exact⟨by rw[E.out];rfl,by first | trivial | rfl⟩
theorem misfit_0(N:Nat)(pb:Option Addr)(lb cb:Nat)(pw:Option Addr)(lw cw:Nat)(pt:Option Addr)(lt ct:Nat)(ps:Option Addr)(ls cs:Nat)(sky st:Int)(w:World)(_hN:(N:Int)<=6144)(h0:((lb:Int) != (N:Int))=true):
  Calls prog 46 #[.int .i64 (N:Nat),.agg #[.slice pb lb cb,.slice pw lw cw,.slice pt lt ct,.slice ps ls cs,.int .i64 sky,.int .i64 st]] w fun e w'=>e=.returned (.int .i64 0)/\Below w.heap.size w w':=by
 obtain⟨A0,R0⟩:=aH w (.cells #[.slice pb lb cb,.slice pw lw cw,.slice pt lt ct,.slice ps ls cs,.int .i64 sky,.int .i64 st] 25)
 go_enter func46,ntmps46
 go_upto_region 1 with fail
 generalize hW:World.alloc w _=V0 at*
 obtain⟨gw,hgw⟩:=aB w.heap.size
 rw[hgw]at R0 ⊢
 clear hgw hW
 have x0:=aE R0.out
 go_wp2
 go_ret
 exact⟨rfl,A0.out⟩
theorem misfit_1(N:Nat)(pb:Option Addr)(lb cb:Nat)(pw:Option Addr)(lw cw:Nat)(pt:Option Addr)(lt ct:Nat)(ps:Option Addr)(ls cs:Nat)(sky st:Int)(w:World)(_hN:(N:Int)<=6144)(h0:((lb:Int) != (N:Int))=false)(h1:((lw:Int) != (N:Int))=true):
  Calls prog 46 #[.int .i64 (N:Nat),.agg #[.slice pb lb cb,.slice pw lw cw,.slice pt lt ct,.slice ps ls cs,.int .i64 sky,.int .i64 st]] w fun e w'=>e=.returned (.int .i64 1)/\Below w.heap.size w w':=by
 obtain⟨A0,R0⟩:=aH w (.cells #[.slice pb lb cb,.slice pw lw cw,.slice pt lt ct,.slice ps ls cs,.int .i64 sky,.int .i64 st] 25)
 go_enter func46,ntmps46
 go_upto_region 1 with fail
 generalize hW:World.alloc w _=V0 at*
 obtain⟨gw,hgw⟩:=aB w.heap.size
 rw[hgw]at R0 ⊢
 clear hgw hW
 have x0:=aE R0.out
 go_wp2
 go_ret
 exact⟨rfl,A0.out⟩
theorem misfit_2(N:Nat)(pb:Option Addr)(lb cb:Nat)(pw:Option Addr)(lw cw:Nat)(pt:Option Addr)(lt ct:Nat)(ps:Option Addr)(ls cs:Nat)(sky st:Int)(w:World)(_hN:(N:Int)<=6144)(h0:((lb:Int) != (N:Int))=false)(h1:((lw:Int) != (N:Int))=false)(h2:((lt:Int) != (N:Int))=true):
  Calls prog 46 #[.int .i64 (N:Nat),.agg #[.slice pb lb cb,.slice pw lw cw,.slice pt lt ct,.slice ps ls cs,.int .i64 sky,.int .i64 st]] w fun e w'=>e=.returned (.int .i64 2)/\Below w.heap.size w w':=by
 obtain⟨A0,R0⟩:=aH w (.cells #[.slice pb lb cb,.slice pw lw cw,.slice pt lt ct,.slice ps ls cs,.int .i64 sky,.int .i64 st] 25)
 go_enter func46,ntmps46
 go_upto_region 1 with fail
 generalize hW:World.alloc w _=V0 at*
 obtain⟨gw,hgw⟩:=aB w.heap.size
 rw[hgw]at R0 ⊢
 clear hgw hW
 have x0:=aE R0.out
 go_wp2
 go_ret
 exact⟨rfl,A0.out⟩
theorem misfit_3(N:Nat)(pb:Option Addr)(lb cb:Nat)(pw:Option Addr)(lw cw:Nat)(pt:Option Addr)(lt ct:Nat)(ps:Option Addr)(ls cs:Nat)(sky st:Int)(w:World)(hN:(N:Int)<=6144)(h0:((lb:Int) != (N:Int))=false)(h1:((lw:Int) != (N:Int))=false)(h2:((lt:Int) != (N:Int))=false)(h3:((ls:Int) != 2*(N:Int))=true):
  Calls prog 46 #[.int .i64 (N:Nat),.agg #[.slice pb lb cb,.slice pw lw cw,.slice pt lt ct,.slice ps ls cs,.int .i64 sky,.int .i64 st]] w fun e w'=>e=.returned (.int .i64 3)/\Below w.heap.size w w':=by
 obtain⟨A0,R0⟩:=aH w (.cells #[.slice pb lb cb,.slice pw lw cw,.slice pt lt ct,.slice ps ls cs,.int .i64 sky,.int .i64 st] 25)
 go_enter func46,ntmps46
 go_upto_region 1 with fail
 generalize hW:World.alloc w _=V0 at*
 obtain⟨gw,hgw⟩:=aB w.heap.size
 rw[hgw]at R0 ⊢
 clear hgw hW
 have x0:=aE R0.out
 go_wp2
 go_ret
 exact⟨rfl,A0.out⟩
theorem misfit_4(N:Nat)(pb:Option Addr)(lb cb:Nat)(pw:Option Addr)(lw cw:Nat)(pt:Option Addr)(lt ct:Nat)(ps:Option Addr)(ls cs:Nat)(sky st:Int)(w:World)(hN:(N:Int)<=6144)(h0:((lb:Int) != (N:Int))=false)(h1:((lw:Int) != (N:Int))=false)(h2:((lt:Int) != (N:Int))=false)(h3:((ls:Int) != 2*(N:Int))=false):
  Calls prog 46 #[.int .i64 (N:Nat),.agg #[.slice pb lb cb,.slice pw lw cw,.slice pt lt ct,.slice ps ls cs,.int .i64 sky,.int .i64 st]] w fun e w'=>e=.returned (.int .i64 (-1))/\Below w.heap.size w w':=by
 obtain⟨A0,R0⟩:=aH w (.cells #[.slice pb lb cb,.slice pw lw cw,.slice pt lt ct,.slice ps ls cs,.int .i64 sky,.int .i64 st] 25)
 go_enter func46,ntmps46
 go_upto_region 1 with fail
 generalize hW:World.alloc w _=V0 at*
 obtain⟨gw,hgw⟩:=aB w.heap.size
 rw[hgw]at R0 ⊢
 clear hgw hW
 have x0:=aE R0.out
 go_wp2
 go_ret
 exact⟨rfl,A0.out⟩
theorem pG(side:Int)(pb:Option Addr)(lb cb:Nat)(pw:Option Addr)(lw cw:Nat)(pt:Option Addr)(lt ct:Nat)(ps:Option Addr)(ls cs:Nat)(sky st:Int)(nc:Int)(w:World)(h0:(nc==0)=true)
  (CC:Hid (∀v,Calls prog 34 #[.int .i64 side] v fun e w'=>e=.returned (.int .i64 nc)/\w'=v)):
  Calls prog 15 #[.int .i64 side,.agg #[.slice pb lb cb,.slice pw lw cw,.slice pt lt ct,.slice ps ls cs,.int .i64 sky,.int .i64 st]] w fun e w'=>e=.returned (.tuple #[.int .i64 0,.int .i64 10])/\Below w.heap.size w w':=by
 obtain⟨A0,R0⟩:=aH w (.cells #[.slice pb lb cb,.slice pw lw cw,.slice pt lt ct,.slice ps ls cs,.int .i64 sky,.int .i64 st] 25)
 go_enter func15,ntmps15
 go_upto_region 1 with fail
 generalize hW:World.alloc w _=V0 at*
 obtain⟨gw,hgw⟩:=aB w.heap.size
 rw[hgw]at R0 ⊢
 clear hgw hW
 have x0:=aE R0.out
 go_wp2_with fail
 refine(CC.out V0).mono ?_
 rintro e9 v9 ⟨rfl,hv9⟩
 have hv8:=hv9.symm
 subst hv8
 go_wp2
 go_ret2
 exact⟨rfl,A0.out⟩
theorem eB(side:Int)(pb:Option Addr)(lb cb:Nat)(pw:Option Addr)(lw cw:Nat)(pt:Option Addr)(lt ct:Nat)(ps:Option Addr)(ls cs:Nat)(sky st:Int)(nc:Int)(ml:Int)(w:World)(h0:(nc==0)=false)(h1:(ml != -1)=true)
  (CC:Hid (∀v,Calls prog 34 #[.int .i64 side] v fun e w'=>e=.returned (.int .i64 nc)/\w'=v))
  (CM:Hid (∀v,Calls prog 46 #[.int .i64 nc,.agg #[.slice pb lb cb,.slice pw lw cw,.slice pt lt ct,.slice ps ls cs,.int .i64 sky,.int .i64 st]] v fun e w'=>e=.returned (.int .i64 ml)/\Below v.heap.size v w')):
  Calls prog 15 #[.int .i64 side,.agg #[.slice pb lb cb,.slice pw lw cw,.slice pt lt ct,.slice ps ls cs,.int .i64 sky,.int .i64 st]] w fun e w'=>e=.returned (.tuple #[.int .i64 ml,.int .i64 12])/\Below w.heap.size w w':=by
 obtain⟨A0,R0⟩:=aH w (.cells #[.slice pb lb cb,.slice pw lw cw,.slice pt lt ct,.slice ps ls cs,.int .i64 sky,.int .i64 st] 25)
 go_enter func15,ntmps15
 go_upto_region 1 with fail
 generalize hW:World.alloc w _=V0 at*
 obtain⟨gw,hgw⟩:=aB w.heap.size
 rw[hgw]at R0 ⊢
 clear hgw hW
 have x0:=aE R0.out
 go_wp2_with fail
 refine(CC.out V0).mono ?_
 rintro e9 v9 ⟨rfl,hv9⟩
 have hv8:=hv9.symm
 subst hv8
 go_wp2_with fail
 refine(CM.out V0).mono ?_
 rintro e9 v1 ⟨rfl,b1⟩
 have A1:Hid (Ab w v1):=A0.out.trans b1
 have R1:=hid (Ab.heap b1 R0.out)
 clear b1 x0
 have x0:=aE R1.out
 go_wp2
 go_ret2
 exact⟨rfl,A1.out⟩
theorem tP(side:Int)(pb:Option Addr)(lb cb:Nat)(pw:Option Addr)(lw cw:Nat)(pt:Option Addr)(lt ct:Nat)(ps:Option Addr)(ls cs:Nat)(sky st:Int)(nc:Int)(ml:Int)(fb:Int)(w:World)(h0:(nc==0)=false)(h1:(ml != -1)=false)(h2:(fb != -1)=true)
  (CC:Hid (∀v,Calls prog 34 #[.int .i64 side] v fun e w'=>e=.returned (.int .i64 nc)/\w'=v))
  (CM:Hid (∀v,Calls prog 46 #[.int .i64 nc,.agg #[.slice pb lb cb,.slice pw lw cw,.slice pt lt ct,.slice ps ls cs,.int .i64 sky,.int .i64 st]] v fun e w'=>e=.returned (.int .i64 ml)/\Below v.heap.size v w'))
  (CB:Hid (∀v,Ab w v->Calls prog 47 #[.slice pb lb cb,.float .f64 4697254411347427328] v fun e w'=>e=.returned (.int .i64 fb)/\w'=v)):
  Calls prog 15 #[.int .i64 side,.agg #[.slice pb lb cb,.slice pw lw cw,.slice pt lt ct,.slice ps ls cs,.int .i64 sky,.int .i64 st]] w fun e w'=>e=.returned (.tuple #[.int .i64 fb,.int .i64 13])/\Below w.heap.size w w':=by
 obtain⟨A0,R0⟩:=aH w (.cells #[.slice pb lb cb,.slice pw lw cw,.slice pt lt ct,.slice ps ls cs,.int .i64 sky,.int .i64 st] 25)
 go_enter func15,ntmps15
 go_upto_region 1 with fail
 generalize hW:World.alloc w _=V0 at*
 obtain⟨gw,hgw⟩:=aB w.heap.size
 rw[hgw]at R0 ⊢
 clear hgw hW
 have x0:=aE R0.out
 go_wp2_with fail
 refine(CC.out V0).mono ?_
 rintro e9 v9 ⟨rfl,hv9⟩
 have hv8:=hv9.symm
 subst hv8
 go_wp2_with fail
 refine(CM.out V0).mono ?_
 rintro e9 v1 ⟨rfl,b1⟩
 have A1:Hid (Ab w v1):=A0.out.trans b1
 have R1:=hid (Ab.heap b1 R0.out)
 clear b1 x0
 have x0:=aE R1.out
 go_wp2_with fail
 refine(CB.out v1 A1.out).mono ?_
 rintro e9 v9 ⟨rfl,hv9⟩
 have hv8:=hv9.symm
 subst hv8
 go_wp2
 go_ret2
 exact⟨rfl,A1.out⟩
theorem qN(side:Int)(pb:Option Addr)(lb cb:Nat)(pw:Option Addr)(lw cw:Nat)(pt:Option Addr)(lt ct:Nat)(ps:Option Addr)(ls cs:Nat)(sky st:Int)(nc:Int)(ml:Int)(fb:Int)(w:World)(h0:(nc==0)=false)(h1:(ml != -1)=false)(h2:(fb != -1)=false)(h3:decide (sky<0)=true)
  (CC:Hid (∀v,Calls prog 34 #[.int .i64 side] v fun e w'=>e=.returned (.int .i64 nc)/\w'=v))
  (CM:Hid (∀v,Calls prog 46 #[.int .i64 nc,.agg #[.slice pb lb cb,.slice pw lw cw,.slice pt lt ct,.slice ps ls cs,.int .i64 sky,.int .i64 st]] v fun e w'=>e=.returned (.int .i64 ml)/\Below v.heap.size v w'))
  (CB:Hid (∀v,Ab w v->Calls prog 47 #[.slice pb lb cb,.float .f64 4697254411347427328] v fun e w'=>e=.returned (.int .i64 fb)/\w'=v)):
  Calls prog 15 #[.int .i64 side,.agg #[.slice pb lb cb,.slice pw lw cw,.slice pt lt ct,.slice ps ls cs,.int .i64 sky,.int .i64 st]] w fun e w'=>e=.returned (.tuple #[.int .i64 0,.int .i64 17])/\Below w.heap.size w w':=by
 obtain⟨A0,R0⟩:=aH w (.cells #[.slice pb lb cb,.slice pw lw cw,.slice pt lt ct,.slice ps ls cs,.int .i64 sky,.int .i64 st] 25)
 go_enter func15,ntmps15
 go_upto_region 1 with fail
 generalize hW:World.alloc w _=V0 at*
 obtain⟨gw,hgw⟩:=aB w.heap.size
 rw[hgw]at R0 ⊢
 clear hgw hW
 have x0:=aE R0.out
 go_wp2_with fail
 refine(CC.out V0).mono ?_
 rintro e9 v9 ⟨rfl,hv9⟩
 have hv8:=hv9.symm
 subst hv8
 go_wp2_with fail
 refine(CM.out V0).mono ?_
 rintro e9 v1 ⟨rfl,b1⟩
 have A1:Hid (Ab w v1):=A0.out.trans b1
 have R1:=hid (Ab.heap b1 R0.out)
 clear b1 x0
 have x0:=aE R1.out
 go_wp2_with fail
 refine(CB.out v1 A1.out).mono ?_
 rintro e9 v9 ⟨rfl,hv9⟩
 have hv8:=hv9.symm
 subst hv8
 go_wp2
 go_ret2
 exact⟨rfl,A1.out⟩
theorem qO(side:Int)(pb:Option Addr)(lb cb:Nat)(pw:Option Addr)(lw cw:Nat)(pt:Option Addr)(lt ct:Nat)(ps:Option Addr)(ls cs:Nat)(sky st:Int)(nc:Int)(ml:Int)(fb:Int)(w:World)(h0:(nc==0)=false)(h1:(ml != -1)=false)(h2:(fb != -1)=false)(h3:decide (sky<0)=false)(h4:decide (4503599627370496<sky)=true)
  (CC:Hid (∀v,Calls prog 34 #[.int .i64 side] v fun e w'=>e=.returned (.int .i64 nc)/\w'=v))
  (CM:Hid (∀v,Calls prog 46 #[.int .i64 nc,.agg #[.slice pb lb cb,.slice pw lw cw,.slice pt lt ct,.slice ps ls cs,.int .i64 sky,.int .i64 st]] v fun e w'=>e=.returned (.int .i64 ml)/\Below v.heap.size v w'))
  (CB:Hid (∀v,Ab w v->Calls prog 47 #[.slice pb lb cb,.float .f64 4697254411347427328] v fun e w'=>e=.returned (.int .i64 fb)/\w'=v)):
  Calls prog 15 #[.int .i64 side,.agg #[.slice pb lb cb,.slice pw lw cw,.slice pt lt ct,.slice ps ls cs,.int .i64 sky,.int .i64 st]] w fun e w'=>e=.returned (.tuple #[.int .i64 0,.int .i64 17])/\Below w.heap.size w w':=by
 obtain⟨A0,R0⟩:=aH w (.cells #[.slice pb lb cb,.slice pw lw cw,.slice pt lt ct,.slice ps ls cs,.int .i64 sky,.int .i64 st] 25)
 go_enter func15,ntmps15
 go_upto_region 1 with fail
 generalize hW:World.alloc w _=V0 at*
 obtain⟨gw,hgw⟩:=aB w.heap.size
 rw[hgw]at R0 ⊢
 clear hgw hW
 have x0:=aE R0.out
 go_wp2_with fail
 refine(CC.out V0).mono ?_
 rintro e9 v9 ⟨rfl,hv9⟩
 have hv8:=hv9.symm
 subst hv8
 go_wp2_with fail
 refine(CM.out V0).mono ?_
 rintro e9 v1 ⟨rfl,b1⟩
 have A1:Hid (Ab w v1):=A0.out.trans b1
 have R1:=hid (Ab.heap b1 R0.out)
 clear b1 x0
 have x0:=aE R1.out
 go_wp2_with fail
 refine(CB.out v1 A1.out).mono ?_
 rintro e9 v9 ⟨rfl,hv9⟩
 have hv8:=hv9.symm
 subst hv8
 go_wp2
 go_ret2
 exact⟨rfl,A1.out⟩
theorem pH(side:Int)(pb:Option Addr)(lb cb:Nat)(pw:Option Addr)(lw cw:Nat)(pt:Option Addr)(lt ct:Nat)(ps:Option Addr)(ls cs:Nat)(sky st:Int)(nc:Int)(ml:Int)(fb:Int)(fw:Int)(w:World)(h0:(nc==0)=false)(h1:(ml != -1)=false)(h2:(fb != -1)=false)(h3:decide (sky<0)=false)(h4:decide (4503599627370496<sky)=false)(h5:(fw != -1)=true)
  (CC:Hid (∀v,Calls prog 34 #[.int .i64 side] v fun e w'=>e=.returned (.int .i64 nc)/\w'=v))
  (CM:Hid (∀v,Calls prog 46 #[.int .i64 nc,.agg #[.slice pb lb cb,.slice pw lw cw,.slice pt lt ct,.slice ps ls cs,.int .i64 sky,.int .i64 st]] v fun e w'=>e=.returned (.int .i64 ml)/\Below v.heap.size v w'))
  (CB:Hid (∀v,Ab w v->Calls prog 47 #[.slice pb lb cb,.float .f64 4697254411347427328] v fun e w'=>e=.returned (.int .i64 fb)/\w'=v))
  (CW:Hid (∀v,Ab w v->Calls prog 48 #[.slice pw lw cw,.int .i64 (4503599627370496 - sky)] v fun e w'=>e=.returned (.int .i64 fw)/\w'=v)):
  Calls prog 15 #[.int .i64 side,.agg #[.slice pb lb cb,.slice pw lw cw,.slice pt lt ct,.slice ps ls cs,.int .i64 sky,.int .i64 st]] w fun e w'=>e=.returned (.tuple #[.int .i64 fw,.int .i64 14])/\Below w.heap.size w w':=by
 have sk1:0<=sky:=by simpa using h3
 have sk2:sky<=4503599627370496:=by simpa using h4
 obtain⟨A0,R0⟩:=aH w (.cells #[.slice pb lb cb,.slice pw lw cw,.slice pt lt ct,.slice ps ls cs,.int .i64 sky,.int .i64 st] 25)
 go_enter func15,ntmps15
 go_upto_region 1 with fail
 generalize hW:World.alloc w _=V0 at*
 obtain⟨gw,hgw⟩:=aB w.heap.size
 rw[hgw]at R0 ⊢
 clear hgw hW
 have x0:=aE R0.out
 go_wp2_with fail
 refine(CC.out V0).mono ?_
 rintro e9 v9 ⟨rfl,hv9⟩
 have hv8:=hv9.symm
 subst hv8
 go_wp2_with fail
 refine(CM.out V0).mono ?_
 rintro e9 v1 ⟨rfl,b1⟩
 have A1:Hid (Ab w v1):=A0.out.trans b1
 have R1:=hid (Ab.heap b1 R0.out)
 clear b1 x0
 have x0:=aE R1.out
 go_wp2_with fail
 refine(CB.out v1 A1.out).mono ?_
 rintro e9 v9 ⟨rfl,hv9⟩
 have hv8:=hv9.symm
 subst hv8
 go_wp2_with fail
 refine(CW.out v1 A1.out).mono ?_
 rintro e9 v9 ⟨rfl,hv9⟩
 have hv8:=hv9.symm
 subst hv8
 go_wp2
 go_ret2
 exact⟨rfl,A1.out⟩
theorem mV(side:Int)(pb:Option Addr)(lb cb:Nat)(pw:Option Addr)(lw cw:Nat)(pt:Option Addr)(lt ct:Nat)(ps:Option Addr)(ls cs:Nat)(sky st:Int)(nc:Int)(ml:Int)(fb:Int)(fw:Int)(ft:Int)(w:World)(h0:(nc==0)=false)(h1:(ml != -1)=false)(h2:(fb != -1)=false)(h3:decide (sky<0)=false)(h4:decide (4503599627370496<sky)=false)(h5:(fw != -1)=false)(h6:(ft != -1)=true)
  (CC:Hid (∀v,Calls prog 34 #[.int .i64 side] v fun e w'=>e=.returned (.int .i64 nc)/\w'=v))
  (CM:Hid (∀v,Calls prog 46 #[.int .i64 nc,.agg #[.slice pb lb cb,.slice pw lw cw,.slice pt lt ct,.slice ps ls cs,.int .i64 sky,.int .i64 st]] v fun e w'=>e=.returned (.int .i64 ml)/\Below v.heap.size v w'))
  (CB:Hid (∀v,Ab w v->Calls prog 47 #[.slice pb lb cb,.float .f64 4697254411347427328] v fun e w'=>e=.returned (.int .i64 fb)/\w'=v))
  (CW:Hid (∀v,Ab w v->Calls prog 48 #[.slice pw lw cw,.int .i64 (4503599627370496 - sky)] v fun e w'=>e=.returned (.int .i64 fw)/\w'=v))
  (CT:Hid (∀v,Ab w v->Calls prog 48 #[.slice pt lt ct,.int .i64 4503599627370496] v fun e w'=>e=.returned (.int .i64 ft)/\w'=v)):
  Calls prog 15 #[.int .i64 side,.agg #[.slice pb lb cb,.slice pw lw cw,.slice pt lt ct,.slice ps ls cs,.int .i64 sky,.int .i64 st]] w fun e w'=>e=.returned (.tuple #[.int .i64 ft,.int .i64 15])/\Below w.heap.size w w':=by
 have sk1:0<=sky:=by simpa using h3
 have sk2:sky<=4503599627370496:=by simpa using h4
 obtain⟨A0,R0⟩:=aH w (.cells #[.slice pb lb cb,.slice pw lw cw,.slice pt lt ct,.slice ps ls cs,.int .i64 sky,.int .i64 st] 25)
 go_enter func15,ntmps15
 go_upto_region 1 with fail
 generalize hW:World.alloc w _=V0 at*
 obtain⟨gw,hgw⟩:=aB w.heap.size
 rw[hgw]at R0 ⊢
 clear hgw hW
 have x0:=aE R0.out
 go_wp2_with fail
 refine(CC.out V0).mono ?_
 rintro e9 v9 ⟨rfl,hv9⟩
 have hv8:=hv9.symm
 subst hv8
 go_wp2_with fail
 refine(CM.out V0).mono ?_
 rintro e9 v1 ⟨rfl,b1⟩
 have A1:Hid (Ab w v1):=A0.out.trans b1
 have R1:=hid (Ab.heap b1 R0.out)
 clear b1 x0
 have x0:=aE R1.out
 go_wp2_with fail
 refine(CB.out v1 A1.out).mono ?_
 rintro e9 v9 ⟨rfl,hv9⟩
 have hv8:=hv9.symm
 subst hv8
 go_wp2_with fail
 refine(CW.out v1 A1.out).mono ?_
 rintro e9 v9 ⟨rfl,hv9⟩
 have hv8:=hv9.symm
 subst hv8
 go_wp2_with fail
 refine(CT.out v1 A1.out).mono ?_
 rintro e9 v9 ⟨rfl,hv9⟩
 have hv8:=hv9.symm
 subst hv8
 go_wp2
 go_ret2
 exact⟨rfl,A1.out⟩
theorem pK(side:Int)(pb:Option Addr)(lb cb:Nat)(pw:Option Addr)(lw cw:Nat)(pt:Option Addr)(lt ct:Nat)(ps:Option Addr)(ls cs:Nat)(sky st:Int)(nc:Int)(ml:Int)(fb:Int)(fw:Int)(ft:Int)(fs:Int)(w:World)(h0:(nc==0)=false)(h1:(ml != -1)=false)(h2:(fb != -1)=false)(h3:decide (sky<0)=false)(h4:decide (4503599627370496<sky)=false)(h5:(fw != -1)=false)(h6:(ft != -1)=false)(h7:(fs != -1)=true)
  (CC:Hid (∀v,Calls prog 34 #[.int .i64 side] v fun e w'=>e=.returned (.int .i64 nc)/\w'=v))
  (CM:Hid (∀v,Calls prog 46 #[.int .i64 nc,.agg #[.slice pb lb cb,.slice pw lw cw,.slice pt lt ct,.slice ps ls cs,.int .i64 sky,.int .i64 st]] v fun e w'=>e=.returned (.int .i64 ml)/\Below v.heap.size v w'))
  (CB:Hid (∀v,Ab w v->Calls prog 47 #[.slice pb lb cb,.float .f64 4697254411347427328] v fun e w'=>e=.returned (.int .i64 fb)/\w'=v))
  (CW:Hid (∀v,Ab w v->Calls prog 48 #[.slice pw lw cw,.int .i64 (4503599627370496 - sky)] v fun e w'=>e=.returned (.int .i64 fw)/\w'=v))
  (CT:Hid (∀v,Ab w v->Calls prog 48 #[.slice pt lt ct,.int .i64 4503599627370496] v fun e w'=>e=.returned (.int .i64 ft)/\w'=v))
  (CS:Hid (∀v,Ab w v->Calls prog 47 #[.slice ps ls cs,.float .f64 4652218415073722368] v fun e w'=>e=.returned (.int .i64 fs)/\w'=v)):
  Calls prog 15 #[.int .i64 side,.agg #[.slice pb lb cb,.slice pw lw cw,.slice pt lt ct,.slice ps ls cs,.int .i64 sky,.int .i64 st]] w fun e w'=>e=.returned (.tuple #[.int .i64 fs,.int .i64 16])/\Below w.heap.size w w':=by
 have sk1:0<=sky:=by simpa using h3
 have sk2:sky<=4503599627370496:=by simpa using h4
 obtain⟨A0,R0⟩:=aH w (.cells #[.slice pb lb cb,.slice pw lw cw,.slice pt lt ct,.slice ps ls cs,.int .i64 sky,.int .i64 st] 25)
 go_enter func15,ntmps15
 go_upto_region 1 with fail
 generalize hW:World.alloc w _=V0 at*
 obtain⟨gw,hgw⟩:=aB w.heap.size
 rw[hgw]at R0 ⊢
 clear hgw hW
 have x0:=aE R0.out
 go_wp2_with fail
 refine(CC.out V0).mono ?_
 rintro e9 v9 ⟨rfl,hv9⟩
 have hv8:=hv9.symm
 subst hv8
 go_wp2_with fail
 refine(CM.out V0).mono ?_
 rintro e9 v1 ⟨rfl,b1⟩
 have A1:Hid (Ab w v1):=A0.out.trans b1
 have R1:=hid (Ab.heap b1 R0.out)
 clear b1 x0
 have x0:=aE R1.out
 go_wp2_with fail
 refine(CB.out v1 A1.out).mono ?_
 rintro e9 v9 ⟨rfl,hv9⟩
 have hv8:=hv9.symm
 subst hv8
 go_wp2_with fail
 refine(CW.out v1 A1.out).mono ?_
 rintro e9 v9 ⟨rfl,hv9⟩
 have hv8:=hv9.symm
 subst hv8
 go_wp2_with fail
 refine(CT.out v1 A1.out).mono ?_
 rintro e9 v9 ⟨rfl,hv9⟩
 have hv8:=hv9.symm
 subst hv8
 go_wp2_with fail
 refine(CS.out v1 A1.out).mono ?_
 rintro e9 v9 ⟨rfl,hv9⟩
 have hv8:=hv9.symm
 subst hv8
 go_wp2
 go_ret2
 exact⟨rfl,A1.out⟩
theorem tQ(side:Int)(pb:Option Addr)(lb cb:Nat)(pw:Option Addr)(lw cw:Nat)(pt:Option Addr)(lt ct:Nat)(ps:Option Addr)(ls cs:Nat)(sky st:Int)(nc:Int)(ml:Int)(fb:Int)(fw:Int)(ft:Int)(fs:Int)(w:World)(h0:(nc==0)=false)(h1:(ml != -1)=false)(h2:(fb != -1)=false)(h3:decide (sky<0)=false)(h4:decide (4503599627370496<sky)=false)(h5:(fw != -1)=false)(h6:(ft != -1)=false)(h7:(fs != -1)=false)(h8:decide (st<0)=true)
  (CC:Hid (∀v,Calls prog 34 #[.int .i64 side] v fun e w'=>e=.returned (.int .i64 nc)/\w'=v))
  (CM:Hid (∀v,Calls prog 46 #[.int .i64 nc,.agg #[.slice pb lb cb,.slice pw lw cw,.slice pt lt ct,.slice ps ls cs,.int .i64 sky,.int .i64 st]] v fun e w'=>e=.returned (.int .i64 ml)/\Below v.heap.size v w'))
  (CB:Hid (∀v,Ab w v->Calls prog 47 #[.slice pb lb cb,.float .f64 4697254411347427328] v fun e w'=>e=.returned (.int .i64 fb)/\w'=v))
  (CW:Hid (∀v,Ab w v->Calls prog 48 #[.slice pw lw cw,.int .i64 (4503599627370496 - sky)] v fun e w'=>e=.returned (.int .i64 fw)/\w'=v))
  (CT:Hid (∀v,Ab w v->Calls prog 48 #[.slice pt lt ct,.int .i64 4503599627370496] v fun e w'=>e=.returned (.int .i64 ft)/\w'=v))
  (CS:Hid (∀v,Ab w v->Calls prog 47 #[.slice ps ls cs,.float .f64 4652218415073722368] v fun e w'=>e=.returned (.int .i64 fs)/\w'=v)):
  Calls prog 15 #[.int .i64 side,.agg #[.slice pb lb cb,.slice pw lw cw,.slice pt lt ct,.slice ps ls cs,.int .i64 sky,.int .i64 st]] w fun e w'=>e=.returned (.tuple #[.int .i64 0,.int .i64 1])/\Below w.heap.size w w':=by
 have sk1:0<=sky:=by simpa using h3
 have sk2:sky<=4503599627370496:=by simpa using h4
 obtain⟨A0,R0⟩:=aH w (.cells #[.slice pb lb cb,.slice pw lw cw,.slice pt lt ct,.slice ps ls cs,.int .i64 sky,.int .i64 st] 25)
 go_enter func15,ntmps15
 go_upto_region 1 with fail
 generalize hW:World.alloc w _=V0 at*
 obtain⟨gw,hgw⟩:=aB w.heap.size
 rw[hgw]at R0 ⊢
 clear hgw hW
 have x0:=aE R0.out
 go_wp2_with fail
 refine(CC.out V0).mono ?_
 rintro e9 v9 ⟨rfl,hv9⟩
 have hv8:=hv9.symm
 subst hv8
 go_wp2_with fail
 refine(CM.out V0).mono ?_
 rintro e9 v1 ⟨rfl,b1⟩
 have A1:Hid (Ab w v1):=A0.out.trans b1
 have R1:=hid (Ab.heap b1 R0.out)
 clear b1 x0
 have x0:=aE R1.out
 go_wp2_with fail
 refine(CB.out v1 A1.out).mono ?_
 rintro e9 v9 ⟨rfl,hv9⟩
 have hv8:=hv9.symm
 subst hv8
 go_wp2_with fail
 refine(CW.out v1 A1.out).mono ?_
 rintro e9 v9 ⟨rfl,hv9⟩
 have hv8:=hv9.symm
 subst hv8
 go_wp2_with fail
 refine(CT.out v1 A1.out).mono ?_
 rintro e9 v9 ⟨rfl,hv9⟩
 have hv8:=hv9.symm
 subst hv8
 go_wp2_with fail
 refine(CS.out v1 A1.out).mono ?_
 rintro e9 v9 ⟨rfl,hv9⟩
 have hv8:=hv9.symm
 subst hv8
 go_wp2
 go_ret2
 exact⟨rfl,A1.out⟩
theorem tR(side:Int)(pb:Option Addr)(lb cb:Nat)(pw:Option Addr)(lw cw:Nat)(pt:Option Addr)(lt ct:Nat)(ps:Option Addr)(ls cs:Nat)(sky st:Int)(nc:Int)(ml:Int)(fb:Int)(fw:Int)(ft:Int)(fs:Int)(w:World)(h0:(nc==0)=false)(h1:(ml != -1)=false)(h2:(fb != -1)=false)(h3:decide (sky<0)=false)(h4:decide (4503599627370496<sky)=false)(h5:(fw != -1)=false)(h6:(ft != -1)=false)(h7:(fs != -1)=false)(h8:decide (st<0)=false)(h9:decide (4611686018427387904<st)=true)
  (CC:Hid (∀v,Calls prog 34 #[.int .i64 side] v fun e w'=>e=.returned (.int .i64 nc)/\w'=v))
  (CM:Hid (∀v,Calls prog 46 #[.int .i64 nc,.agg #[.slice pb lb cb,.slice pw lw cw,.slice pt lt ct,.slice ps ls cs,.int .i64 sky,.int .i64 st]] v fun e w'=>e=.returned (.int .i64 ml)/\Below v.heap.size v w'))
  (CB:Hid (∀v,Ab w v->Calls prog 47 #[.slice pb lb cb,.float .f64 4697254411347427328] v fun e w'=>e=.returned (.int .i64 fb)/\w'=v))
  (CW:Hid (∀v,Ab w v->Calls prog 48 #[.slice pw lw cw,.int .i64 (4503599627370496 - sky)] v fun e w'=>e=.returned (.int .i64 fw)/\w'=v))
  (CT:Hid (∀v,Ab w v->Calls prog 48 #[.slice pt lt ct,.int .i64 4503599627370496] v fun e w'=>e=.returned (.int .i64 ft)/\w'=v))
  (CS:Hid (∀v,Ab w v->Calls prog 47 #[.slice ps ls cs,.float .f64 4652218415073722368] v fun e w'=>e=.returned (.int .i64 fs)/\w'=v)):
  Calls prog 15 #[.int .i64 side,.agg #[.slice pb lb cb,.slice pw lw cw,.slice pt lt ct,.slice ps ls cs,.int .i64 sky,.int .i64 st]] w fun e w'=>e=.returned (.tuple #[.int .i64 0,.int .i64 1])/\Below w.heap.size w w':=by
 have sk1:0<=sky:=by simpa using h3
 have sk2:sky<=4503599627370496:=by simpa using h4
 obtain⟨A0,R0⟩:=aH w (.cells #[.slice pb lb cb,.slice pw lw cw,.slice pt lt ct,.slice ps ls cs,.int .i64 sky,.int .i64 st] 25)
 go_enter func15,ntmps15
 go_upto_region 1 with fail
 generalize hW:World.alloc w _=V0 at*
 obtain⟨gw,hgw⟩:=aB w.heap.size
 rw[hgw]at R0 ⊢
 clear hgw hW
 have x0:=aE R0.out
 go_wp2_with fail
 refine(CC.out V0).mono ?_
 rintro e9 v9 ⟨rfl,hv9⟩
 have hv8:=hv9.symm
 subst hv8
 go_wp2_with fail
 refine(CM.out V0).mono ?_
 rintro e9 v1 ⟨rfl,b1⟩
 have A1:Hid (Ab w v1):=A0.out.trans b1
 have R1:=hid (Ab.heap b1 R0.out)
 clear b1 x0
 have x0:=aE R1.out
 go_wp2_with fail
 refine(CB.out v1 A1.out).mono ?_
 rintro e9 v9 ⟨rfl,hv9⟩
 have hv8:=hv9.symm
 subst hv8
 go_wp2_with fail
 refine(CW.out v1 A1.out).mono ?_
 rintro e9 v9 ⟨rfl,hv9⟩
 have hv8:=hv9.symm
 subst hv8
 go_wp2_with fail
 refine(CT.out v1 A1.out).mono ?_
 rintro e9 v9 ⟨rfl,hv9⟩
 have hv8:=hv9.symm
 subst hv8
 go_wp2_with fail
 refine(CS.out v1 A1.out).mono ?_
 rintro e9 v9 ⟨rfl,hv9⟩
 have hv8:=hv9.symm
 subst hv8
 go_wp2
 go_ret2
 exact⟨rfl,A1.out⟩
theorem check_ok(side:Int)(pb:Option Addr)(lb cb:Nat)(pw:Option Addr)(lw cw:Nat)(pt:Option Addr)(lt ct:Nat)(ps:Option Addr)(ls cs:Nat)(sky st:Int)(nc:Int)(ml:Int)(fb:Int)(fw:Int)(ft:Int)(fs:Int)(w:World)(h0:(nc==0)=false)(h1:(ml != -1)=false)(h2:(fb != -1)=false)(h3:decide (sky<0)=false)(h4:decide (4503599627370496<sky)=false)(h5:(fw != -1)=false)(h6:(ft != -1)=false)(h7:(fs != -1)=false)(h8:decide (st<0)=false)(h9:decide (4611686018427387904<st)=false)
  (CC:Hid (∀v,Calls prog 34 #[.int .i64 side] v fun e w'=>e=.returned (.int .i64 nc)/\w'=v))
  (CM:Hid (∀v,Calls prog 46 #[.int .i64 nc,.agg #[.slice pb lb cb,.slice pw lw cw,.slice pt lt ct,.slice ps ls cs,.int .i64 sky,.int .i64 st]] v fun e w'=>e=.returned (.int .i64 ml)/\Below v.heap.size v w'))
  (CB:Hid (∀v,Ab w v->Calls prog 47 #[.slice pb lb cb,.float .f64 4697254411347427328] v fun e w'=>e=.returned (.int .i64 fb)/\w'=v))
  (CW:Hid (∀v,Ab w v->Calls prog 48 #[.slice pw lw cw,.int .i64 (4503599627370496 - sky)] v fun e w'=>e=.returned (.int .i64 fw)/\w'=v))
  (CT:Hid (∀v,Ab w v->Calls prog 48 #[.slice pt lt ct,.int .i64 4503599627370496] v fun e w'=>e=.returned (.int .i64 ft)/\w'=v))
  (CS:Hid (∀v,Ab w v->Calls prog 47 #[.slice ps ls cs,.float .f64 4652218415073722368] v fun e w'=>e=.returned (.int .i64 fs)/\w'=v)):
  Calls prog 15 #[.int .i64 side,.agg #[.slice pb lb cb,.slice pw lw cw,.slice pt lt ct,.slice ps ls cs,.int .i64 sky,.int .i64 st]] w fun e w'=>e=.returned (.tuple #[.int .i64 0,.int .i64 0])/\Below w.heap.size w w':=by
 have sk1:0<=sky:=by simpa using h3
 have sk2:sky<=4503599627370496:=by simpa using h4
 obtain⟨A0,R0⟩:=aH w (.cells #[.slice pb lb cb,.slice pw lw cw,.slice pt lt ct,.slice ps ls cs,.int .i64 sky,.int .i64 st] 25)
 go_enter func15,ntmps15
 go_upto_region 1 with fail
 generalize hW:World.alloc w _=V0 at*
 obtain⟨gw,hgw⟩:=aB w.heap.size
 rw[hgw]at R0 ⊢
 clear hgw hW
 have x0:=aE R0.out
 go_wp2_with fail
 refine(CC.out V0).mono ?_
 rintro e9 v9 ⟨rfl,hv9⟩
 have hv8:=hv9.symm
 subst hv8
 go_wp2_with fail
 refine(CM.out V0).mono ?_
 rintro e9 v1 ⟨rfl,b1⟩
 have A1:Hid (Ab w v1):=A0.out.trans b1
 have R1:=hid (Ab.heap b1 R0.out)
 clear b1 x0
 have x0:=aE R1.out
 go_wp2_with fail
 refine(CB.out v1 A1.out).mono ?_
 rintro e9 v9 ⟨rfl,hv9⟩
 have hv8:=hv9.symm
 subst hv8
 go_wp2_with fail
 refine(CW.out v1 A1.out).mono ?_
 rintro e9 v9 ⟨rfl,hv9⟩
 have hv8:=hv9.symm
 subst hv8
 go_wp2_with fail
 refine(CT.out v1 A1.out).mono ?_
 rintro e9 v9 ⟨rfl,hv9⟩
 have hv8:=hv9.symm
 subst hv8
 go_wp2_with fail
 refine(CS.out v1 A1.out).mono ?_
 rintro e9 v9 ⟨rfl,hv9⟩
 have hv8:=hv9.symm
 subst hv8
 go_wp2
 go_ret2
 exact⟨rfl,A1.out⟩
theorem bed_fp{B:Nat->Nat}(i:Nat):bB B i= !btw (B i) 13920626448202203136 4697254411347427328:=rfl
theorem sp_fp{S:Nat->Nat}(i:Nat):bS S i= !btw (S i) 13875590451928498176 4652218415073722368:=rfl
theorem ne_m1{x:Int}(h:0<=x):(x != -1)=true:=by simp;omega
theorem ne_m2{x:Int}(h: ¬0<=x)(g: -1<=x):(x != -1)=false:=by simp;omega
theorem kH(side:Int)(pb:Option Addr)(lb cb:Nat)(B:Nat->Nat)(pw:Option Addr)(lw cw:Nat)(W:Nat->Int)(pt:Option Addr)(lt ct:Nat)(T:Nat->Int)(ps:Option Addr)(ls cs:Nat)(S:Nat->Nat)(sky st:Int)(w:World)(i1:IsFl w pb lb B)(i2:Sh.IsI w pw lw W)(i3:Sh.IsI w pt lt T)(i4:IsFl w ps ls S):
  Calls prog 15 #[.int .i64 side,.agg #[.slice pb lb cb,.slice pw lw cw,.slice pt lt ct,.slice ps ls cs,.int .i64 sky,.int .i64 st]] w fun e w'=>e=.returned (.tuple #[.int .i64 (chk side lb lw lt ls B W T S sky st).1,.int .i64 (chk side lb lw lt ls B W T S sky st).2])/\Below w.heap.size w w':=by
 have CC:=fun v=>aZ side v
 unfold chk
 by_cases hs:1<=side/\side<=32
 ·rw[if_pos hs]
  obtain⟨n,rfl⟩: ∃n:Nat,side=(n:Nat):=⟨side.toNat,by omega⟩
  rw[lX (n:=n) (by omega)]at CC
  rw[Int.toNat_natCast]
  have p1:0<n*n:=Nat.mul_pos (by omega) (by omega)
  have p2:n*n<=32*32:=Nat.mul_le_mul (by omega) (by omega)
  have q6:6*n*n=6*(n*n):=Nat.mul_assoc _ _ _
  obtain⟨N,hN⟩:=aB (6*n*n)
  rw[hN]at CC q6 ⊢
  have N0:0<N:=by omega
  have N1:(N:Int)<=6144:=by omega
  have h0:((N:Int)==0)=false:=by simp;omega
  clear p1 p2 q6 hN
  have MF:=fun v=>misfit_4 N pb lb cb pw lw cw pt lt ct ps ls cs sky st v N1
  unfold chN
  by_cases e1:lb=N
  ·rw[if_neg (by omega)]
   by_cases e2:lw=N
   ·rw[if_neg (by omega)]
    by_cases e3:lt=N
    ·rw[if_neg (by omega)]
     by_cases e4:ls=2*N
     ·rw[if_neg (by omega)]
      have CM:=fun v=>MF v (by simp[e1]) (by simp[e2]) (by simp[e3]) (by simp[e4])
      have CB:=fun v (a:Ab w v)=>lK pb lb cb B 4697254411347427328 13920626448202203136 (bB B) v (by decide+kernel) (by omega) (by omega) (i1.below a) (fun i _=>bed_fp i)
      have CS:=fun v (a:Ab w v)=>lK ps ls cs S 4652218415073722368 13875590451928498176 (bS S) v (by decide+kernel) (by omega) (by omega) (i4.below a) (fun i _=>sp_fp i)
      have CT:=fun v (a:Ab w v)=>rV pt lt ct T 0 4503599627370496 v (by omega) (i3.below a) (by omega) (by omega)
      rw[e1]at CB
      rw[e4]at CS
      rw[e3]at CT
      obtain⟨fb,hfb⟩:=aB (fp (bB B) N)
      obtain⟨fs,hfs⟩:=aB (fp (bS S) (2*N))
      obtain⟨ft,hft⟩:=aB (fp (bQ T 0) N)
      have g1:=(fp_ge (bB B) N).1
      have g2:=(fp_ge (bS S) (2*N)).1
      have g3:=(fp_ge (bQ T 0) N).1
      rw[hfb]at CB g1 ⊢
      rw[hfs]at CS g2 ⊢
      rw[hft]at CT g3 ⊢
      rw[<- e1]at CB
      rw[<- e4]at CS
      rw[<- e3]at CT
      clear hfb hfs hft
      by_cases f2:0<=fb
      ·rw[if_pos f2]
       exact tP n pb lb cb pw lw cw pt lt ct ps ls cs sky st _ _ _ w h0 (by decide) (ne_m1 f2) CC CM CB
      ·rw[if_neg f2]
       have k2:=ne_m2 f2 g1
       by_cases f3:sky<0
       ·rw[if_pos (.inl f3)]
        exact qN n pb lb cb pw lw cw pt lt ct ps ls cs sky st _ _ _ w h0 (by decide) k2 (decide_eq_true f3) CC CM CB
       ·have k3:=decide_eq_false f3
        by_cases f4:4503599627370496<sky
        ·rw[if_pos (.inr f4)]
         exact qO n pb lb cb pw lw cw pt lt ct ps ls cs sky st _ _ _ w h0 (by decide) k2 k3 (decide_eq_true f4) CC CM CB
        ·rw[if_neg (by omega)]
         have k4:=decide_eq_false f4
         have CW:=fun v (a:Ab w v)=>rV pw lw cw W sky (4503599627370496 - sky) v (by omega) (i2.below a) (by omega) (by omega)
         rw[e2]at CW
         obtain⟨fw,hfw⟩:=aB (fp (bQ W sky) N)
         have g4:=(fp_ge (bQ W sky) N).1
         rw[hfw]at CW g4 ⊢
         rw[<- e2]at CW
         clear hfw
         by_cases f5:0<=fw
         ·rw[if_pos f5]
          exact pH n pb lb cb pw lw cw pt lt ct ps ls cs sky st _ _ _ _ w h0 (by decide) k2 k3 k4 (ne_m1 f5) CC CM CB CW
         ·rw[if_neg f5]
          have k5:=ne_m2 f5 g4
          by_cases f6:0<=ft
          ·rw[if_pos f6]
           exact mV n pb lb cb pw lw cw pt lt ct ps ls cs sky st _ _ _ _ _ w h0 (by decide) k2 k3 k4 k5 (ne_m1 f6) CC CM CB CW CT
          ·rw[if_neg f6]
           have k6:=ne_m2 f6 g3
           by_cases f7:0<=fs
           ·rw[if_pos f7]
            exact pK n pb lb cb pw lw cw pt lt ct ps ls cs sky st _ _ _ _ _ _ w h0 (by decide) k2 k3 k4 k5 k6 (ne_m1 f7) CC CM CB CW CT CS
           ·rw[if_neg f7]
            have k7:=ne_m2 f7 g2
            by_cases f8:st<0
            ·rw[if_pos (.inl f8)]
             exact tQ n pb lb cb pw lw cw pt lt ct ps ls cs sky st _ _ _ _ _ _ w h0 (by decide) k2 k3 k4 k5 k6 k7 (decide_eq_true f8) CC CM CB CW CT CS
            ·have k8:=decide_eq_false f8
             by_cases f9:4611686018427387904<st
             ·rw[if_pos (.inr f9)]
              exact tR n pb lb cb pw lw cw pt lt ct ps ls cs sky st _ _ _ _ _ _ w h0 (by decide) k2 k3 k4 k5 k6 k7 k8 (decide_eq_true f9) CC CM CB CW CT CS
             ·rw[if_neg (by omega)]
              exact check_ok n pb lb cb pw lw cw pt lt ct ps ls cs sky st _ _ _ _ _ _ w h0 (by decide) k2 k3 k4 k5 k6 k7 k8 (decide_eq_false f9) CC CM CB CW CT CS
     ·rw[if_pos e4]
      exact eB n pb lb cb pw lw cw pt lt ct ps ls cs sky st _ _ w h0 (by decide) CC (fun v=>misfit_3 N pb lb cb pw lw cw pt lt ct ps ls cs sky st v N1 (by simp[e1]) (by simp[e2]) (by simp[e3]) (by simp;omega))
    ·rw[if_pos e3]
     exact eB n pb lb cb pw lw cw pt lt ct ps ls cs sky st _ _ w h0 (by decide) CC (fun v=>misfit_2 N pb lb cb pw lw cw pt lt ct ps ls cs sky st v N1 (by simp[e1]) (by simp[e2]) (by simp;omega))
   ·rw[if_pos e2]
    exact eB n pb lb cb pw lw cw pt lt ct ps ls cs sky st _ _ w h0 (by decide) CC (fun v=>misfit_1 N pb lb cb pw lw cw pt lt ct ps ls cs sky st v N1 (by simp[e1]) (by simp;omega))
  ·rw[if_pos e1]
   exact eB n pb lb cb pw lw cw pt lt ct ps ls cs sky st _ _ w h0 (by decide) CC (fun v=>misfit_0 N pb lb cb pw lw cw pt lt ct ps ls cs sky st v N1 (by simp;omega))
 ·rw[if_neg hs]
  exact pG side pb lb cb pw lw cw pt lt ct ps ls cs sky st _ w (by unfold clN;rw[if_neg hs];rfl) CC
end Ss
end
end Go.Proofs.YtlmfpikhlcnjjaaGreatDoor
