/-
  Some of the texts of this proof, one behind the other.
-/
import Derived.Test.YtdeammhdedcjlaaKf06
set_option maxRecDepth 100000
set_option maxHeartbeats 400000000
namespace Go.Proofs.Ytdeammhdedcjlaa
open _root_.Go.Proofs.Try
section
open Go.RowKit Tf Cu Go.Deep
attribute [local go_sem] aI aJ aQ aR aU aV aX aM
namespace Ss
theorem sameF_at(a b:Nat)(r:Bool)(w:World)(hr:decide (a=b)=r):
  Calls prog 60 #[.float .f64 a,.float .f64 b] w fun e w'=>e=.returned (.bool r)/\w'=w:=by
 by_cases h:a=b
 ·have d1:((a:Int)==(b:Int))=true:=by simp[h]
  have R:Hid (r=true):=hr.symm.trans (decide_eq_true h)
  clear hr h
  go_enter func60,ntmps60
  go_wp2
  go_ret
  exact⟨by rw[R.out];rfl,rfl⟩
 ·have d1:((a:Int)==(b:Int))=false:=by simp;omega
  have R:Hid (r=false):=hr.symm.trans (decide_eq_false h)
  clear hr h
  go_enter func60,ntmps60
  go_wp2
  go_ret
  exact⟨by rw[R.out];rfl,rfl⟩
theorem jF(x lo hi:Nat)(r:Bool)(w:World)(hr:((fgt x lo||feq x lo)&&(flt x hi||feq x hi))=r):
  Calls prog 59 #[.float .f64 x,.float .f64 lo,.float .f64 hi] w fun e w'=>e=.returned (.bool r)/\w'=w:=by
 cases h1:(fgt x lo||feq x lo)with
 | false=>
  have R:Hid (r=false):=hr.symm.trans (by rw[h1];rfl)
  clear hr
  go_enter func59,ntmps59
  go_wp2
  go_ret
  exact⟨by rw[R.out];rfl,rfl⟩
 | true=>
  cases h2:(flt x hi||feq x hi)with
  | false=>
   have R:Hid (r=false):=hr.symm.trans (by rw[h1,h2];rfl)
   clear hr
   go_enter func59,ntmps59
   go_wp2
   go_ret
   exact⟨by rw[R.out];rfl,rfl⟩
  | true=>
   have R:Hid (r=true):=hr.symm.trans (by rw[h1,h2];rfl)
   clear hr
   go_enter func59,ntmps59
   go_wp2
   go_ret
   exact⟨by rw[R.out];rfl,rfl⟩
theorem canon_in{x lo:Nat}(hx:x<18446744073709551616)(hl:lo<18446744073709551616)(h:(fgt x lo||feq x lo)=true):decide (x=canonB x)=decide (x≠9223372036854775808):=by
 have n:isN x=false:=by
  rw[mW x lo hx hl,fO x lo hx hl]at h
  cases q:isN x with
  | false=>rfl
  | true=>rw[q]at h;simp at h
 unfold canonB
 rw[if_neg (by rw[n];decide)]
 unfold mg
 by_cases z:x%9223372036854775808=0
 ·rw[if_pos z]
  by_cases e:x=9223372036854775808
  ·rw[decide_eq_false (by omega),decide_eq_false (fun q=>q e)]
  ·rw[decide_eq_true (by omega),decide_eq_true e]
 ·rw[if_neg z,decide_eq_true rfl,decide_eq_true (by omega)]
theorem pE(x lo hi:Nat)(r:Bool)(w:World)(hx:x<18446744073709551616)(hl:lo<18446744073709551616)(hr:btw x lo hi=r):
  Calls prog 45 #[.float .f64 x,.float .f64 lo,.float .f64 hi] w fun e w'=>e=.returned (.bool r)/\w'=w:=by
 unfold btw at hr
 cases h1:((fgt x lo||feq x lo)&&(flt x hi||feq x hi))with
 | false=>
  have R:Hid (r=false):=hr.symm.trans (by rw[h1];rfl)
  have CW:=hid (jF x lo hi false w h1)
  clear hr hx hl h1
  go_enter func45,ntmps45
  go_wp2_with fail
  refine CW.out.mono ?_
  rintro e9 v9 ⟨rfl,hv9⟩
  have hv8:=hv9.symm
  subst hv8
  go_wp2
  go_ret
  exact⟨by rw[R.out];rfl,rfl⟩
 | true=>
  have R:Hid (decide (x≠9223372036854775808)=r):=by
   show _=_
   rw[<- hr,h1]
   rfl
  have CW:=hid (jF x lo hi true w h1)
  have h3:=canon_in hx hl ((Bool.and_eq_true _ _).mp h1).1
  have CC:=hid (lM x _ w hx rfl)
  have CS:=hid (sameF_at x (canonB x) r w (by rw[h3];exact R.out))
  generalize canonB x=y at*
  clear hr hx hl h1 h3 R
  go_enter func45,ntmps45
  go_wp2_with fail
  refine CW.out.mono ?_
  rintro e9 v9 ⟨rfl,hv9⟩
  have hv8:=hv9.symm
  subst hv8
  go_wp2_with fail
  refine CC.out.mono ?_
  rintro e9 v9 ⟨rfl,hv9⟩
  have hv8:=hv9.symm
  subst hv8
  go_wp2_with fail
  refine CS.out.mono ?_
  rintro e9 v9 ⟨rfl,hv9⟩
  have hv8:=hv9.symm
  subst hv8
  go_wp2
  go_ret
  exact⟨rfl,rfl⟩
theorem jG(p:Option Addr)(N c:Nat)(f:Nat->Nat)(m nm:Nat)(q:Nat->Bool)(w:World)(hm:Op.negFloat .f64 m=nm)(hn:nm<18446744073709551616)(hN:N<=281474976710656)(hf:IsFl w p N f)(hq: ∀i,i<N->q i= !btw (f i) nm m):
  Calls prog 31 #[.slice p N c,.float .f64 m] w fun e w'=>e=.returned (.int .i64 (fp q N))/\w'=w:=by
 have HF:=hid hf
 have HN:=hid hN
 have HQ:=hid hq
 have HNM:=hid hn
 clear hf hN hq hn
 go_enter func31,ntmps31
 go_wp2
 go_loopw [9] (fun iv wr=> ∃k:Nat,k<=N/\iv=.int .i64 (k:Nat)/\(∀i,i<k->q i=false)/\wr=w) (fun iv _=>N - (intOf iv).toNat)
 case atStart=>exact⟨0,by omega,rfl,fun i hi=>absurd hi (Nat.not_lt_zero i),rfl⟩
 case round=>
  obtain⟨k,hk,rfl,g1,hwr⟩:=hrel
  have hwr2:=hwr.symm
  subst hwr2
  have G1:=hid g1
  clear g1
  by_cases hkn:k<N
  ·have HK:=hid hkn
   have kI:(k:Int)<N:=by omega
   have kB:(k:Int)<=281474976710656:=by have:=HN.out;omega
   obtain⟨b0,o0,rfl⟩:=HF.out.some0 (show 0<N by omega)
   obtain⟨x,hx⟩:=aB (f k)
   have xa:=HF.out.at0 hkn
   have xc:=xa.2.2
   have xl:=(HF.out k hkn).1
   rw[hx]at xc xl
   have qk:=HQ.out k hkn
   rw[hx]at qk
   clear hx hkn hk xa
   cases hb:btw x nm m with
   | false=>
    have CB:=hid (pE x nm m false w xl HNM.out hb)
    have QK:Hid (q k=true):=qk.trans (by rw[hb];rfl)
    have E:Hid (fp q N=(k:Nat)):=nU G1.out QK.out HK.out
    clear qk hb xl
    go_wp2_with fail
    refine CB.out.mono ?_
    rintro e9 v9 ⟨rfl,hv9⟩
    have hv8:=hv9.symm
    subst hv8
    go_wp2
    go_ret
    exact⟨by rw[E.out];rfl,by first | trivial | rfl⟩
   | true=>
    have CB:=hid (pE x nm m true w xl HNM.out hb)
    have QK:Hid (q k=false):=qk.trans (by rw[hb];rfl)
    clear qk hb xl
    go_wp2_with fail
    refine CB.out.mono ?_
    rintro e9 v9 ⟨rfl,hv9⟩
    have hv8:=hv9.symm
    subst hv8
    go_wp2
    refine⟨⟨k+1,by have:=HK.out;omega,by simp,fun i hi=> ?_,by first | trivial | rfl⟩,by have:=HK.out;simp[intOf];omega⟩
    by_cases l:i<k
    ·exact G1.out i l
    ·obtain rfl:i=k:=by omega
     exact QK.out
  ·have e6:N=k:=by omega
   subst e6
   have E:Hid (fp q N= -1):=eK G1.out
   go_wp2
   go_ret
   exact⟨by rw[E.out];rfl,by first | trivial | rfl⟩
theorem pG(p:Option Addr)(N c:Nat)(f:Nat->Int)(th rm:Int)(w:World)(hN:N<=281474976710656)(hf:Sh.IsI w p N f)(ht:0<=th/\th<=4503599627370496)(hrm:rm=4503599627370496 - th):
  Calls prog 32 #[.slice p N c,.int .i64 rm] w fun e w'=>e=.returned (.int .i64 (fp (bQ f th) N))/\w'=w:=by
 have HF:=hid hf
 have HN:=hid hN
 have HT:=hid ht
 have HR:=hid hrm
 clear hf hN ht hrm
 go_enter func32,ntmps32
 go_wp2
 go_loopw [1,9] (fun sv iv wr=> ∃k:Nat,k<=N/\iv=.int .i64 (k:Nat)/\sv=.int .i64 (4503599627370496 - (th+Sh.sumN f k))/\(0<=th+Sh.sumN f k/\th+Sh.sumN f k<=4503599627370496)/\(∀i,i<k->bQ f th i=false)/\wr=w) (fun _ iv _=>N - (intOf iv).toNat)
 case atStart=>exact⟨0,by omega,rfl,by show _=Value.int .i64 (4503599627370496 - (th+0));rw[Int.add_zero,HR.out],by show 0<=th+0/\th+0<=_;have:=HT.out;omega,fun i hi=>absurd hi (Nat.not_lt_zero i),rfl⟩
 case round=>
  obtain⟨k,hk,rfl,rfl,hb,g1,hwr⟩:=hrel
  have hwr2:=hwr.symm
  subst hwr2
  have G1:=hid g1
  clear g1
  obtain⟨s,hs⟩:=aB (4503599627370496 - (th+Sh.sumN f k))
  have s1:0<=s:=by omega
  have s2:s<=4503599627370496:=by omega
  rw[hs]
  clear hb
  by_cases hkn:k<N
  ·have HK:=hid hkn
   have kI:(k:Int)<N:=by omega
   have kB:(k:Int)<=281474976710656:=by have:=HN.out;omega
   obtain⟨b0,o0,rfl⟩:=HF.out.some0 (show 0<N by omega)
   obtain⟨x,hx⟩:=aB (f k)
   have xc:=(HF.out.at0 hkn).2.2
   rw[hx]at xc
   have QE:Hid (bQ f th k=(decide (x<0)||decide (s<x))):=by show bQ f th k=_;unfold bQ;rw[hs,hx]
   have M3:Hid (th+Sh.sumN f (k+1)=4503599627370496 - s+x):=by show th+(Sh.sumN f k+f k)=_;rw[hx];omega
   clear hx hs hkn hk
   by_cases q1:x<0
   ·have d1:decide (x<0)=true:=decide_eq_true q1
    have E:Hid (fp (bQ f th) N=(k:Nat)):=nU G1.out (QE.out.trans (by rw[d1];rfl)) HK.out
    go_wp2
    go_ret
    exact⟨by rw[E.out];rfl,by first | trivial | rfl⟩
   ·have d1:decide (x<0)=false:=decide_eq_false q1
    by_cases q2:s<x
    ·have d2:decide (s<x)=true:=decide_eq_true q2
     have E:Hid (fp (bQ f th) N=(k:Nat)):=nU G1.out (QE.out.trans (by rw[d1,d2];rfl)) HK.out
     go_wp2
     go_ret
     exact⟨by rw[E.out];rfl,by first | trivial | rfl⟩
    ·have d2:decide (s<x)=false:=decide_eq_false q2
     have QF:Hid (bQ f th k=false):=QE.out.trans (by rw[d1,d2];rfl)
     have n1:0<=s - x:=by omega
     have n2:s - x<=4503599627370496:=by omega
     have N3:Hid (4503599627370496 - (4503599627370496 - s+x)=s - x):=by show _=_;omega
     have N4:Hid (0<=4503599627370496 - s+x/\4503599627370496 - s+x<=4503599627370496):=by show _/\_;omega
     clear q1 q2
     go_wp2
     refine⟨⟨k+1,by have:=HK.out;omega,by simp,by rw[M3.out,N3.out],by rw[M3.out];exact N4.out,fun i hi=> ?_,by first | trivial | rfl⟩,by have:=HK.out;simp[intOf];omega⟩
     by_cases l:i<k
     ·exact G1.out i l
     ·obtain rfl:i=k:=by omega
      exact QF.out
  ·have e6:N=k:=by omega
   subst e6
   have E:Hid (fp (bQ f th) N= -1):=eK G1.out
   go_wp2
   go_ret
   exact⟨by rw[E.out];rfl,by first | trivial | rfl⟩
theorem misfit_0(N:Nat)(pb:Option Addr)(lb cb:Nat)(pw:Option Addr)(lw cw:Nat)(pt:Option Addr)(lt ct:Nat)(ps:Option Addr)(ls cs:Nat)(sky st:Int)(w:World)(_hN:(N:Int)<=6144)(h0:((lb:Int) != (N:Int))=true):
  Calls prog 30 #[.int .i64 (N:Nat),.agg #[.slice pb lb cb,.slice pw lw cw,.slice pt lt ct,.slice ps ls cs,.int .i64 sky,.int .i64 st]] w fun e w'=>e=.returned (.int .i64 0)/\Below w.heap.size w w':=by
 obtain⟨A0,R0⟩:=aF w (.cells #[.slice pb lb cb,.slice pw lw cw,.slice pt lt ct,.slice ps ls cs,.int .i64 sky,.int .i64 st] 40)
 go_enter func30,ntmps30
 go_upto_region 1 with fail
 generalize hW:World.alloc w _=V0 at*
 obtain⟨gw,hgw⟩:=aB w.heap.size
 rw[hgw]at R0 ⊢
 clear hgw hW
 have x0:=aE R0.out
 go_wp2
 go_ret
 exact⟨rfl,A0.out⟩
theorem misfit_1(N:Nat)(pb:Option Addr)(lb cb:Nat)(pw:Option Addr)(lw cw:Nat)(pt:Option Addr)(lt ct:Nat)(ps:Option Addr)(ls cs:Nat)(sky st:Int)(w:World)(_hN:(N:Int)<=6144)(h0:((lb:Int) != (N:Int))=false)(h1:((lw:Int) != (N:Int))=true):
  Calls prog 30 #[.int .i64 (N:Nat),.agg #[.slice pb lb cb,.slice pw lw cw,.slice pt lt ct,.slice ps ls cs,.int .i64 sky,.int .i64 st]] w fun e w'=>e=.returned (.int .i64 1)/\Below w.heap.size w w':=by
 obtain⟨A0,R0⟩:=aF w (.cells #[.slice pb lb cb,.slice pw lw cw,.slice pt lt ct,.slice ps ls cs,.int .i64 sky,.int .i64 st] 40)
 go_enter func30,ntmps30
 go_upto_region 1 with fail
 generalize hW:World.alloc w _=V0 at*
 obtain⟨gw,hgw⟩:=aB w.heap.size
 rw[hgw]at R0 ⊢
 clear hgw hW
 have x0:=aE R0.out
 go_wp2
 go_ret
 exact⟨rfl,A0.out⟩
theorem misfit_2(N:Nat)(pb:Option Addr)(lb cb:Nat)(pw:Option Addr)(lw cw:Nat)(pt:Option Addr)(lt ct:Nat)(ps:Option Addr)(ls cs:Nat)(sky st:Int)(w:World)(_hN:(N:Int)<=6144)(h0:((lb:Int) != (N:Int))=false)(h1:((lw:Int) != (N:Int))=false)(h2:((lt:Int) != (N:Int))=true):
  Calls prog 30 #[.int .i64 (N:Nat),.agg #[.slice pb lb cb,.slice pw lw cw,.slice pt lt ct,.slice ps ls cs,.int .i64 sky,.int .i64 st]] w fun e w'=>e=.returned (.int .i64 2)/\Below w.heap.size w w':=by
 obtain⟨A0,R0⟩:=aF w (.cells #[.slice pb lb cb,.slice pw lw cw,.slice pt lt ct,.slice ps ls cs,.int .i64 sky,.int .i64 st] 40)
 go_enter func30,ntmps30
 go_upto_region 1 with fail
 generalize hW:World.alloc w _=V0 at*
 obtain⟨gw,hgw⟩:=aB w.heap.size
 rw[hgw]at R0 ⊢
 clear hgw hW
 have x0:=aE R0.out
 go_wp2
 go_ret
 exact⟨rfl,A0.out⟩
theorem misfit_3(N:Nat)(pb:Option Addr)(lb cb:Nat)(pw:Option Addr)(lw cw:Nat)(pt:Option Addr)(lt ct:Nat)(ps:Option Addr)(ls cs:Nat)(sky st:Int)(w:World)(hN:(N:Int)<=6144)(h0:((lb:Int) != (N:Int))=false)(h1:((lw:Int) != (N:Int))=false)(h2:((lt:Int) != (N:Int))=false)(h3:((ls:Int) != 2*(N:Int))=true):
  Calls prog 30 #[.int .i64 (N:Nat),.agg #[.slice pb lb cb,.slice pw lw cw,.slice pt lt ct,.slice ps ls cs,.int .i64 sky,.int .i64 st]] w fun e w'=>e=.returned (.int .i64 3)/\Below w.heap.size w w':=by
 obtain⟨A0,R0⟩:=aF w (.cells #[.slice pb lb cb,.slice pw lw cw,.slice pt lt ct,.slice ps ls cs,.int .i64 sky,.int .i64 st] 40)
 go_enter func30,ntmps30
 go_upto_region 1 with fail
 generalize hW:World.alloc w _=V0 at*
 obtain⟨gw,hgw⟩:=aB w.heap.size
 rw[hgw]at R0 ⊢
 clear hgw hW
 have x0:=aE R0.out
 go_wp2
 go_ret
 exact⟨rfl,A0.out⟩
theorem misfit_4(N:Nat)(pb:Option Addr)(lb cb:Nat)(pw:Option Addr)(lw cw:Nat)(pt:Option Addr)(lt ct:Nat)(ps:Option Addr)(ls cs:Nat)(sky st:Int)(w:World)(hN:(N:Int)<=6144)(h0:((lb:Int) != (N:Int))=false)(h1:((lw:Int) != (N:Int))=false)(h2:((lt:Int) != (N:Int))=false)(h3:((ls:Int) != 2*(N:Int))=false):
  Calls prog 30 #[.int .i64 (N:Nat),.agg #[.slice pb lb cb,.slice pw lw cw,.slice pt lt ct,.slice ps ls cs,.int .i64 sky,.int .i64 st]] w fun e w'=>e=.returned (.int .i64 (-1))/\Below w.heap.size w w':=by
 obtain⟨A0,R0⟩:=aF w (.cells #[.slice pb lb cb,.slice pw lw cw,.slice pt lt ct,.slice ps ls cs,.int .i64 sky,.int .i64 st] 40)
 go_enter func30,ntmps30
 go_upto_region 1 with fail
 generalize hW:World.alloc w _=V0 at*
 obtain⟨gw,hgw⟩:=aB w.heap.size
 rw[hgw]at R0 ⊢
 clear hgw hW
 have x0:=aE R0.out
 go_wp2
 go_ret
 exact⟨rfl,A0.out⟩
theorem mE(side:Int)(pb:Option Addr)(lb cb:Nat)(pw:Option Addr)(lw cw:Nat)(pt:Option Addr)(lt ct:Nat)(ps:Option Addr)(ls cs:Nat)(sky st:Int)(nc:Int)(w:World)(h0:(nc==0)=true)
  (CC:Hid (∀v,Calls prog 29 #[.int .i64 side] v fun e w'=>e=.returned (.int .i64 nc)/\w'=v)):
  Calls prog 13 #[.int .i64 side,.agg #[.slice pb lb cb,.slice pw lw cw,.slice pt lt ct,.slice ps ls cs,.int .i64 sky,.int .i64 st]] w fun e w'=>e=.returned (.tuple #[.int .i64 0,.int .i64 10])/\Below w.heap.size w w':=by
 obtain⟨A0,R0⟩:=aF w (.cells #[.slice pb lb cb,.slice pw lw cw,.slice pt lt ct,.slice ps ls cs,.int .i64 sky,.int .i64 st] 40)
 go_enter func13,ntmps13
 go_upto_region 1 with fail
 generalize hW:World.alloc w _=V0 at*
 obtain⟨gw,hgw⟩:=aB w.heap.size
 rw[hgw]at R0 ⊢
 clear hgw hW
 have x0:=aE R0.out
 go_wp2_with fail
 refine(CC.out V0).mono ?_
 rintro e9 v9 ⟨rfl,hv9⟩
 have hv8:=hv9.symm
 subst hv8
 go_wp2
 go_ret2
 exact⟨rfl,A0.out⟩
theorem dP(side:Int)(pb:Option Addr)(lb cb:Nat)(pw:Option Addr)(lw cw:Nat)(pt:Option Addr)(lt ct:Nat)(ps:Option Addr)(ls cs:Nat)(sky st:Int)(nc:Int)(ml:Int)(w:World)(h0:(nc==0)=false)(h1:(ml != -1)=true)
  (CC:Hid (∀v,Calls prog 29 #[.int .i64 side] v fun e w'=>e=.returned (.int .i64 nc)/\w'=v))
  (CM:Hid (∀v,Calls prog 30 #[.int .i64 nc,.agg #[.slice pb lb cb,.slice pw lw cw,.slice pt lt ct,.slice ps ls cs,.int .i64 sky,.int .i64 st]] v fun e w'=>e=.returned (.int .i64 ml)/\Below v.heap.size v w')):
  Calls prog 13 #[.int .i64 side,.agg #[.slice pb lb cb,.slice pw lw cw,.slice pt lt ct,.slice ps ls cs,.int .i64 sky,.int .i64 st]] w fun e w'=>e=.returned (.tuple #[.int .i64 ml,.int .i64 12])/\Below w.heap.size w w':=by
 obtain⟨A0,R0⟩:=aF w (.cells #[.slice pb lb cb,.slice pw lw cw,.slice pt lt ct,.slice ps ls cs,.int .i64 sky,.int .i64 st] 40)
 go_enter func13,ntmps13
 go_upto_region 1 with fail
 generalize hW:World.alloc w _=V0 at*
 obtain⟨gw,hgw⟩:=aB w.heap.size
 rw[hgw]at R0 ⊢
 clear hgw hW
 have x0:=aE R0.out
 go_wp2_with fail
 refine(CC.out V0).mono ?_
 rintro e9 v9 ⟨rfl,hv9⟩
 have hv8:=hv9.symm
 subst hv8
 go_wp2_with fail
 refine(CM.out V0).mono ?_
 rintro e9 v1 ⟨rfl,b1⟩
 have A1:Hid (Ab w v1):=A0.out.trans b1
 have R1:=hid (Ab.heap b1 R0.out)
 clear b1 x0
 have x0:=aE R1.out
 go_wp2
 go_ret2
 exact⟨rfl,A1.out⟩
theorem qO(side:Int)(pb:Option Addr)(lb cb:Nat)(pw:Option Addr)(lw cw:Nat)(pt:Option Addr)(lt ct:Nat)(ps:Option Addr)(ls cs:Nat)(sky st:Int)(nc:Int)(ml:Int)(fb:Int)(w:World)(h0:(nc==0)=false)(h1:(ml != -1)=false)(h2:(fb != -1)=true)
  (CC:Hid (∀v,Calls prog 29 #[.int .i64 side] v fun e w'=>e=.returned (.int .i64 nc)/\w'=v))
  (CM:Hid (∀v,Calls prog 30 #[.int .i64 nc,.agg #[.slice pb lb cb,.slice pw lw cw,.slice pt lt ct,.slice ps ls cs,.int .i64 sky,.int .i64 st]] v fun e w'=>e=.returned (.int .i64 ml)/\Below v.heap.size v w'))
  (CB:Hid (∀v,Ab w v->Calls prog 31 #[.slice pb lb cb,.float .f64 4697254411347427328] v fun e w'=>e=.returned (.int .i64 fb)/\w'=v)):
  Calls prog 13 #[.int .i64 side,.agg #[.slice pb lb cb,.slice pw lw cw,.slice pt lt ct,.slice ps ls cs,.int .i64 sky,.int .i64 st]] w fun e w'=>e=.returned (.tuple #[.int .i64 fb,.int .i64 13])/\Below w.heap.size w w':=by
 obtain⟨A0,R0⟩:=aF w (.cells #[.slice pb lb cb,.slice pw lw cw,.slice pt lt ct,.slice ps ls cs,.int .i64 sky,.int .i64 st] 40)
 go_enter func13,ntmps13
 go_upto_region 1 with fail
 generalize hW:World.alloc w _=V0 at*
 obtain⟨gw,hgw⟩:=aB w.heap.size
 rw[hgw]at R0 ⊢
 clear hgw hW
 have x0:=aE R0.out
 go_wp2_with fail
 refine(CC.out V0).mono ?_
 rintro e9 v9 ⟨rfl,hv9⟩
 have hv8:=hv9.symm
 subst hv8
 go_wp2_with fail
 refine(CM.out V0).mono ?_
 rintro e9 v1 ⟨rfl,b1⟩
 have A1:Hid (Ab w v1):=A0.out.trans b1
 have R1:=hid (Ab.heap b1 R0.out)
 clear b1 x0
 have x0:=aE R1.out
 go_wp2_with fail
 refine(CB.out v1 A1.out).mono ?_
 rintro e9 v9 ⟨rfl,hv9⟩
 have hv8:=hv9.symm
 subst hv8
 go_wp2
 go_ret2
 exact⟨rfl,A1.out⟩
theorem nW(side:Int)(pb:Option Addr)(lb cb:Nat)(pw:Option Addr)(lw cw:Nat)(pt:Option Addr)(lt ct:Nat)(ps:Option Addr)(ls cs:Nat)(sky st:Int)(nc:Int)(ml:Int)(fb:Int)(w:World)(h0:(nc==0)=false)(h1:(ml != -1)=false)(h2:(fb != -1)=false)(h3:decide (sky<0)=true)
  (CC:Hid (∀v,Calls prog 29 #[.int .i64 side] v fun e w'=>e=.returned (.int .i64 nc)/\w'=v))
  (CM:Hid (∀v,Calls prog 30 #[.int .i64 nc,.agg #[.slice pb lb cb,.slice pw lw cw,.slice pt lt ct,.slice ps ls cs,.int .i64 sky,.int .i64 st]] v fun e w'=>e=.returned (.int .i64 ml)/\Below v.heap.size v w'))
  (CB:Hid (∀v,Ab w v->Calls prog 31 #[.slice pb lb cb,.float .f64 4697254411347427328] v fun e w'=>e=.returned (.int .i64 fb)/\w'=v)):
  Calls prog 13 #[.int .i64 side,.agg #[.slice pb lb cb,.slice pw lw cw,.slice pt lt ct,.slice ps ls cs,.int .i64 sky,.int .i64 st]] w fun e w'=>e=.returned (.tuple #[.int .i64 0,.int .i64 17])/\Below w.heap.size w w':=by
 obtain⟨A0,R0⟩:=aF w (.cells #[.slice pb lb cb,.slice pw lw cw,.slice pt lt ct,.slice ps ls cs,.int .i64 sky,.int .i64 st] 40)
 go_enter func13,ntmps13
 go_upto_region 1 with fail
 generalize hW:World.alloc w _=V0 at*
 obtain⟨gw,hgw⟩:=aB w.heap.size
 rw[hgw]at R0 ⊢
 clear hgw hW
 have x0:=aE R0.out
 go_wp2_with fail
 refine(CC.out V0).mono ?_
 rintro e9 v9 ⟨rfl,hv9⟩
 have hv8:=hv9.symm
 subst hv8
 go_wp2_with fail
 refine(CM.out V0).mono ?_
 rintro e9 v1 ⟨rfl,b1⟩
 have A1:Hid (Ab w v1):=A0.out.trans b1
 have R1:=hid (Ab.heap b1 R0.out)
 clear b1 x0
 have x0:=aE R1.out
 go_wp2_with fail
 refine(CB.out v1 A1.out).mono ?_
 rintro e9 v9 ⟨rfl,hv9⟩
 have hv8:=hv9.symm
 subst hv8
 go_wp2
 go_ret2
 exact⟨rfl,A1.out⟩
theorem nX(side:Int)(pb:Option Addr)(lb cb:Nat)(pw:Option Addr)(lw cw:Nat)(pt:Option Addr)(lt ct:Nat)(ps:Option Addr)(ls cs:Nat)(sky st:Int)(nc:Int)(ml:Int)(fb:Int)(w:World)(h0:(nc==0)=false)(h1:(ml != -1)=false)(h2:(fb != -1)=false)(h3:decide (sky<0)=false)(h4:decide (4503599627370496<sky)=true)
  (CC:Hid (∀v,Calls prog 29 #[.int .i64 side] v fun e w'=>e=.returned (.int .i64 nc)/\w'=v))
  (CM:Hid (∀v,Calls prog 30 #[.int .i64 nc,.agg #[.slice pb lb cb,.slice pw lw cw,.slice pt lt ct,.slice ps ls cs,.int .i64 sky,.int .i64 st]] v fun e w'=>e=.returned (.int .i64 ml)/\Below v.heap.size v w'))
  (CB:Hid (∀v,Ab w v->Calls prog 31 #[.slice pb lb cb,.float .f64 4697254411347427328] v fun e w'=>e=.returned (.int .i64 fb)/\w'=v)):
  Calls prog 13 #[.int .i64 side,.agg #[.slice pb lb cb,.slice pw lw cw,.slice pt lt ct,.slice ps ls cs,.int .i64 sky,.int .i64 st]] w fun e w'=>e=.returned (.tuple #[.int .i64 0,.int .i64 17])/\Below w.heap.size w w':=by
 obtain⟨A0,R0⟩:=aF w (.cells #[.slice pb lb cb,.slice pw lw cw,.slice pt lt ct,.slice ps ls cs,.int .i64 sky,.int .i64 st] 40)
 go_enter func13,ntmps13
 go_upto_region 1 with fail
 generalize hW:World.alloc w _=V0 at*
 obtain⟨gw,hgw⟩:=aB w.heap.size
 rw[hgw]at R0 ⊢
 clear hgw hW
 have x0:=aE R0.out
 go_wp2_with fail
 refine(CC.out V0).mono ?_
 rintro e9 v9 ⟨rfl,hv9⟩
 have hv8:=hv9.symm
 subst hv8
 go_wp2_with fail
 refine(CM.out V0).mono ?_
 rintro e9 v1 ⟨rfl,b1⟩
 have A1:Hid (Ab w v1):=A0.out.trans b1
 have R1:=hid (Ab.heap b1 R0.out)
 clear b1 x0
 have x0:=aE R1.out
 go_wp2_with fail
 refine(CB.out v1 A1.out).mono ?_
 rintro e9 v9 ⟨rfl,hv9⟩
 have hv8:=hv9.symm
 subst hv8
 go_wp2
 go_ret2
 exact⟨rfl,A1.out⟩
theorem mF(side:Int)(pb:Option Addr)(lb cb:Nat)(pw:Option Addr)(lw cw:Nat)(pt:Option Addr)(lt ct:Nat)(ps:Option Addr)(ls cs:Nat)(sky st:Int)(nc:Int)(ml:Int)(fb:Int)(fw:Int)(w:World)(h0:(nc==0)=false)(h1:(ml != -1)=false)(h2:(fb != -1)=false)(h3:decide (sky<0)=false)(h4:decide (4503599627370496<sky)=false)(h5:(fw != -1)=true)
  (CC:Hid (∀v,Calls prog 29 #[.int .i64 side] v fun e w'=>e=.returned (.int .i64 nc)/\w'=v))
  (CM:Hid (∀v,Calls prog 30 #[.int .i64 nc,.agg #[.slice pb lb cb,.slice pw lw cw,.slice pt lt ct,.slice ps ls cs,.int .i64 sky,.int .i64 st]] v fun e w'=>e=.returned (.int .i64 ml)/\Below v.heap.size v w'))
  (CB:Hid (∀v,Ab w v->Calls prog 31 #[.slice pb lb cb,.float .f64 4697254411347427328] v fun e w'=>e=.returned (.int .i64 fb)/\w'=v))
  (CW:Hid (∀v,Ab w v->Calls prog 32 #[.slice pw lw cw,.int .i64 (4503599627370496 - sky)] v fun e w'=>e=.returned (.int .i64 fw)/\w'=v)):
  Calls prog 13 #[.int .i64 side,.agg #[.slice pb lb cb,.slice pw lw cw,.slice pt lt ct,.slice ps ls cs,.int .i64 sky,.int .i64 st]] w fun e w'=>e=.returned (.tuple #[.int .i64 fw,.int .i64 14])/\Below w.heap.size w w':=by
 have sk1:0<=sky:=by simpa using h3
 have sk2:sky<=4503599627370496:=by simpa using h4
 obtain⟨A0,R0⟩:=aF w (.cells #[.slice pb lb cb,.slice pw lw cw,.slice pt lt ct,.slice ps ls cs,.int .i64 sky,.int .i64 st] 40)
 go_enter func13,ntmps13
 go_upto_region 1 with fail
 generalize hW:World.alloc w _=V0 at*
 obtain⟨gw,hgw⟩:=aB w.heap.size
 rw[hgw]at R0 ⊢
 clear hgw hW
 have x0:=aE R0.out
 go_wp2_with fail
 refine(CC.out V0).mono ?_
 rintro e9 v9 ⟨rfl,hv9⟩
 have hv8:=hv9.symm
 subst hv8
 go_wp2_with fail
 refine(CM.out V0).mono ?_
 rintro e9 v1 ⟨rfl,b1⟩
 have A1:Hid (Ab w v1):=A0.out.trans b1
 have R1:=hid (Ab.heap b1 R0.out)
 clear b1 x0
 have x0:=aE R1.out
 go_wp2_with fail
 refine(CB.out v1 A1.out).mono ?_
 rintro e9 v9 ⟨rfl,hv9⟩
 have hv8:=hv9.symm
 subst hv8
 go_wp2_with fail
 refine(CW.out v1 A1.out).mono ?_
 rintro e9 v9 ⟨rfl,hv9⟩
 have hv8:=hv9.symm
 subst hv8
 go_wp2
 go_ret2
 exact⟨rfl,A1.out⟩
theorem kL(side:Int)(pb:Option Addr)(lb cb:Nat)(pw:Option Addr)(lw cw:Nat)(pt:Option Addr)(lt ct:Nat)(ps:Option Addr)(ls cs:Nat)(sky st:Int)(nc:Int)(ml:Int)(fb:Int)(fw:Int)(ft:Int)(w:World)(h0:(nc==0)=false)(h1:(ml != -1)=false)(h2:(fb != -1)=false)(h3:decide (sky<0)=false)(h4:decide (4503599627370496<sky)=false)(h5:(fw != -1)=false)(h6:(ft != -1)=true)
  (CC:Hid (∀v,Calls prog 29 #[.int .i64 side] v fun e w'=>e=.returned (.int .i64 nc)/\w'=v))
  (CM:Hid (∀v,Calls prog 30 #[.int .i64 nc,.agg #[.slice pb lb cb,.slice pw lw cw,.slice pt lt ct,.slice ps ls cs,.int .i64 sky,.int .i64 st]] v fun e w'=>e=.returned (.int .i64 ml)/\Below v.heap.size v w'))
  (CB:Hid (∀v,Ab w v->Calls prog 31 #[.slice pb lb cb,.float .f64 4697254411347427328] v fun e w'=>e=.returned (.int .i64 fb)/\w'=v))
  (CW:Hid (∀v,Ab w v->Calls prog 32 #[.slice pw lw cw,.int .i64 (4503599627370496 - sky)] v fun e w'=>e=.returned (.int .i64 fw)/\w'=v))
  (CT:Hid (∀v,Ab w v->Calls prog 32 #[.slice pt lt ct,.int .i64 4503599627370496] v fun e w'=>e=.returned (.int .i64 ft)/\w'=v)):
  Calls prog 13 #[.int .i64 side,.agg #[.slice pb lb cb,.slice pw lw cw,.slice pt lt ct,.slice ps ls cs,.int .i64 sky,.int .i64 st]] w fun e w'=>e=.returned (.tuple #[.int .i64 ft,.int .i64 15])/\Below w.heap.size w w':=by
 have sk1:0<=sky:=by simpa using h3
 have sk2:sky<=4503599627370496:=by simpa using h4
 obtain⟨A0,R0⟩:=aF w (.cells #[.slice pb lb cb,.slice pw lw cw,.slice pt lt ct,.slice ps ls cs,.int .i64 sky,.int .i64 st] 40)
 go_enter func13,ntmps13
 go_upto_region 1 with fail
 generalize hW:World.alloc w _=V0 at*
 obtain⟨gw,hgw⟩:=aB w.heap.size
 rw[hgw]at R0 ⊢
 clear hgw hW
 have x0:=aE R0.out
 go_wp2_with fail
 refine(CC.out V0).mono ?_
 rintro e9 v9 ⟨rfl,hv9⟩
 have hv8:=hv9.symm
 subst hv8
 go_wp2_with fail
 refine(CM.out V0).mono ?_
 rintro e9 v1 ⟨rfl,b1⟩
 have A1:Hid (Ab w v1):=A0.out.trans b1
 have R1:=hid (Ab.heap b1 R0.out)
 clear b1 x0
 have x0:=aE R1.out
 go_wp2_with fail
 refine(CB.out v1 A1.out).mono ?_
 rintro e9 v9 ⟨rfl,hv9⟩
 have hv8:=hv9.symm
 subst hv8
 go_wp2_with fail
 refine(CW.out v1 A1.out).mono ?_
 rintro e9 v9 ⟨rfl,hv9⟩
 have hv8:=hv9.symm
 subst hv8
 go_wp2_with fail
 refine(CT.out v1 A1.out).mono ?_
 rintro e9 v9 ⟨rfl,hv9⟩
 have hv8:=hv9.symm
 subst hv8
 go_wp2
 go_ret2
 exact⟨rfl,A1.out⟩
theorem mG(side:Int)(pb:Option Addr)(lb cb:Nat)(pw:Option Addr)(lw cw:Nat)(pt:Option Addr)(lt ct:Nat)(ps:Option Addr)(ls cs:Nat)(sky st:Int)(nc:Int)(ml:Int)(fb:Int)(fw:Int)(ft:Int)(fs:Int)(w:World)(h0:(nc==0)=false)(h1:(ml != -1)=false)(h2:(fb != -1)=false)(h3:decide (sky<0)=false)(h4:decide (4503599627370496<sky)=false)(h5:(fw != -1)=false)(h6:(ft != -1)=false)(h7:(fs != -1)=true)
  (CC:Hid (∀v,Calls prog 29 #[.int .i64 side] v fun e w'=>e=.returned (.int .i64 nc)/\w'=v))
  (CM:Hid (∀v,Calls prog 30 #[.int .i64 nc,.agg #[.slice pb lb cb,.slice pw lw cw,.slice pt lt ct,.slice ps ls cs,.int .i64 sky,.int .i64 st]] v fun e w'=>e=.returned (.int .i64 ml)/\Below v.heap.size v w'))
  (CB:Hid (∀v,Ab w v->Calls prog 31 #[.slice pb lb cb,.float .f64 4697254411347427328] v fun e w'=>e=.returned (.int .i64 fb)/\w'=v))
  (CW:Hid (∀v,Ab w v->Calls prog 32 #[.slice pw lw cw,.int .i64 (4503599627370496 - sky)] v fun e w'=>e=.returned (.int .i64 fw)/\w'=v))
  (CT:Hid (∀v,Ab w v->Calls prog 32 #[.slice pt lt ct,.int .i64 4503599627370496] v fun e w'=>e=.returned (.int .i64 ft)/\w'=v))
  (CS:Hid (∀v,Ab w v->Calls prog 31 #[.slice ps ls cs,.float .f64 4652218415073722368] v fun e w'=>e=.returned (.int .i64 fs)/\w'=v)):
  Calls prog 13 #[.int .i64 side,.agg #[.slice pb lb cb,.slice pw lw cw,.slice pt lt ct,.slice ps ls cs,.int .i64 sky,.int .i64 st]] w fun e w'=>e=.returned (.tuple #[.int .i64 fs,.int .i64 16])/\Below w.heap.size w w':=by
 have sk1:0<=sky:=by simpa using h3
 have sk2:sky<=4503599627370496:=by simpa using h4
 obtain⟨A0,R0⟩:=aF w (.cells #[.slice pb lb cb,.slice pw lw cw,.slice pt lt ct,.slice ps ls cs,.int .i64 sky,.int .i64 st] 40)
 go_enter func13,ntmps13
 go_upto_region 1 with fail
 generalize hW:World.alloc w _=V0 at*
 obtain⟨gw,hgw⟩:=aB w.heap.size
 rw[hgw]at R0 ⊢
 clear hgw hW
 have x0:=aE R0.out
 go_wp2_with fail
 refine(CC.out V0).mono ?_
 rintro e9 v9 ⟨rfl,hv9⟩
 have hv8:=hv9.symm
 subst hv8
 go_wp2_with fail
 refine(CM.out V0).mono ?_
 rintro e9 v1 ⟨rfl,b1⟩
 have A1:Hid (Ab w v1):=A0.out.trans b1
 have R1:=hid (Ab.heap b1 R0.out)
 clear b1 x0
 have x0:=aE R1.out
 go_wp2_with fail
 refine(CB.out v1 A1.out).mono ?_
 rintro e9 v9 ⟨rfl,hv9⟩
 have hv8:=hv9.symm
 subst hv8
 go_wp2_with fail
 refine(CW.out v1 A1.out).mono ?_
 rintro e9 v9 ⟨rfl,hv9⟩
 have hv8:=hv9.symm
 subst hv8
 go_wp2_with fail
 refine(CT.out v1 A1.out).mono ?_
 rintro e9 v9 ⟨rfl,hv9⟩
 have hv8:=hv9.symm
 subst hv8
 go_wp2_with fail
 refine(CS.out v1 A1.out).mono ?_
 rintro e9 v9 ⟨rfl,hv9⟩
 have hv8:=hv9.symm
 subst hv8
 go_wp2
 go_ret2
 exact⟨rfl,A1.out⟩
theorem qP(side:Int)(pb:Option Addr)(lb cb:Nat)(pw:Option Addr)(lw cw:Nat)(pt:Option Addr)(lt ct:Nat)(ps:Option Addr)(ls cs:Nat)(sky st:Int)(nc:Int)(ml:Int)(fb:Int)(fw:Int)(ft:Int)(fs:Int)(w:World)(h0:(nc==0)=false)(h1:(ml != -1)=false)(h2:(fb != -1)=false)(h3:decide (sky<0)=false)(h4:decide (4503599627370496<sky)=false)(h5:(fw != -1)=false)(h6:(ft != -1)=false)(h7:(fs != -1)=false)(h8:decide (st<0)=true)
  (CC:Hid (∀v,Calls prog 29 #[.int .i64 side] v fun e w'=>e=.returned (.int .i64 nc)/\w'=v))
  (CM:Hid (∀v,Calls prog 30 #[.int .i64 nc,.agg #[.slice pb lb cb,.slice pw lw cw,.slice pt lt ct,.slice ps ls cs,.int .i64 sky,.int .i64 st]] v fun e w'=>e=.returned (.int .i64 ml)/\Below v.heap.size v w'))
  (CB:Hid (∀v,Ab w v->Calls prog 31 #[.slice pb lb cb,.float .f64 4697254411347427328] v fun e w'=>e=.returned (.int .i64 fb)/\w'=v))
  (CW:Hid (∀v,Ab w v->Calls prog 32 #[.slice pw lw cw,.int .i64 (4503599627370496 - sky)] v fun e w'=>e=.returned (.int .i64 fw)/\w'=v))
  (CT:Hid (∀v,Ab w v->Calls prog 32 #[.slice pt lt ct,.int .i64 4503599627370496] v fun e w'=>e=.returned (.int .i64 ft)/\w'=v))
  (CS:Hid (∀v,Ab w v->Calls prog 31 #[.slice ps ls cs,.float .f64 4652218415073722368] v fun e w'=>e=.returned (.int .i64 fs)/\w'=v)):
  Calls prog 13 #[.int .i64 side,.agg #[.slice pb lb cb,.slice pw lw cw,.slice pt lt ct,.slice ps ls cs,.int .i64 sky,.int .i64 st]] w fun e w'=>e=.returned (.tuple #[.int .i64 0,.int .i64 1])/\Below w.heap.size w w':=by
 have sk1:0<=sky:=by simpa using h3
 have sk2:sky<=4503599627370496:=by simpa using h4
 obtain⟨A0,R0⟩:=aF w (.cells #[.slice pb lb cb,.slice pw lw cw,.slice pt lt ct,.slice ps ls cs,.int .i64 sky,.int .i64 st] 40)
 go_enter func13,ntmps13
 go_upto_region 1 with fail
 generalize hW:World.alloc w _=V0 at*
 obtain⟨gw,hgw⟩:=aB w.heap.size
 rw[hgw]at R0 ⊢
 clear hgw hW
 have x0:=aE R0.out
 go_wp2_with fail
 refine(CC.out V0).mono ?_
 rintro e9 v9 ⟨rfl,hv9⟩
 have hv8:=hv9.symm
 subst hv8
 go_wp2_with fail
 refine(CM.out V0).mono ?_
 rintro e9 v1 ⟨rfl,b1⟩
 have A1:Hid (Ab w v1):=A0.out.trans b1
 have R1:=hid (Ab.heap b1 R0.out)
 clear b1 x0
 have x0:=aE R1.out
 go_wp2_with fail
 refine(CB.out v1 A1.out).mono ?_
 rintro e9 v9 ⟨rfl,hv9⟩
 have hv8:=hv9.symm
 subst hv8
 go_wp2_with fail
 refine(CW.out v1 A1.out).mono ?_
 rintro e9 v9 ⟨rfl,hv9⟩
 have hv8:=hv9.symm
 subst hv8
 go_wp2_with fail
 refine(CT.out v1 A1.out).mono ?_
 rintro e9 v9 ⟨rfl,hv9⟩
 have hv8:=hv9.symm
 subst hv8
 go_wp2_with fail
 refine(CS.out v1 A1.out).mono ?_
 rintro e9 v9 ⟨rfl,hv9⟩
 have hv8:=hv9.symm
 subst hv8
 go_wp2
 go_ret2
 exact⟨rfl,A1.out⟩
theorem qQ(side:Int)(pb:Option Addr)(lb cb:Nat)(pw:Option Addr)(lw cw:Nat)(pt:Option Addr)(lt ct:Nat)(ps:Option Addr)(ls cs:Nat)(sky st:Int)(nc:Int)(ml:Int)(fb:Int)(fw:Int)(ft:Int)(fs:Int)(w:World)(h0:(nc==0)=false)(h1:(ml != -1)=false)(h2:(fb != -1)=false)(h3:decide (sky<0)=false)(h4:decide (4503599627370496<sky)=false)(h5:(fw != -1)=false)(h6:(ft != -1)=false)(h7:(fs != -1)=false)(h8:decide (st<0)=false)(h9:decide (4611686018427387904<st)=true)
  (CC:Hid (∀v,Calls prog 29 #[.int .i64 side] v fun e w'=>e=.returned (.int .i64 nc)/\w'=v))
  (CM:Hid (∀v,Calls prog 30 #[.int .i64 nc,.agg #[.slice pb lb cb,.slice pw lw cw,.slice pt lt ct,.slice ps ls cs,.int .i64 sky,.int .i64 st]] v fun e w'=>e=.returned (.int .i64 ml)/\Below v.heap.size v w'))
  (CB:Hid (∀v,Ab w v->Calls prog 31 #[.slice pb lb cb,.float .f64 4697254411347427328] v fun e w'=>e=.returned (.int .i64 fb)/\w'=v))
  (CW:Hid (∀v,Ab w v->Calls prog 32 #[.slice pw lw cw,.int .i64 (4503599627370496 - sky)] v fun e w'=>e=.returned (.int .i64 fw)/\w'=v))
  (CT:Hid (∀v,Ab w v->Calls prog 32 #[.slice pt lt ct,.int .i64 4503599627370496] v fun e w'=>e=.returned (.int .i64 ft)/\w'=v))
  (CS:Hid (∀v,Ab w v->Calls prog 31 #[.slice ps ls cs,.float .f64 4652218415073722368] v fun e w'=>e=.returned (.int .i64 fs)/\w'=v)):
  Calls prog 13 #[.int .i64 side,.agg #[.slice pb lb cb,.slice pw lw cw,.slice pt lt ct,.slice ps ls cs,.int .i64 sky,.int .i64 st]] w fun e w'=>e=.returned (.tuple #[.int .i64 0,.int .i64 1])/\Below w.heap.size w w':=by
 have sk1:0<=sky:=by simpa using h3
 have sk2:sky<=4503599627370496:=by simpa using h4
 obtain⟨A0,R0⟩:=aF w (.cells #[.slice pb lb cb,.slice pw lw cw,.slice pt lt ct,.slice ps ls cs,.int .i64 sky,.int .i64 st] 40)
 go_enter func13,ntmps13
 go_upto_region 1 with fail
 generalize hW:World.alloc w _=V0 at*
 obtain⟨gw,hgw⟩:=aB w.heap.size
 rw[hgw]at R0 ⊢
 clear hgw hW
 have x0:=aE R0.out
 go_wp2_with fail
 refine(CC.out V0).mono ?_
 rintro e9 v9 ⟨rfl,hv9⟩
 have hv8:=hv9.symm
 subst hv8
 go_wp2_with fail
 refine(CM.out V0).mono ?_
 rintro e9 v1 ⟨rfl,b1⟩
 have A1:Hid (Ab w v1):=A0.out.trans b1
 have R1:=hid (Ab.heap b1 R0.out)
 clear b1 x0
 have x0:=aE R1.out
 go_wp2_with fail
 refine(CB.out v1 A1.out).mono ?_
 rintro e9 v9 ⟨rfl,hv9⟩
 have hv8:=hv9.symm
 subst hv8
 go_wp2_with fail
 refine(CW.out v1 A1.out).mono ?_
 rintro e9 v9 ⟨rfl,hv9⟩
 have hv8:=hv9.symm
 subst hv8
 go_wp2_with fail
 refine(CT.out v1 A1.out).mono ?_
 rintro e9 v9 ⟨rfl,hv9⟩
 have hv8:=hv9.symm
 subst hv8
 go_wp2_with fail
 refine(CS.out v1 A1.out).mono ?_
 rintro e9 v9 ⟨rfl,hv9⟩
 have hv8:=hv9.symm
 subst hv8
 go_wp2
 go_ret2
 exact⟨rfl,A1.out⟩
theorem check_ok(side:Int)(pb:Option Addr)(lb cb:Nat)(pw:Option Addr)(lw cw:Nat)(pt:Option Addr)(lt ct:Nat)(ps:Option Addr)(ls cs:Nat)(sky st:Int)(nc:Int)(ml:Int)(fb:Int)(fw:Int)(ft:Int)(fs:Int)(w:World)(h0:(nc==0)=false)(h1:(ml != -1)=false)(h2:(fb != -1)=false)(h3:decide (sky<0)=false)(h4:decide (4503599627370496<sky)=false)(h5:(fw != -1)=false)(h6:(ft != -1)=false)(h7:(fs != -1)=false)(h8:decide (st<0)=false)(h9:decide (4611686018427387904<st)=false)
  (CC:Hid (∀v,Calls prog 29 #[.int .i64 side] v fun e w'=>e=.returned (.int .i64 nc)/\w'=v))
  (CM:Hid (∀v,Calls prog 30 #[.int .i64 nc,.agg #[.slice pb lb cb,.slice pw lw cw,.slice pt lt ct,.slice ps ls cs,.int .i64 sky,.int .i64 st]] v fun e w'=>e=.returned (.int .i64 ml)/\Below v.heap.size v w'))
  (CB:Hid (∀v,Ab w v->Calls prog 31 #[.slice pb lb cb,.float .f64 4697254411347427328] v fun e w'=>e=.returned (.int .i64 fb)/\w'=v))
  (CW:Hid (∀v,Ab w v->Calls prog 32 #[.slice pw lw cw,.int .i64 (4503599627370496 - sky)] v fun e w'=>e=.returned (.int .i64 fw)/\w'=v))
  (CT:Hid (∀v,Ab w v->Calls prog 32 #[.slice pt lt ct,.int .i64 4503599627370496] v fun e w'=>e=.returned (.int .i64 ft)/\w'=v))
  (CS:Hid (∀v,Ab w v->Calls prog 31 #[.slice ps ls cs,.float .f64 4652218415073722368] v fun e w'=>e=.returned (.int .i64 fs)/\w'=v)):
  Calls prog 13 #[.int .i64 side,.agg #[.slice pb lb cb,.slice pw lw cw,.slice pt lt ct,.slice ps ls cs,.int .i64 sky,.int .i64 st]] w fun e w'=>e=.returned (.tuple #[.int .i64 0,.int .i64 0])/\Below w.heap.size w w':=by
 have sk1:0<=sky:=by simpa using h3
 have sk2:sky<=4503599627370496:=by simpa using h4
 obtain⟨A0,R0⟩:=aF w (.cells #[.slice pb lb cb,.slice pw lw cw,.slice pt lt ct,.slice ps ls cs,.int .i64 sky,.int .i64 st] 40)
 go_enter func13,ntmps13
 go_upto_region 1 with fail
 generalize hW:World.alloc w _=V0 at*
 obtain⟨gw,hgw⟩:=aB w.heap.size
 rw[hgw]at R0 ⊢
 clear hgw hW
 have x0:=aE R0.out
 go_wp2_with fail
 refine(CC.out V0).mono ?_
 rintro e9 v9 ⟨rfl,hv9⟩
 have hv8:=hv9.symm
 subst hv8
 go_wp2_with fail
 refine(CM.out V0).mono ?_
 rintro e9 v1 ⟨rfl,b1⟩
 have A1:Hid (Ab w v1):=A0.out.trans b1
 have R1:=hid (Ab.heap b1 R0.out)
 clear b1 x0
 have x0:=aE R1.out
 go_wp2_with fail
 refine(CB.out v1 A1.out).mono ?_
 rintro e9 v9 ⟨rfl,hv9⟩
 have hv8:=hv9.symm
 subst hv8
 go_wp2_with fail
 refine(CW.out v1 A1.out).mono ?_
 rintro e9 v9 ⟨rfl,hv9⟩
 have hv8:=hv9.symm
 subst hv8
 go_wp2_with fail
 refine(CT.out v1 A1.out).mono ?_
 rintro e9 v9 ⟨rfl,hv9⟩
 have hv8:=hv9.symm
 subst hv8
 go_wp2_with fail
 refine(CS.out v1 A1.out).mono ?_
 rintro e9 v9 ⟨rfl,hv9⟩
 have hv8:=hv9.symm
 subst hv8
 go_wp2
 go_ret2
 exact⟨rfl,A1.out⟩
theorem bed_fp{B:Nat->Nat}(i:Nat):bB B i= !btw (B i) 13920626448202203136 4697254411347427328:=rfl
theorem sp_fp{S:Nat->Nat}(i:Nat):bS S i= !btw (S i) 13875590451928498176 4652218415073722368:=rfl
theorem ne_m1{x:Int}(h:0<=x):(x != -1)=true:=by simp;omega
theorem ne_m2{x:Int}(h: ¬0<=x)(g: -1<=x):(x != -1)=false:=by simp;omega
theorem mI(side:Int)(pb:Option Addr)(lb cb:Nat)(B:Nat->Nat)(pw:Option Addr)(lw cw:Nat)(W:Nat->Int)(pt:Option Addr)(lt ct:Nat)(T:Nat->Int)(ps:Option Addr)(ls cs:Nat)(S:Nat->Nat)(sky st:Int)(w:World)(i1:IsFl w pb lb B)(i2:Sh.IsI w pw lw W)(i3:Sh.IsI w pt lt T)(i4:IsFl w ps ls S):
  Calls prog 13 #[.int .i64 side,.agg #[.slice pb lb cb,.slice pw lw cw,.slice pt lt ct,.slice ps ls cs,.int .i64 sky,.int .i64 st]] w fun e w'=>e=.returned (.tuple #[.int .i64 (chk side lb lw lt ls B W T S sky st).1,.int .i64 (chk side lb lw lt ls B W T S sky st).2])/\Below w.heap.size w w':=by
 have CC:=fun v=>iE side v
 unfold chk
 by_cases hs:1<=side/\side<=32
 ·rw[if_pos hs]
  obtain⟨n,rfl⟩: ∃n:Nat,side=(n:Nat):=⟨side.toNat,by omega⟩
  rw[oP (n:=n) (by omega)]at CC
  rw[Int.toNat_natCast]
  have p1:0<n*n:=Nat.mul_pos (by omega) (by omega)
  have p2:n*n<=32*32:=Nat.mul_le_mul (by omega) (by omega)
  have q6:6*n*n=6*(n*n):=Nat.mul_assoc _ _ _
  obtain⟨N,hN⟩:=aB (6*n*n)
  rw[hN]at CC q6 ⊢
  have N0:0<N:=by omega
  have N1:(N:Int)<=6144:=by omega
  have h0:((N:Int)==0)=false:=by simp;omega
  clear p1 p2 q6 hN
  have MF:=fun v=>misfit_4 N pb lb cb pw lw cw pt lt ct ps ls cs sky st v N1
  unfold chN
  by_cases e1:lb=N
  ·rw[if_neg (by omega)]
   by_cases e2:lw=N
   ·rw[if_neg (by omega)]
    by_cases e3:lt=N
    ·rw[if_neg (by omega)]
     by_cases e4:ls=2*N
     ·rw[if_neg (by omega)]
      have CM:=fun v=>MF v (by simp[e1]) (by simp[e2]) (by simp[e3]) (by simp[e4])
      have CB:=fun v (a:Ab w v)=>jG pb lb cb B 4697254411347427328 13920626448202203136 (bB B) v (by decide+kernel) (by omega) (by omega) (i1.below a) (fun i _=>bed_fp i)
      have CS:=fun v (a:Ab w v)=>jG ps ls cs S 4652218415073722368 13875590451928498176 (bS S) v (by decide+kernel) (by omega) (by omega) (i4.below a) (fun i _=>sp_fp i)
      have CT:=fun v (a:Ab w v)=>pG pt lt ct T 0 4503599627370496 v (by omega) (i3.below a) (by omega) (by omega)
      rw[e1]at CB
      rw[e4]at CS
      rw[e3]at CT
      obtain⟨fb,hfb⟩:=aB (fp (bB B) N)
      obtain⟨fs,hfs⟩:=aB (fp (bS S) (2*N))
      obtain⟨ft,hft⟩:=aB (fp (bQ T 0) N)
      have g1:=(fp_ge (bB B) N).1
      have g2:=(fp_ge (bS S) (2*N)).1
      have g3:=(fp_ge (bQ T 0) N).1
      rw[hfb]at CB g1 ⊢
      rw[hfs]at CS g2 ⊢
      rw[hft]at CT g3 ⊢
      rw[<- e1]at CB
      rw[<- e4]at CS
      rw[<- e3]at CT
      clear hfb hfs hft
      by_cases f2:0<=fb
      ·rw[if_pos f2]
       exact qO n pb lb cb pw lw cw pt lt ct ps ls cs sky st _ _ _ w h0 (by decide) (ne_m1 f2) CC CM CB
      ·rw[if_neg f2]
       have k2:=ne_m2 f2 g1
       by_cases f3:sky<0
       ·rw[if_pos (.inl f3)]
        exact nW n pb lb cb pw lw cw pt lt ct ps ls cs sky st _ _ _ w h0 (by decide) k2 (decide_eq_true f3) CC CM CB
       ·have k3:=decide_eq_false f3
        by_cases f4:4503599627370496<sky
        ·rw[if_pos (.inr f4)]
         exact nX n pb lb cb pw lw cw pt lt ct ps ls cs sky st _ _ _ w h0 (by decide) k2 k3 (decide_eq_true f4) CC CM CB
        ·rw[if_neg (by omega)]
         have k4:=decide_eq_false f4
         have CW:=fun v (a:Ab w v)=>pG pw lw cw W sky (4503599627370496 - sky) v (by omega) (i2.below a) (by omega) (by omega)
         rw[e2]at CW
         obtain⟨fw,hfw⟩:=aB (fp (bQ W sky) N)
         have g4:=(fp_ge (bQ W sky) N).1
         rw[hfw]at CW g4 ⊢
         rw[<- e2]at CW
         clear hfw
         by_cases f5:0<=fw
         ·rw[if_pos f5]
          exact mF n pb lb cb pw lw cw pt lt ct ps ls cs sky st _ _ _ _ w h0 (by decide) k2 k3 k4 (ne_m1 f5) CC CM CB CW
         ·rw[if_neg f5]
          have k5:=ne_m2 f5 g4
          by_cases f6:0<=ft
          ·rw[if_pos f6]
           exact kL n pb lb cb pw lw cw pt lt ct ps ls cs sky st _ _ _ _ _ w h0 (by decide) k2 k3 k4 k5 (ne_m1 f6) CC CM CB CW CT
          ·rw[if_neg f6]
           have k6:=ne_m2 f6 g3
           by_cases f7:0<=fs
           ·rw[if_pos f7]
            exact mG n pb lb cb pw lw cw pt lt ct ps ls cs sky st _ _ _ _ _ _ w h0 (by decide) k2 k3 k4 k5 k6 (ne_m1 f7) CC CM CB CW CT CS
           ·rw[if_neg f7]
            have k7:=ne_m2 f7 g2
            by_cases f8:st<0
            ·rw[if_pos (.inl f8)]
             exact qP n pb lb cb pw lw cw pt lt ct ps ls cs sky st _ _ _ _ _ _ w h0 (by decide) k2 k3 k4 k5 k6 k7 (decide_eq_true f8) CC CM CB CW CT CS
            ·have k8:=decide_eq_false f8
             by_cases f9:4611686018427387904<st
             ·rw[if_pos (.inr f9)]
              exact qQ n pb lb cb pw lw cw pt lt ct ps ls cs sky st _ _ _ _ _ _ w h0 (by decide) k2 k3 k4 k5 k6 k7 k8 (decide_eq_true f9) CC CM CB CW CT CS
             ·rw[if_neg (by omega)]
              exact check_ok n pb lb cb pw lw cw pt lt ct ps ls cs sky st _ _ _ _ _ _ w h0 (by decide) k2 k3 k4 k5 k6 k7 k8 (decide_eq_false f9) CC CM CB CW CT CS
     ·rw[if_pos e4]
      exact dP n pb lb cb pw lw cw pt lt ct ps ls cs sky st _ _ w h0 (by decide) CC (fun v=>misfit_3 N pb lb cb pw lw cw pt lt ct ps ls cs sky st v N1 (by simp[e1]) (by simp[e2]) (by simp[e3]) (by simp;omega))
    ·rw[if_pos e3]
     exact dP n pb lb cb pw lw cw pt lt ct ps ls cs sky st _ _ w h0 (by decide) CC (fun v=>misfit_2 N pb lb cb pw lw cw pt lt ct ps ls cs sky st v N1 (by simp[e1]) (by simp[e2]) (by simp;omega))
   ·rw[if_pos e2]
    exact dP n pb lb cb pw lw cw pt lt ct ps ls cs sky st _ _ w h0 (by decide) CC (fun v=>misfit_1 N pb lb cb pw lw cw pt lt ct ps ls cs sky st v N1 (by simp[e1]) (by simp;omega))
  ·rw[if_pos e1]
   exact dP n pb lb cb pw lw cw pt lt ct ps ls cs sky st _ _ w h0 (by decide) CC (fun v=>misfit_0 N pb lb cb pw lw cw pt lt ct ps ls cs sky st v N1 (by simp;omega))
 ·rw[if_neg hs]
  exact mE side pb lb cb pw lw cw pt lt ct ps ls cs sky st _ w (by unfold clN;rw[if_neg hs];rfl) CC
end Ss
end
section
open Tf Ieee
theorem dp_least:dpB 1 9223372036854775807=4323455642275676160:=by decide+kernel
theorem dp_low{w a:Int}(w2:w<=9223372036854775807)(a2:a<=9223372036854775807):dpB w a=0\/(4323455642275676160<=dpB w a/\dpB w a<=9146810843189477376):=by
 by_cases c:w<1\/a<1
 ·exact .inl (dN c)
 ·right
  have h1:=pB (w:=1) (w':=w) (a:=a) (by omega) w2 a2
  have h2:=pC (w:=1) (a:=a) (a':=9223372036854775807) (by omega) a2 (by decide) (by decide)
  rw[dp_least]at h2
  exact⟨by omega,dp_le w2 a2⟩
theorem sb_nn{x y:Nat}(hx:x<9218868437227405312)(hy:y<9218868437227405312):sbB x y=rn false ((mv x:Int) - mv y):=by
 have mx:mg x=x:=bD (by omega)
 have my:mg y=y:=bD (by omega)
 have e:=sub_d x y (by omega) (by omega) (by omega) (by omega)
 rw[oI x y (by omega)]at e
 unfold sbB
 rw[eD e,hP,sv_nn (d:=x) (by omega),sv_nn (d:=y) (by omega)]
end
section
open Tf Ieee
namespace Ti
theorem nY{r:Nat}(h:8388608<=r):8388608*gap 23 r<=mag 23 r:=by
 have e:(2:Nat) ^ 23=8388608:=by decide
 unfold mag gap
 rw[e,if_neg (by omega)]
 exact Nat.mul_le_mul_right _ (by omega)
theorem near32{V:Nat}(h:mag 23 8388608*2 ^ K2<=V):
  (V - mag 23 (rung 23 K2 V)*2 ^ K2)*16777216<=V/\(mag 23 (rung 23 K2 V)*2 ^ K2 - V)*16777216<=V/\0<mag 23 (rung 23 K2 V)*2 ^ K2:=by
 obtain⟨r,h1,h2⟩:=gW 23 K2 V
 have hr:8388608<=r:=by
  rcases Nat.lt_or_ge r 8388608 with c | c
  ·exfalso
   have m:mag 23 (r+1)<=mag 23 8388608:=mag_le.2 (by omega)
   have:=Nat.mul_le_mul_right (2 ^ K2) m
   omega
  ·exact c
 have b:=bG 23 K2 r V (by decide) h1 h2
 have n:=nY hr
 have g0:=eT 23 r
 have p0:=aG K2
 rw[cK]at h2 b
 generalize(2:Nat) ^ K2=P at*
 have n2:=Nat.mul_le_mul_right P n
 have gp:0<gap 23 r*P:=Nat.mul_pos g0 p0
 rw[Nat.mul_assoc]at n2
 rw[Nat.add_mul]at h2
 rw[Nat.add_mul,Nat.add_mul]at b
 have s1:=cK 23 r
 generalize rung 23 K2 V=q at*
 by_cases c:mag 23 r*P+(mag 23 r*P+gap 23 r*P)<2*V\/(mag 23 r*P+(mag 23 r*P+gap 23 r*P)=2*V/\r%2=1)
 ·rw[if_pos c]at b
  subst b
  rw[s1,Nat.add_mul]
  generalize mag 23 r*P=a at*
  generalize gap 23 r*P=g at*
  omega
 ·rw[if_neg c]at b
  subst b
  generalize mag 23 q*P=a at*
  generalize gap 23 q*P=g at*
  omega
theorem mv_24{x:Nat}(x1:4323455642275676160<=x):mv (x - 108086391056891904)*16777216=mv x:=by
 rw[dU (r:=x) (by omega),dU (r:=x - 108086391056891904) (by omega)]
 have e1:(x - 108086391056891904)%4503599627370496=x%4503599627370496:=by omega
 obtain⟨k,hk⟩: ∃k,x/4503599627370496=k+25:=⟨x/4503599627370496 - 25,by omega⟩
 have e2:(x - 108086391056891904)/4503599627370496 - 1=k:=by omega
 rw[e1,e2,hk,show k+25 - 1=k+24 by omega,Nat.pow_add,<- Nat.mul_assoc]
theorem dv24{x:Nat}(x1:4323455642275676160<=x)(x2:x<9218868437227405312):dvB x 4715268809856909312=x - 108086391056891904:=by
 obtain⟨N,n,d,g,g0,n0,hW,e,eg,eN,-⟩:=gO (x:=x) (l:=4715268809856909312) (by omega) x2 (by decide) (by decide) (by omega) (by omega)
 have m:=mv_24 x1
 have ml:mv 4715268809856909312=16777216*one:=by
  have h:=bN 24 4715268809856909312 (by decide)
  have e:(2:Nat) ^ 24=16777216:=by decide
  rw[e]at h
  exact h
 rw[ml,cD]at eg
 have o0:=aG K
 obtain⟨Q,hQ⟩:=aB (x - 108086391056891904)
 rw[hQ]at m ⊢
 have q1:1<=Q:=by omega
 have up:mv Q<mv (Q+1):=hJ.2 (by omega)
 have dn:mv (Q - 1)<mv Q:=hJ.2 (by omega)
 rw[<- m]at eN
 rw[e]
 generalize(2:Nat) ^ K=P at*
 have big:N*2 ^ (d+2)*g=2*mv Q*(n*g):=by rw[eN,eg];simp only[Nat.mul_assoc,Nat.mul_comm,Nat.mul_left_comm]
 have big2:N*2 ^ (d+2)=2*mv Q*n:=by
  have:N*2 ^ (d+2)*g=2*mv Q*n*g:=by rw[big,Nat.mul_assoc (2*mv Q)]
  exact Nat.eq_of_mul_eq_mul_right g0 this
 have lo:=q_low (r:=Q - 1) (d:=d) (N:=N) n0 hW (by
  rw[show Q - 1+1=Q by omega,big2]
  exact Nat.mul_lt_mul_of_pos_right (by omega) n0)
 have hi:=q_up (r:=Q) (d:=d) (N:=N) n0 hW (by
  rw[big2]
  exact Nat.mul_lt_mul_of_pos_right (by omega) n0)
 omega
theorem nZ{d:Nat}(d1:4323455642275676160<=d)(d2:d<=4841369599423283200):
  dF d<2139095040/\0<eI (dF d)/\eI (dF d)<5183643171103440896/\(rk (sbB (eI (dF d)) d)<=rk (dvB d 4715268809856909312)/\ -rk (dvB d 4715268809856909312)<=rk (sbB (eI (dF d)) d)):=by
 have md:mg d=d:=bD (by omega)
 have nd:isN d=false:=nn_N (by omega)
 have lo:mag 23 8388608*2 ^ K2<=mv d:=by
  have h:mag 23 8388608*2 ^ K2<=mv 4323455642275676160:=by decide+kernel
  exact Nat.le_trans h (dT.2 d1)
 have hi:rung 23 K2 (mv d)<=1501560832:=jR (by decide) (by
  have h:mv 4841369599423283200<=mag 23 1501560832*2 ^ K2:=by decide+kernel
  exact Nat.le_trans (dT.2 d2) h)
 have n:=near32 lo
 obtain⟨r,hr⟩:=aB (rung 23 K2 (mv d))
 rw[hr]at n hi
 have t:dF d=r:=by
  unfold dF t32
  rw[nd,bI (by omega),md,hr,if_neg (by decide),if_neg (by decide),Nat.min_eq_left (by omega)]
 have f:eI r=D32 r:=by
  have r31:r%2147483648=r:=Nat.mod_eq_of_lt (by omega)
  have g:ng32 r=false:=decide_eq_false (by omega)
  unfold eI mg32
  rw[r31,if_neg (by omega),g]
  dsimp only
  rw[if_neg (show¬r=2139095040 by omega)]
  rfl
 have l:=D32_lt r (by omega)
 have S:=mv_D32 r
 have m:=mv_24 d1
 rw[t,f,dv24 d1 (by omega),sb_nn (by omega) (by omega),rk_rn,S,rk_pos _ (by omega)]
 obtain⟨Q,hQ⟩:=aB (d - 108086391056891904)
 rw[hQ]at m ⊢
 have rq:=R_mv Q (by omega)
 refine⟨by omega,?_,l,?_,?_⟩
 ·rcases Nat.eq_zero_or_pos (D32 r)with z | z
  ·rw[z,eV]at S
   omega
  ·exact z
 ·rw[<- rq.1]
  exact hM (by omega)
 ·rw[<- rq.2]
  exact hM (by omega)
end Ti
end
section
open Go.RowKit Tf
attribute [local go_sem] aI aJ aQ aR aU aV aX
theorem isC_eq{r c:Nat}(h:IsC r c)(c0:0<c)(c1:c<=9218868437227405312):r=c:=by
 have e:=h.2
 unfold canonB at e
 split at e
 ·unfold quiet at e;omega
 ·split at e
  ·omega
  ·exact e
theorem depth_no(n a:Int)(w:World)(h:n<1\/a<1):
  Calls prog 15 #[.int .i64 n,.int .i64 a] w fun e w'=>e=.returned (.float .f64 0)/\w'=w:=by
 by_cases c:n<1
 ·go_enter func15,ntmps15
  go_wp2
  go_ret
  exact⟨rfl,rfl⟩
 ·have d:a<1:=by omega
  clear h
  go_enter func15,ntmps15
  go_wp2
  go_ret
  exact⟨rfl,rfl⟩
theorem qR(n a:Int)(w:World)(h1:1<=n)(h2:1<=a)(n2:n<=9223372036854775807)(a2:a<=9223372036854775807):
  Calls prog 15 #[.int .i64 n,.int .i64 a] w fun e w'=>e=.returned (.float .f64 (dpB n a))/\ ∃k,w'=w.drewN k:=by
 obtain⟨r,k,hr,hc⟩:=fJ (P:=prog) w (fw n) (fw a)
 have e:=isC_eq hc (by rw[<- gC h1 h2];have:=dp_in h1 h2 n2 a2;omega) (by rw[<- gC h1 h2];have:=dp_in h1 h2 n2 a2;omega)
 rw[gC h1 h2,<- e]
 clear e hc
 have F1:=hid (dX n w)
 have F2:=hid (dX a w)
 rw[show rn false (n*one)=fw n from rfl]at F1
 rw[show rn false (a*one)=fw a from rfl]at F2
 generalize fw n=x at*
 generalize fw a=y at*
 go_enter func15,ntmps15
 go_wp2_with fail
 refine F1.out.mono ?_
 rintro e w' ⟨rfl,rfl⟩
 go_wp2_with fail
 refine F2.out.mono ?_
 rintro e w' ⟨rfl,rfl⟩
 go_wp2
 go_ret
 exact⟨rfl,k,rfl⟩
theorem depth_at(n a:Int)(w:World)(n2:n<=9223372036854775807)(a2:a<=9223372036854775807):
  Calls prog 15 #[.int .i64 n,.int .i64 a] w fun e w'=>e=.returned (.float .f64 (dpB n a))/\ ∃k,w'=w.drewN k:=by
 by_cases c:n<1\/a<1
 ·rw[dN c]
  exact(depth_no n a w c).mono fun _ _ h=>⟨h.1,0,h.2⟩
 ·exact qR n a w (by omega) (by omega) n2 a2
end
end Go.Proofs.Ytdeammhdedcjlaa
