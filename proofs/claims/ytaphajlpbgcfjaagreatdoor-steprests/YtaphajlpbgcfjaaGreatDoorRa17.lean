/-
  Some of the texts of this proof, one behind the other.
-/
import Derived.Lib.SliceRun
import Derived.Test.YtaphajlpbgcfjaaGreatDoorRa16
set_option maxRecDepth 100000
set_option maxHeartbeats 400000000
namespace Go.Proofs.YtaphajlpbgcfjaaGreatDoor
open _root_.Go.Proofs.Tryz
section
open Go.RowKit Go.Deep
namespace Rn
open Sh
theorem rT(n r1 r2 r3 r4:Int)(w:World):
  Calls prog 102 #[.int .i64 n,.agg #[.int .i64 r1,.int .i64 r2,.int .i64 r3,.int .i64 r4]] w fun e w'=>e=.returned (.bool (vB n (r1,r2,r3,r4)))/\Below w.heap.size w w':=by
 obtain⟨A0,R0⟩:=aL w (.cells #[.int .i64 r1,.int .i64 r2,.int .i64 r3,.int .i64 r4] 72)
 have VE:Hid (vB n (r1,r2,r3,r4)=(decide (0<=r1)&&decide (r1<n)&&decide (-4503599627370496<=r2)&&decide (r2<=4503599627370496)&&decide (0<=r3)&&decide (r3<=r4))):=rfl
 cases h0:decide (0<=r1)with
 | false=>
  have KO:Hid (vB n (r1,r2,r3,r4)=false):=VE.out.trans (by rw[h0]<;>rfl)
  clear VE
  go_enter func102,ntmps102
  go_upto_region 1 with fail
  generalize hW:World.alloc w _=W0 at*
  obtain⟨gw,hgw⟩:=aB w.heap.size
  rw[hgw]at R0 ⊢
  clear hgw hW
  have x0:=aA 0 R0.out
  have x1:=aA 1 R0.out
  have x2:=aA 2 R0.out
  have x3:=aA 3 R0.out
  go_wp2
  go_ret
  exact⟨by rw[KO.out];rfl,A0.out⟩
 | true=>
  cases h1:decide (r1<n)with
  | false=>
   have KO:Hid (vB n (r1,r2,r3,r4)=false):=VE.out.trans (by rw[h0,h1]<;>rfl)
   clear VE
   go_enter func102,ntmps102
   go_upto_region 1 with fail
   generalize hW:World.alloc w _=W0 at*
   obtain⟨gw,hgw⟩:=aB w.heap.size
   rw[hgw]at R0 ⊢
   clear hgw hW
   have x0:=aA 0 R0.out
   have x1:=aA 1 R0.out
   have x2:=aA 2 R0.out
   have x3:=aA 3 R0.out
   go_wp2
   go_ret
   exact⟨by rw[KO.out];rfl,A0.out⟩
  | true=>
   cases h2:decide (-4503599627370496<=r2)with
   | false=>
    have KO:Hid (vB n (r1,r2,r3,r4)=false):=VE.out.trans (by rw[h0,h1,h2]<;>rfl)
    clear VE
    go_enter func102,ntmps102
    go_upto_region 1 with fail
    generalize hW:World.alloc w _=W0 at*
    obtain⟨gw,hgw⟩:=aB w.heap.size
    rw[hgw]at R0 ⊢
    clear hgw hW
    have x0:=aA 0 R0.out
    have x1:=aA 1 R0.out
    have x2:=aA 2 R0.out
    have x3:=aA 3 R0.out
    go_wp2
    go_ret
    exact⟨by rw[KO.out];rfl,A0.out⟩
   | true=>
    cases h3:decide (r2<=4503599627370496)with
    | false=>
     have KO:Hid (vB n (r1,r2,r3,r4)=false):=VE.out.trans (by rw[h0,h1,h2,h3]<;>rfl)
     clear VE
     go_enter func102,ntmps102
     go_upto_region 1 with fail
     generalize hW:World.alloc w _=W0 at*
     obtain⟨gw,hgw⟩:=aB w.heap.size
     rw[hgw]at R0 ⊢
     clear hgw hW
     have x0:=aA 0 R0.out
     have x1:=aA 1 R0.out
     have x2:=aA 2 R0.out
     have x3:=aA 3 R0.out
     go_wp2
     go_ret
     exact⟨by rw[KO.out];rfl,A0.out⟩
    | true=>
     cases h4:decide (0<=r3)with
     | false=>
      have KO:Hid (vB n (r1,r2,r3,r4)=false):=VE.out.trans (by rw[h0,h1,h2,h3,h4]<;>rfl)
      clear VE
      go_enter func102,ntmps102
      go_upto_region 1 with fail
      generalize hW:World.alloc w _=W0 at*
      obtain⟨gw,hgw⟩:=aB w.heap.size
      rw[hgw]at R0 ⊢
      clear hgw hW
      have x0:=aA 0 R0.out
      have x1:=aA 1 R0.out
      have x2:=aA 2 R0.out
      have x3:=aA 3 R0.out
      go_wp2
      go_ret
      exact⟨by rw[KO.out];rfl,A0.out⟩
     | true=>
      cases h5:decide (r3<=r4)with
      | false=>
       have KO:Hid (vB n (r1,r2,r3,r4)=false):=VE.out.trans (by rw[h0,h1,h2,h3,h4,h5]<;>rfl)
       clear VE
       go_enter func102,ntmps102
       go_upto_region 1 with fail
       generalize hW:World.alloc w _=W0 at*
       obtain⟨gw,hgw⟩:=aB w.heap.size
       rw[hgw]at R0 ⊢
       clear hgw hW
       have x0:=aA 0 R0.out
       have x1:=aA 1 R0.out
       have x2:=aA 2 R0.out
       have x3:=aA 3 R0.out
       go_wp2
       go_ret
       exact⟨by rw[KO.out];rfl,A0.out⟩
      | true=>
       have KO:Hid (vB n (r1,r2,r3,r4)=true):=VE.out.trans (by rw[h0,h1,h2,h3,h4,h5]<;>rfl)
       clear VE
       go_enter func102,ntmps102
       go_upto_region 1 with fail
       generalize hW:World.alloc w _=W0 at*
       obtain⟨gw,hgw⟩:=aB w.heap.size
       rw[hgw]at R0 ⊢
       clear hgw hW
       have x0:=aA 0 R0.out
       have x1:=aA 1 R0.out
       have x2:=aA 2 R0.out
       have x3:=aA 3 R0.out
       go_wp2
       go_ret
       exact⟨by rw[KO.out];rfl,A0.out⟩
def dW(x:Int):Bool:=decide (x<0)||decide (4503599627370496<x)
theorem nD(x:Int)(w:World):Calls prog 76 #[.int .i64 x] w fun e w'=>e=.returned (.bool (dW x))/\w'=w:=by
 cases h1:decide (x<0)with
 | true=>
  have F:Hid (dW x=true):=by show _=_;unfold dW;rw[h1];rfl
  go_enter func76,ntmps76
  go_wp2
  go_ret
  exact⟨by rw[F.out];rfl,rfl⟩
 | false=>
  cases h2:decide (4503599627370496<x)with
  | true=>
   have F:Hid (dW x=true):=by show _=_;unfold dW;rw[h1,h2];rfl
   go_enter func76,ntmps76
   go_wp2
   go_ret
   exact⟨by rw[F.out];rfl,rfl⟩
  | false=>
   have F:Hid (dW x=false):=by show _=_;unfold dW;rw[h1,h2];rfl
   go_enter func76,ntmps76
   go_wp2
   go_ret
   exact⟨by rw[F.out];rfl,rfl⟩
theorem rU{x:Int}:dW x=false ↔ 0<=x/\x<=4503599627370496:=by
 unfold dW
 rw[Bool.or_eq_false_iff,decide_eq_false_iff_not,decide_eq_false_iff_not]
 omega
theorem Hw(p:Option Addr)(n cp:Nat)(f:Nat->Int)(w:World)(hn:n<=17592186044416)(hf:IsI w p n f)(HA:Hid (∀i,i<n->dW (f i)=false)):
  Calls prog 122 #[.slice p n cp,.func (.func 76) #[] #[]] w fun e w'=>e=.returned (.int .i64 (-1))/\w'=w:=by
 have HF:=hid hf
 have HN:=hid hn
 clear hf hn
 go_enter func122,ntmps122
 go_wp2
 go_loopw [8] (fun iv wr=> ∃c:Nat,c<=n/\iv=.int .i64 (c:Nat)/\wr=w) (fun iv _=>n - (intOf iv).toNat)
 case atStart=>exact⟨0,by omega,rfl,rfl⟩
 case round=>
  obtain⟨c,hc,rfl,hwr⟩:=hrel
  have hwr2:=hwr.symm
  subst hwr2
  by_cases hcn:c<n
  ·have HC:=hid hcn
   have hcI:(c:Int)<n:=by omega
   have hcB:(c:Int)<=17592186044416:=by have:=HN.out;omega
   obtain⟨b0,o0,rfl⟩:=HF.out.some0 (show 0<n by omega)
   obtain⟨x,hx⟩:=aB (f c)
   have at0:=HF.out.at0 hcn
   have hp:=HA.out c hcn
   rw[hx]at at0 hp
   have xc:=at0.2.2
   have CF:=hid (nD x w)
   rw[hp]at CF
   clear at0 hx hcn hc hp
   go_wp2_with fail
   refine CF.out.mono ?_
   rintro e9 v9 ⟨rfl,hv9⟩
   have hv8:=hv9.symm
   subst hv8
   go_wp2
   exact⟨⟨c+1,by have:=HC.out;omega,by simp,by first | trivial | rfl⟩,by have:=HC.out;simp[intOf];omega⟩
  ·have e6:n=c:=by omega
   subst e6
   go_wp2
   go_ret
   exact⟨rfl,by first | trivial | rfl⟩
theorem DA(p:Option Addr)(n cp:Nat)(f:Nat->Int)(w:World)(hn:n<=17592186044416)(hf:IsI w p n f)(HA:Hid (¬ ∀i,i<n->dW (f i)=false)):
  Calls prog 122 #[.slice p n cp,.func (.func 76) #[] #[]] w fun e w'=>(∃i:Nat,i<=17592186044416/\e=.returned (.int .i64 (i:Nat)))/\w'=w:=by
 have HF:=hid hf
 have HN:=hid hn
 clear hf hn
 go_enter func122,ntmps122
 go_wp2
 go_loopw [8] (fun iv wr=> ∃c:Nat,c<=n/\iv=.int .i64 (c:Nat)/\(∀i,i<c->dW (f i)=false)/\wr=w) (fun iv _=>n - (intOf iv).toNat)
 case atStart=>exact⟨0,by omega,rfl,fun i hi=>absurd hi (Nat.not_lt_zero i),rfl⟩
 case round=>
  obtain⟨c,hc,rfl,g1,hwr⟩:=hrel
  have hwr2:=hwr.symm
  subst hwr2
  have G1:=hid g1
  clear g1
  by_cases hcn:c<n
  ·have HC:=hid hcn
   have hcI:(c:Int)<n:=by omega
   have hcB:(c:Int)<=17592186044416:=by have:=HN.out;omega
   obtain⟨b0,o0,rfl⟩:=HF.out.some0 (show 0<n by omega)
   obtain⟨x,hx⟩:=aB (f c)
   have at0:=HF.out.at0 hcn
   rw[hx]at at0
   have xc:=at0.2.2
   have CF:=hid (nD x w)
   have XE:=hid hx
   clear at0 hx hcn hc
   cases hp:dW x with
   | true=>
    rw[hp]at CF
    have hp2:=hid hp
    clear hp
    go_wp2_with fail
    refine CF.out.mono ?_
    rintro e9 v9 ⟨rfl,hv9⟩
    have hv8:=hv9.symm
    subst hv8
    go_wp2
    go_ret
    exact⟨⟨c,by have:=HC.out;have:=HN.out;omega,rfl⟩,by first | trivial | rfl⟩
   | false=>
    rw[hp]at CF
    have hp2:=hid hp
    clear hp
    go_wp2_with fail
    refine CF.out.mono ?_
    rintro e9 v9 ⟨rfl,hv9⟩
    have hv8:=hv9.symm
    subst hv8
    go_wp2
    refine⟨⟨c+1,by have:=HC.out;omega,by simp,fun i hi=> ?_,by first | trivial | rfl⟩,by have:=HC.out;simp[intOf];omega⟩
    by_cases l:i<c
    ·exact G1.out i l
    ·obtain rfl:i=c:=by omega
     rw[XE.out]
     exact hp2.out
  ·have e6:n=c:=by omega
   subst e6
   exact absurd G1.out HA.out
theorem qI(p:Option Addr)(n cp:Nat)(f:Nat->Int)(w:World)(hn:n<=17592186044416)(hf:IsI w p n f)(HA: ∀i,i<n->dW (f i)=false):
  Calls prog 65 #[.slice p n cp,.func (.func 76) #[] #[]] w fun e w'=>e=.returned (.bool false)/\w'=w:=by
 have IX:=hid (Hw p n cp f w hn hf HA)
 clear hn hf HA
 go_enter func65,ntmps65
 go_wp2_with fail
 refine IX.out.mono ?_
 rintro e9 v9 ⟨rfl,hv9⟩
 have hv8:=hv9.symm
 subst hv8
 go_wp2
 go_ret
 exact⟨rfl,rfl⟩
theorem DF(p:Option Addr)(n cp:Nat)(f:Nat->Int)(w:World)(hn:n<=17592186044416)(hf:IsI w p n f)(HA: ¬ ∀i,i<n->dW (f i)=false):
  Calls prog 65 #[.slice p n cp,.func (.func 76) #[] #[]] w fun e w'=>e=.returned (.bool true)/\w'=w:=by
 have IX:=hid (DA p n cp f w hn hf HA)
 clear hn hf HA
 go_enter func65,ntmps65
 go_wp2_with fail
 refine IX.out.mono ?_
 rintro e9 v9 ⟨⟨i,hi,rfl⟩,hv9⟩
 have hv8:=hv9.symm
 subst hv8
 go_wp2
 go_ret
 exact⟨rfl,rfl⟩
theorem falls_at(r1 r2 r3 r4 st:Int)(w:World):Calls prog 82 #[.agg #[.int .i64 r1,.int .i64 r2,.int .i64 r3,.int .i64 r4],.int .i64 st] w fun e w'=>e=.returned (.bool (fallB st (r1,r2,r3,r4)))/\Below w.heap.size w w':=by
 obtain⟨A0,R0⟩:=aL w (.cells #[.int .i64 r1,.int .i64 r2,.int .i64 r3,.int .i64 r4] 72)
 have VE:Hid (fallB st (r1,r2,r3,r4)=(decide (r3<=st)&&decide (st<r4))):=rfl
 cases h0:decide (r3<=st)with
 | false=>
  have KO:Hid (fallB st (r1,r2,r3,r4)=false):=VE.out.trans (by rw[h0]<;>rfl)
  clear VE
  go_enter func82,ntmps82
  go_upto_region 1 with fail
  generalize hW:World.alloc w _=W0 at*
  obtain⟨gw,hgw⟩:=aB w.heap.size
  rw[hgw]at R0 ⊢
  clear hgw hW
  have x2:=aA 2 R0.out
  have x3:=aA 3 R0.out
  go_wp2
  go_ret
  exact⟨by rw[KO.out];rfl,A0.out⟩
 | true=>
  cases h1:decide (st<r4)with
  | false=>
   have KO:Hid (fallB st (r1,r2,r3,r4)=false):=VE.out.trans (by rw[h0,h1]<;>rfl)
   clear VE
   go_enter func82,ntmps82
   go_upto_region 1 with fail
   generalize hW:World.alloc w _=W0 at*
   obtain⟨gw,hgw⟩:=aB w.heap.size
   rw[hgw]at R0 ⊢
   clear hgw hW
   have x2:=aA 2 R0.out
   have x3:=aA 3 R0.out
   go_wp2
   go_ret
   exact⟨by rw[KO.out];rfl,A0.out⟩
  | true=>
   have KO:Hid (fallB st (r1,r2,r3,r4)=true):=VE.out.trans (by rw[h0,h1]<;>rfl)
   clear VE
   go_enter func82,ntmps82
   go_upto_region 1 with fail
   generalize hW:World.alloc w _=W0 at*
   obtain⟨gw,hgw⟩:=aB w.heap.size
   rw[hgw]at R0 ⊢
   clear hgw hW
   have x2:=aA 2 R0.out
   have x3:=aA 3 R0.out
   go_wp2
   go_ret
   exact⟨by rw[KO.out];rfl,A0.out⟩
theorem Bh(lw:Nat)(pr:Option Addr)(lr cr:Nat)(R:Nat->Int × Int × Int × Int)(w:World)(hlr:lr<=1024)(IR:Hid (IsRn w pr lr R))(HV:Hid (∀k,k<lr->vB (lw:Nat) (R k)=true)):
  Calls prog 77 #[.int .i64 (lw:Nat),.slice pr lr cr] w fun e w'=>e=.returned (.bool true)/\Below w.heap.size w w':=by
 have h4:decide ((1024:Int)<(lr:Int))=false:=decide_eq_false (by omega)
 have HLR:=hid hlr
 clear hlr
 go_enter func77,ntmps77
 go_wp2
 go_loopw [12] (fun iv wq=> ∃c:Nat,c<=lr/\iv=.int .i64 (c:Nat)/\Ab w wq) (fun iv _=>lr - (intOf iv).toNat)
 case atStart=>exact⟨0,by omega,rfl,Ab.refl w⟩
 case round=>
  obtain⟨c,hc,rfl,ar⟩:=hrel
  have AQ:=hid ar
  clear ar
  by_cases hcn:c<lr
  ·have HC:=hid hcn
   have hcI:(c:Int)<lr:=by omega
   have hcB:(c:Int)<=1024:=by have:=HLR.out;omega
   obtain⟨rb,ro,rfl⟩:=IR.out.some0 (show 0<lr by omega)
   obtain⟨r1,r2,r3,r4,hr⟩: ∃a b c' d,R c=(a,b,c',d):=⟨_,_,_,_,rfl⟩
   have at0:=((IR.out.below AQ.out).at0 hcn)
   rw[hr]at at0
   have y0:=at0.2.2.1
   have y1:=at0.2.2.2.1
   have y2:=at0.2.2.2.2.1
   have y3:=at0.2.2.2.2.2
   have RE:=hid hr
   clear at0 hr hcn hc
   have A1:=fJ (bl1 wr (.cells #[.int .i64 r1,.int .i64 r2,.int .i64 r3,.int .i64 r4] 72))
   have CV:=hid (fun v=>rT (lw:Nat) r1 r2 r3 r4 v)
   rw[<- RE.out,HV.out c HC.out]at CV
   go_wp2_with fail
   refine(CV.out _).mono ?_
   rintro e9 v9 ⟨rfl,b9⟩
   have A9:Hid (Ab w v9):=AQ.out.trans (A1.out.trans b9)
   clear b9
   go_wp2
   exact⟨⟨c+1,by have:=HC.out;omega,by simp,A9.out⟩,by have:=HC.out;simp[intOf];omega⟩
  ·have e6:lr=c:=by omega
   subst e6
   go_wp2
   go_ret
   exact⟨rfl,AQ.out⟩
theorem allv_no(lw:Nat)(pr:Option Addr)(lr cr:Nat)(R:Nat->Int × Int × Int × Int)(w:World)(hlr:lr<=1024)(IR:Hid (IsRn w pr lr R))(HB:Hid (¬ ∀k,k<lr->vB (lw:Nat) (R k)=true)):
  Calls prog 77 #[.int .i64 (lw:Nat),.slice pr lr cr] w fun e w'=>e=.returned (.bool false)/\Below w.heap.size w w':=by
 have h4:decide ((1024:Int)<(lr:Int))=false:=decide_eq_false (by omega)
 have HLR:=hid hlr
 clear hlr
 go_enter func77,ntmps77
 go_wp2
 go_loopw [12] (fun iv wq=> ∃c:Nat,c<=lr/\iv=.int .i64 (c:Nat)/\Ab w wq/\(∀k,k<c->vB (lw:Nat) (R k)=true)) (fun iv _=>lr - (intOf iv).toNat)
 case atStart=>exact⟨0,by omega,rfl,Ab.refl w,fun i hi=>absurd hi (Nat.not_lt_zero i)⟩
 case round=>
  obtain⟨c,hc,rfl,ar,g1⟩:=hrel
  have AQ:=hid ar
  clear ar
  have G1:=hid g1
  clear g1
  by_cases hcn:c<lr
  ·have HC:=hid hcn
   have hcI:(c:Int)<lr:=by omega
   have hcB:(c:Int)<=1024:=by have:=HLR.out;omega
   obtain⟨rb,ro,rfl⟩:=IR.out.some0 (show 0<lr by omega)
   obtain⟨r1,r2,r3,r4,hr⟩: ∃a b c' d,R c=(a,b,c',d):=⟨_,_,_,_,rfl⟩
   have at0:=((IR.out.below AQ.out).at0 hcn)
   rw[hr]at at0
   have y0:=at0.2.2.1
   have y1:=at0.2.2.2.1
   have y2:=at0.2.2.2.2.1
   have y3:=at0.2.2.2.2.2
   have RE:=hid hr
   clear at0 hr hcn hc
   have A1:=fJ (bl1 wr (.cells #[.int .i64 r1,.int .i64 r2,.int .i64 r3,.int .i64 r4] 72))
   cases vb:vB (lw:Nat) (R c)with
   | false=>
    have CV:=hid (fun v=>rT (lw:Nat) r1 r2 r3 r4 v)
    rw[<- RE.out,vb]at CV
    go_wp2_with fail
    refine(CV.out _).mono ?_
    rintro e9 v9 ⟨rfl,b9⟩
    have A9:Hid (Ab w v9):=AQ.out.trans (A1.out.trans b9)
    clear b9
    go_wp2
    go_ret
    exact⟨rfl,A9.out⟩
   | true=>
    have VB:=hid vb
    have CV:=hid (fun v=>rT (lw:Nat) r1 r2 r3 r4 v)
    rw[<- RE.out,vb]at CV
    clear vb
    go_wp2_with fail
    refine(CV.out _).mono ?_
    rintro e9 v9 ⟨rfl,b9⟩
    have A9:Hid (Ab w v9):=AQ.out.trans (A1.out.trans b9)
    clear b9
    go_wp2
    refine⟨⟨c+1,by have:=HC.out;omega,by simp,A9.out,fun k hk=> ?_⟩,by have:=HC.out;simp[intOf];omega⟩
    by_cases l:k<c
    ·exact G1.out k l
    ·obtain rfl:k=c:=by omega
     exact VB.out
  ·have e6:lr=c:=by omega
   subst e6
   exact absurd G1.out HB.out
theorem Hx(lw:Nat)(pr:Option Addr)(lr cr:Nat)(w:World)(h4:decide ((1024:Int)<(lr:Int))=true):
  Calls prog 77 #[.int .i64 (lw:Nat),.slice pr lr cr] w fun e w'=>e=.returned (.bool false)/\Below w.heap.size w w':=by
 go_enter func77,ntmps77
 go_wp2
 go_ret
 exact⟨rfl,Below.refl _ _⟩
end Rn
end
section
open Go.RowKit Tf Cu Go.Deep
attribute [local go_sem] aJ aK aP aQ aR aV aX aF
namespace Ss
theorem misfit_0(N:Nat)(pb:Option Addr)(lb cb:Nat)(pw:Option Addr)(lw cw:Nat)(pt:Option Addr)(lt ct:Nat)(ps:Option Addr)(ls cs:Nat)(sky st:Int)(w:World)(_hN:(N:Int)<=6144)(h0:((lb:Int) != (N:Int))=true):
  Calls prog 44 #[.int .i64 (N:Nat),.agg #[.slice pb lb cb,.slice pw lw cw,.slice pt lt ct,.slice ps ls cs,.int .i64 sky,.int .i64 st]] w fun e w'=>e=.returned (.int .i64 0)/\Below w.heap.size w w':=by
 obtain⟨A0,R0⟩:=aL w (.cells #[.slice pb lb cb,.slice pw lw cw,.slice pt lt ct,.slice ps ls cs,.int .i64 sky,.int .i64 st] 29)
 go_enter func44,ntmps44
 go_upto_region 1 with fail
 generalize hW:World.alloc w _=V0 at*
 obtain⟨gw,hgw⟩:=aB w.heap.size
 rw[hgw]at R0 ⊢
 clear hgw hW
 have x0:=aE R0.out
 go_wp2
 go_ret
 exact⟨rfl,A0.out⟩
theorem misfit_1(N:Nat)(pb:Option Addr)(lb cb:Nat)(pw:Option Addr)(lw cw:Nat)(pt:Option Addr)(lt ct:Nat)(ps:Option Addr)(ls cs:Nat)(sky st:Int)(w:World)(_hN:(N:Int)<=6144)(h0:((lb:Int) != (N:Int))=false)(h1:((lw:Int) != (N:Int))=true):
  Calls prog 44 #[.int .i64 (N:Nat),.agg #[.slice pb lb cb,.slice pw lw cw,.slice pt lt ct,.slice ps ls cs,.int .i64 sky,.int .i64 st]] w fun e w'=>e=.returned (.int .i64 1)/\Below w.heap.size w w':=by
 obtain⟨A0,R0⟩:=aL w (.cells #[.slice pb lb cb,.slice pw lw cw,.slice pt lt ct,.slice ps ls cs,.int .i64 sky,.int .i64 st] 29)
 go_enter func44,ntmps44
 go_upto_region 1 with fail
 generalize hW:World.alloc w _=V0 at*
 obtain⟨gw,hgw⟩:=aB w.heap.size
 rw[hgw]at R0 ⊢
 clear hgw hW
 have x0:=aE R0.out
 go_wp2
 go_ret
 exact⟨rfl,A0.out⟩
theorem misfit_2(N:Nat)(pb:Option Addr)(lb cb:Nat)(pw:Option Addr)(lw cw:Nat)(pt:Option Addr)(lt ct:Nat)(ps:Option Addr)(ls cs:Nat)(sky st:Int)(w:World)(_hN:(N:Int)<=6144)(h0:((lb:Int) != (N:Int))=false)(h1:((lw:Int) != (N:Int))=false)(h2:((lt:Int) != (N:Int))=true):
  Calls prog 44 #[.int .i64 (N:Nat),.agg #[.slice pb lb cb,.slice pw lw cw,.slice pt lt ct,.slice ps ls cs,.int .i64 sky,.int .i64 st]] w fun e w'=>e=.returned (.int .i64 2)/\Below w.heap.size w w':=by
 obtain⟨A0,R0⟩:=aL w (.cells #[.slice pb lb cb,.slice pw lw cw,.slice pt lt ct,.slice ps ls cs,.int .i64 sky,.int .i64 st] 29)
 go_enter func44,ntmps44
 go_upto_region 1 with fail
 generalize hW:World.alloc w _=V0 at*
 obtain⟨gw,hgw⟩:=aB w.heap.size
 rw[hgw]at R0 ⊢
 clear hgw hW
 have x0:=aE R0.out
 go_wp2
 go_ret
 exact⟨rfl,A0.out⟩
theorem misfit_3(N:Nat)(pb:Option Addr)(lb cb:Nat)(pw:Option Addr)(lw cw:Nat)(pt:Option Addr)(lt ct:Nat)(ps:Option Addr)(ls cs:Nat)(sky st:Int)(w:World)(hN:(N:Int)<=6144)(h0:((lb:Int) != (N:Int))=false)(h1:((lw:Int) != (N:Int))=false)(h2:((lt:Int) != (N:Int))=false)(h3:((ls:Int) != 2*(N:Int))=true):
  Calls prog 44 #[.int .i64 (N:Nat),.agg #[.slice pb lb cb,.slice pw lw cw,.slice pt lt ct,.slice ps ls cs,.int .i64 sky,.int .i64 st]] w fun e w'=>e=.returned (.int .i64 3)/\Below w.heap.size w w':=by
 obtain⟨A0,R0⟩:=aL w (.cells #[.slice pb lb cb,.slice pw lw cw,.slice pt lt ct,.slice ps ls cs,.int .i64 sky,.int .i64 st] 29)
 go_enter func44,ntmps44
 go_upto_region 1 with fail
 generalize hW:World.alloc w _=V0 at*
 obtain⟨gw,hgw⟩:=aB w.heap.size
 rw[hgw]at R0 ⊢
 clear hgw hW
 have x0:=aE R0.out
 go_wp2
 go_ret
 exact⟨rfl,A0.out⟩
theorem misfit_4(N:Nat)(pb:Option Addr)(lb cb:Nat)(pw:Option Addr)(lw cw:Nat)(pt:Option Addr)(lt ct:Nat)(ps:Option Addr)(ls cs:Nat)(sky st:Int)(w:World)(hN:(N:Int)<=6144)(h0:((lb:Int) != (N:Int))=false)(h1:((lw:Int) != (N:Int))=false)(h2:((lt:Int) != (N:Int))=false)(h3:((ls:Int) != 2*(N:Int))=false):
  Calls prog 44 #[.int .i64 (N:Nat),.agg #[.slice pb lb cb,.slice pw lw cw,.slice pt lt ct,.slice ps ls cs,.int .i64 sky,.int .i64 st]] w fun e w'=>e=.returned (.int .i64 (-1))/\Below w.heap.size w w':=by
 obtain⟨A0,R0⟩:=aL w (.cells #[.slice pb lb cb,.slice pw lw cw,.slice pt lt ct,.slice ps ls cs,.int .i64 sky,.int .i64 st] 29)
 go_enter func44,ntmps44
 go_upto_region 1 with fail
 generalize hW:World.alloc w _=V0 at*
 obtain⟨gw,hgw⟩:=aB w.heap.size
 rw[hgw]at R0 ⊢
 clear hgw hW
 have x0:=aE R0.out
 go_wp2
 go_ret
 exact⟨rfl,A0.out⟩
def nuB(dt gr dr:Nat)(lim:Int):Bool:=fgt dt 0&&(flt dt 4652218415073722368||feq dt 4652218415073722368)&&btw gr 0 4652218415073722368&&btw dr 0 4652218415073722368&&decide (0<=lim/\lim<=3)
theorem nuB_iff{dt gr dr:Nat}{lim:Int}(hd:dt<18446744073709551616):nuB dt gr dr lim=true ↔ (btw dt 0 4652218415073722368=true/\feq dt 0=false/\btw gr 0 4652218415073722368=true/\btw dr 0 4652218415073722368=true/\(0<=lim/\lim<=3)):=by
 have k1:fgt dt 0=true->feq dt 0=false/\dt≠9223372036854775808:=fun h=>by
  refine⟨?_,fun e=> ?_⟩
  ·rw[eC dt 0 hd (by omega)]at h
   rw[gR dt 0 hd (by omega)]
   simp only[Bool.and_eq_true,decide_eq_true_eq]at h
   have:decide (rk dt=rk 0)=false:=decide_eq_false (by omega)
   rw[this]
   simp
  ·rw[e]at h
   exact absurd h (by decide+kernel)
 have e:btw dt 0 4652218415073722368=((fgt dt 0||feq dt 0)&&(flt dt 4652218415073722368||feq dt 4652218415073722368)&&decide (dt≠9223372036854775808)):=rfl
 unfold nuB
 rw[e]
 generalize(flt dt 4652218415073722368||feq dt 4652218415073722368)=d2
 constructor
 ·intro h
  simp only[Bool.and_eq_true,decide_eq_true_eq]at h
  obtain⟨⟨⟨⟨h1,h2⟩,h3⟩,h4⟩,h5⟩:=h
  obtain⟨q1,q2⟩:=k1 h1
  refine⟨?_,q1,h3,h4,h5⟩
  rw[h1,h2,decide_eq_true q2]
  rfl
 ·rintro⟨h1,h2,h3,h4,h5⟩
  rw[h2,Bool.or_false]at h1
  simp only[Bool.and_eq_true,decide_eq_true_eq]at h1
  rw[h1.1.1,h1.1.2,h3,h4,decide_eq_true h5]
  rfl
theorem nums_0(sd:Int)(dt gr dr:Nat)(lim:Int)(rv:Bool)(pr:Option Addr)(lr cr:Nat)(w:World)(h0:fgt dt 0=false):
  Calls prog 42 #[.agg #[.int .i64 sd,.float .f64 dt,.float .f64 gr,.float .f64 dr,.int .i64 lim,.bool rv,.slice pr lr cr]] w fun e w'=>e=.returned (.bool false)/\Below w.heap.size w w':=by
 obtain⟨A0,R0⟩:=aL w (.cells #[.int .i64 sd,.float .f64 dt,.float .f64 gr,.float .f64 dr,.int .i64 lim,.bool rv,.slice pr lr cr] 25)
 go_enter func42,ntmps42
 go_upto_region 1 with fail
 generalize hW:World.alloc w _=V0 at*
 obtain⟨gw,hgw⟩:=aB w.heap.size
 rw[hgw]at R0 ⊢
 clear hgw hW
 have x0:=aG R0.out
 go_wp2
 go_ret
 exact⟨rfl,A0.out⟩
theorem nums_1(sd:Int)(dt gr dr:Nat)(lim:Int)(rv:Bool)(pr:Option Addr)(lr cr:Nat)(w:World)(h0:fgt dt 0=true)(h1:(flt dt 4652218415073722368||feq dt 4652218415073722368)=false):
  Calls prog 42 #[.agg #[.int .i64 sd,.float .f64 dt,.float .f64 gr,.float .f64 dr,.int .i64 lim,.bool rv,.slice pr lr cr]] w fun e w'=>e=.returned (.bool false)/\Below w.heap.size w w':=by
 obtain⟨A0,R0⟩:=aL w (.cells #[.int .i64 sd,.float .f64 dt,.float .f64 gr,.float .f64 dr,.int .i64 lim,.bool rv,.slice pr lr cr] 25)
 go_enter func42,ntmps42
 go_upto_region 1 with fail
 generalize hW:World.alloc w _=V0 at*
 obtain⟨gw,hgw⟩:=aB w.heap.size
 rw[hgw]at R0 ⊢
 clear hgw hW
 have x0:=aG R0.out
 go_wp2
 go_ret
 exact⟨rfl,A0.out⟩
theorem nums_2(sd:Int)(dt gr dr:Nat)(lim:Int)(rv:Bool)(pr:Option Addr)(lr cr:Nat)(w:World)(hg:gr<18446744073709551616)(h0:fgt dt 0=true)(h1:(flt dt 4652218415073722368||feq dt 4652218415073722368)=true)(H2:Hid (btw gr 0 4652218415073722368=false)):
  Calls prog 42 #[.agg #[.int .i64 sd,.float .f64 dt,.float .f64 gr,.float .f64 dr,.int .i64 lim,.bool rv,.slice pr lr cr]] w fun e w'=>e=.returned (.bool false)/\Below w.heap.size w w':=by
 have C2:Hid (∀v,_):=fun v=>iB gr 0 4652218415073722368 _ v hg (by omega) H2.out
 clear hg
 obtain⟨A0,R0⟩:=aL w (.cells #[.int .i64 sd,.float .f64 dt,.float .f64 gr,.float .f64 dr,.int .i64 lim,.bool rv,.slice pr lr cr] 25)
 go_enter func42,ntmps42
 go_upto_region 1 with fail
 generalize hW:World.alloc w _=V0 at*
 obtain⟨gw,hgw⟩:=aB w.heap.size
 rw[hgw]at R0 ⊢
 clear hgw hW
 have x0:=aG R0.out
 go_wp2_with fail
 refine(C2.out V0).mono ?_
 rintro e9 v9 ⟨rfl,hv9⟩
 have hv8:=hv9.symm
 subst hv8
 go_wp2
 go_ret
 exact⟨rfl,A0.out⟩
theorem nums_3(sd:Int)(dt gr dr:Nat)(lim:Int)(rv:Bool)(pr:Option Addr)(lr cr:Nat)(w:World)(hg:gr<18446744073709551616)(hd:dr<18446744073709551616)(h0:fgt dt 0=true)(h1:(flt dt 4652218415073722368||feq dt 4652218415073722368)=true)(H2:Hid (btw gr 0 4652218415073722368=true))(H3:Hid (btw dr 0 4652218415073722368=false)):
  Calls prog 42 #[.agg #[.int .i64 sd,.float .f64 dt,.float .f64 gr,.float .f64 dr,.int .i64 lim,.bool rv,.slice pr lr cr]] w fun e w'=>e=.returned (.bool false)/\Below w.heap.size w w':=by
 have C2:Hid (∀v,_):=fun v=>iB gr 0 4652218415073722368 _ v hg (by omega) H2.out
 clear hg
 have C3:Hid (∀v,_):=fun v=>iB dr 0 4652218415073722368 _ v hd (by omega) H3.out
 clear hd
 obtain⟨A0,R0⟩:=aL w (.cells #[.int .i64 sd,.float .f64 dt,.float .f64 gr,.float .f64 dr,.int .i64 lim,.bool rv,.slice pr lr cr] 25)
 go_enter func42,ntmps42
 go_upto_region 1 with fail
 generalize hW:World.alloc w _=V0 at*
 obtain⟨gw,hgw⟩:=aB w.heap.size
 rw[hgw]at R0 ⊢
 clear hgw hW
 have x0:=aG R0.out
 go_wp2_with fail
 refine(C2.out V0).mono ?_
 rintro e9 v9 ⟨rfl,hv9⟩
 have hv8:=hv9.symm
 subst hv8
 go_wp2_with fail
 refine(C3.out V0).mono ?_
 rintro e9 v9 ⟨rfl,hv9⟩
 have hv8:=hv9.symm
 subst hv8
 go_wp2
 go_ret
 exact⟨rfl,A0.out⟩
theorem nums_4(sd:Int)(dt gr dr:Nat)(lim:Int)(rv:Bool)(pr:Option Addr)(lr cr:Nat)(w:World)(hg:gr<18446744073709551616)(hd:dr<18446744073709551616)(h0:fgt dt 0=true)(h1:(flt dt 4652218415073722368||feq dt 4652218415073722368)=true)(H2:Hid (btw gr 0 4652218415073722368=true))(H3:Hid (btw dr 0 4652218415073722368=true)):
  Calls prog 42 #[.agg #[.int .i64 sd,.float .f64 dt,.float .f64 gr,.float .f64 dr,.int .i64 lim,.bool rv,.slice pr lr cr]] w fun e w'=>e=.returned (.bool (decide (0<=lim/\lim<=3)))/\Below w.heap.size w w':=by
 have C2:Hid (∀v,_):=fun v=>iB gr 0 4652218415073722368 _ v hg (by omega) H2.out
 clear hg
 have C3:Hid (∀v,_):=fun v=>iB dr 0 4652218415073722368 _ v hd (by omega) H3.out
 clear hd
 obtain⟨lb,LB⟩: ∃b,decide (0<=lim/\lim<=3)=b:=⟨_,rfl⟩
 have C4:Hid (∀v,_):=fun v=>dJ lim v
 rw[LB]at C4 ⊢
 clear LB
 obtain⟨A0,R0⟩:=aL w (.cells #[.int .i64 sd,.float .f64 dt,.float .f64 gr,.float .f64 dr,.int .i64 lim,.bool rv,.slice pr lr cr] 25)
 go_enter func42,ntmps42
 go_upto_region 1 with fail
 generalize hW:World.alloc w _=V0 at*
 obtain⟨gw,hgw⟩:=aB w.heap.size
 rw[hgw]at R0 ⊢
 clear hgw hW
 have x0:=aG R0.out
 go_wp2_with fail
 refine(C2.out V0).mono ?_
 rintro e9 v9 ⟨rfl,hv9⟩
 have hv8:=hv9.symm
 subst hv8
 go_wp2_with fail
 refine(C3.out V0).mono ?_
 rintro e9 v9 ⟨rfl,hv9⟩
 have hv8:=hv9.symm
 subst hv8
 go_wp2_with fail
 refine(C4.out V0).mono ?_
 rintro e9 v1 ⟨rfl,b1⟩
 have A1:Hid (Ab w v1):=A0.out.trans b1
 clear b1
 go_wp2
 go_ret
 exact⟨rfl,A1.out⟩
theorem FF(sd:Int)(dt gr dr:Nat)(lim:Int)(rv:Bool)(pr:Option Addr)(lr cr:Nat)(r:Bool)(w:World)(hg:gr<18446744073709551616)(hd:dr<18446744073709551616)(hr:nuB dt gr dr lim=r):
  Calls prog 42 #[.agg #[.int .i64 sd,.float .f64 dt,.float .f64 gr,.float .f64 dr,.int .i64 lim,.bool rv,.slice pr lr cr]] w fun e w'=>e=.returned (.bool r)/\Below w.heap.size w w':=by
 unfold nuB at hr
 cases h0:fgt dt 0 with
 | false=>
  rw[h0]at hr
  rw[<- hr]
  exact nums_0 sd dt gr dr lim rv pr lr cr w h0
 | true=>
  cases h1:(flt dt 4652218415073722368||feq dt 4652218415073722368)with
  | false=>
   rw[h0,h1]at hr
   rw[<- hr]
   exact nums_1 sd dt gr dr lim rv pr lr cr w h0 h1
  | true=>
   cases h2:btw gr 0 4652218415073722368 with
   | false=>
    rw[h0,h1,h2]at hr
    rw[<- hr]
    exact nums_2 sd dt gr dr lim rv pr lr cr w hg h0 h1 h2
   | true=>
    cases h3:btw dr 0 4652218415073722368 with
    | false=>
     rw[h0,h1,h2,h3]at hr
     rw[<- hr]
     exact nums_3 sd dt gr dr lim rv pr lr cr w hg hd h0 h1 h2 h3
    | true=>
     rw[h0,h1,h2,h3]at hr
     rw[<- hr]
     exact nums_4 sd dt gr dr lim rv pr lr cr w hg hd h0 h1 h2 h3
theorem DH(N:Int)(pr:Option Addr)(lr cr:Nat)(w:World)(h:decide ((1024:Int)<(lr:Int))=true):
  Calls prog 43 #[.int .i64 N,.slice pr lr cr] w fun e w'=>e=.returned (.bool false)/\Below w.heap.size w w':=by
 go_enter func43,ntmps43
 go_wp2
 go_ret
 exact⟨rfl,Below.refl _ _⟩
theorem Bi(N:Nat)(pr:Option Addr)(lr cr:Nat)(R:Nat->Int × Int × Int × Int)(w:World)(hl:lr<=1024)(IR:Hid (Rn.IsRn w pr lr R))(an:Bool)(AY:Hid ((∀k,k<lr->rB (N:Nat) (R k)=true)->an=true))(AN:Hid ((¬ ∀k,k<lr->rB (N:Nat) (R k)=true)->an=false)):
  Calls prog 43 #[.int .i64 (N:Nat),.slice pr lr cr] w fun e w'=>e=.returned (.bool an)/\Below w.heap.size w w':=by
 have d3:decide ((1024:Int)<(lr:Int))=false:=decide_eq_false (by omega)
 have HL:=hid hl
 clear hl
 go_enter func43,ntmps43
 go_wp2
 go_loopw [12] (fun iv wr=> ∃k:Nat,k<=lr/\iv=.int .i64 (k:Nat)/\Ab w wr/\ ∀i,i<k->rB (N:Nat) (R i)=true) (fun iv _=>lr - (intOf iv).toNat)
 case atStart=>exact⟨0,by omega,rfl,Ab.refl w,fun i hi=>absurd hi (Nat.not_lt_zero i)⟩
 case round=>
  obtain⟨k,hk,rfl,ar,g1⟩:=hrel
  have AR:=hid ar
  have G1:=hid g1
  clear ar g1
  by_cases hkn:k<lr
  ·have HK:=hid hkn
   have kI:(k:Int)<lr:=by omega
   have kB:(k:Int)<=1024:=by have:=HL.out;omega
   obtain⟨rb,ro,rfl⟩:=IR.out.some0 (show 0<lr by omega)
   obtain⟨r1,r2,r3,r4,hr⟩: ∃a b c' d,R k=(a,b,c',d):=⟨_,_,_,_,rfl⟩
   have at0:=((IR.out.below AR.out).at0 hkn)
   rw[hr]at at0
   have y0:=at0.2.2.1
   have y1:=at0.2.2.2.1
   have y2:=at0.2.2.2.2.1
   have y3:=at0.2.2.2.2.2
   have CV:Hid (∀v,Calls prog 102 #[.int .i64 (N:Nat),.agg #[.int .i64 r1,.int .i64 r2,.int .i64 r3,.int .i64 r4]] v fun e w'=>e=.returned (.bool (rB (N:Nat) (R k)))/\Below v.heap.size v w'):=fun v=>by rw[hr];exact Rn.rT (N:Nat) r1 r2 r3 r4 v
   clear at0 hkn hk hr
   obtain⟨gz,hgz⟩:=aB wr.heap.size
   go_upto_region 6 with fail
   have AL:=fJ (bl1 wr (.cells #[.int .i64 r1,.int .i64 r2,.int .i64 r3,.int .i64 r4] 72))
   have RZ:Hid ((wr.alloc (.cells #[.int .i64 r1,.int .i64 r2,.int .i64 r3,.int .i64 r4] 72)).heap[gz]? =some (.cells #[.int .i64 r1,.int .i64 r2,.int .i64 r3,.int .i64 r4] 72)):=by rw[<- hgz];exact heap_alloc_new _ _
   generalize hW:World.alloc wr _=V4 at*
   clear hW hgz y0 y1 y2 y3
   have x0:=aA 0 RZ.out
   have x1:=aA 1 RZ.out
   have x2:=aA 2 RZ.out
   have x3:=aA 3 RZ.out
   cases vb:rB (N:Nat) (R k)with
   | false=>
    rw[vb]at CV
    have E:Hid (an=false):=AN.out (fun q=>by have:=q k HK.out;rw[vb]at this;cases this)
    go_wp2_with fail
    refine(CV.out V4).mono ?_
    rintro e9 v5 ⟨rfl,b5⟩
    have A5:Hid (Ab wr v5):=AL.out.trans b5
    clear b5
    go_wp2
    go_ret
    exact⟨by rw[E.out];rfl,AR.out.trans A5.out⟩
   | true=>
    rw[vb]at CV
    have VB:=hid vb
    clear vb
    go_wp2_with fail
    refine(CV.out V4).mono ?_
    rintro e9 v5 ⟨rfl,b5⟩
    have A5:Hid (Ab wr v5):=AL.out.trans b5
    clear b5
    go_wp2
    refine⟨⟨k+1,by have:=HK.out;omega,by simp,AR.out.trans A5.out,fun i hi=> ?_⟩,by have:=HK.out;simp[intOf];omega⟩
    by_cases l:i<k
    ·exact G1.out i l
    ·obtain rfl:i=k:=by omega
     exact VB.out
  ·have e6:lr=k:=by omega
   subst e6
   have E:Hid (an=true):=AY.out G1.out
   go_wp2
   go_ret
   exact⟨by rw[E.out];rfl,AR.out⟩
end Ss
end
end Go.Proofs.YtaphajlpbgcfjaaGreatDoor
