/-
  Some of the texts of this proof, one behind the other.
-/
import Derived.BigRegion
import Derived.Lib.SliceRun
import Derived.Test.YtmhnilnaffjhmaaGreatDoorCeg18
set_option maxRecDepth 100000
set_option maxHeartbeats 400000000
namespace Go.Proofs.YtmhnilnaffjhmaaGreatDoor
open _root_.Go.Proofs.Tryz
section
open Go.RowKit Go.Deep
namespace Sh
theorem bel_at(x:Int)(w:World):Calls prog 116 #[.int .i64 x] w fun e w'=>e=.returned (.bool (decide (x<0)))/\w'=w:=by
 go_enter func116,ntmps116
 go_wp2
 go_ret
 exact⟨rfl,rfl⟩
def far(x:Int):Bool:=decide (x< -4503599627370496)||decide (4503599627370496<x)
theorem far_at(x:Int)(w:World):Calls prog 117 #[.int .i64 x] w fun e w'=>e=.returned (.bool (far x))/\w'=w:=by
 cases h1:decide (x< -4503599627370496)with
 | true=>
  have F:Hid (far x=true):=by show _=_;unfold far;rw[h1];rfl
  go_enter func117,ntmps117
  go_wp2
  go_ret
  exact⟨by rw[F.out];rfl,rfl⟩
 | false=>
  cases h2:decide (4503599627370496<x)with
  | true=>
   have F:Hid (far x=true):=by show _=_;unfold far;rw[h1,h2];rfl
   go_enter func117,ntmps117
   go_wp2
   go_ret
   exact⟨by rw[F.out];rfl,rfl⟩
  | false=>
   have F:Hid (far x=false):=by show _=_;unfold far;rw[h1,h2];rfl
   go_enter func117,ntmps117
   go_wp2
   go_ret
   exact⟨by rw[F.out];rfl,rfl⟩
theorem Fu(p:Option Addr)(n cp:Nat)(f:Nat->Int)(w:World)(hn:n<=65536)(hf:IsI w p n f)(HA:Hid (∀i,i<n->decide (f i<0)=false)):
  Calls prog 126 #[.slice p n cp,.func (.func 116) #[] #[]] w fun e w'=>e=.returned (.int .i64 (-1))/\w'=w:=by
 have HF:=hid hf
 have HN:=hid hn
 clear hf hn
 go_enter func126,ntmps126
 go_wp2
 go_loopw [8] (fun iv wr=> ∃c:Nat,c<=n/\iv=.int .i64 (c:Nat)/\wr=w) (fun iv _=>n - (intOf iv).toNat)
 case atStart=>exact⟨0,by omega,rfl,rfl⟩
 case round=>
  obtain⟨c,hc,rfl,hwr⟩:=hrel
  have hwr2:=hwr.symm
  subst hwr2
  by_cases hcn:c<n
  ·have HC:=hid hcn
   have hcI:(c:Int)<n:=by omega
   have hcB:(c:Int)<=65536:=by have:=HN.out;omega
   obtain⟨b0,o0,rfl⟩:=HF.out.some0 (show 0<n by omega)
   obtain⟨x,hx⟩:=aB (f c)
   have at0:=HF.out.at0 hcn
   have hp:=HA.out c hcn
   rw[hx]at at0 hp
   have xc:=at0.2.2
   have CF:=hid (bel_at x w)
   rw[hp]at CF
   clear at0 hx hcn hc hp
   go_wp2_with fail
   refine CF.out.mono ?_
   rintro e9 v9 ⟨rfl,hv9⟩
   have hv8:=hv9.symm
   subst hv8
   go_wp2
   exact⟨⟨c+1,by have:=HC.out;omega,by simp,by first | trivial | rfl⟩,by have:=HC.out;simp[intOf];omega⟩
  ·have e6:n=c:=by omega
   subst e6
   go_wp2
   go_ret
   exact⟨rfl,by first | trivial | rfl⟩
theorem BI(p:Option Addr)(n cp:Nat)(f:Nat->Int)(w:World)(hn:n<=65536)(hf:IsI w p n f)(HA:Hid (¬ ∀i,i<n->decide (f i<0)=false)):
  Calls prog 126 #[.slice p n cp,.func (.func 116) #[] #[]] w fun e w'=>(∃i:Nat,i<=65536/\e=.returned (.int .i64 (i:Nat)))/\w'=w:=by
 have HF:=hid hf
 have HN:=hid hn
 clear hf hn
 go_enter func126,ntmps126
 go_wp2
 go_loopw [8] (fun iv wr=> ∃c:Nat,c<=n/\iv=.int .i64 (c:Nat)/\(∀i,i<c->decide (f i<0)=false)/\wr=w) (fun iv _=>n - (intOf iv).toNat)
 case atStart=>exact⟨0,by omega,rfl,fun i hi=>absurd hi (Nat.not_lt_zero i),rfl⟩
 case round=>
  obtain⟨c,hc,rfl,g1,hwr⟩:=hrel
  have hwr2:=hwr.symm
  subst hwr2
  have G1:=hid g1
  clear g1
  by_cases hcn:c<n
  ·have HC:=hid hcn
   have hcI:(c:Int)<n:=by omega
   have hcB:(c:Int)<=65536:=by have:=HN.out;omega
   obtain⟨b0,o0,rfl⟩:=HF.out.some0 (show 0<n by omega)
   obtain⟨x,hx⟩:=aB (f c)
   have at0:=HF.out.at0 hcn
   rw[hx]at at0
   have xc:=at0.2.2
   have CF:=hid (bel_at x w)
   have XE:=hid hx
   clear at0 hx hcn hc
   cases hp:decide (x<0)with
   | true=>
    rw[hp]at CF
    have hp2:=hid hp
    clear hp
    go_wp2_with fail
    refine CF.out.mono ?_
    rintro e9 v9 ⟨rfl,hv9⟩
    have hv8:=hv9.symm
    subst hv8
    go_wp2
    go_ret
    exact⟨⟨c,by have:=HC.out;have:=HN.out;omega,rfl⟩,by first | trivial | rfl⟩
   | false=>
    rw[hp]at CF
    have hp2:=hid hp
    clear hp
    go_wp2_with fail
    refine CF.out.mono ?_
    rintro e9 v9 ⟨rfl,hv9⟩
    have hv8:=hv9.symm
    subst hv8
    go_wp2
    refine⟨⟨c+1,by have:=HC.out;omega,by simp,fun i hi=> ?_,by first | trivial | rfl⟩,by have:=HC.out;simp[intOf];omega⟩
    by_cases l:i<c
    ·exact G1.out i l
    ·obtain rfl:i=c:=by omega
     rw[XE.out]
     exact hp2.out
  ·have e6:n=c:=by omega
   subst e6
   exact absurd G1.out HA.out
theorem uQ(p:Option Addr)(n cp:Nat)(f:Nat->Int)(w:World)(hn:n<=65536)(hf:IsI w p n f)(HA: ∀i,i<n->decide (f i<0)=false):
  Calls prog 81 #[.slice p n cp,.func (.func 116) #[] #[]] w fun e w'=>e=.returned (.bool false)/\w'=w:=by
 have IX:=hid (Fu p n cp f w hn hf HA)
 clear hn hf HA
 go_enter func81,ntmps81
 go_wp2_with fail
 refine IX.out.mono ?_
 rintro e9 v9 ⟨rfl,hv9⟩
 have hv8:=hv9.symm
 subst hv8
 go_wp2
 go_ret
 exact⟨rfl,rfl⟩
theorem BJ(p:Option Addr)(n cp:Nat)(f:Nat->Int)(w:World)(hn:n<=65536)(hf:IsI w p n f)(HA: ¬ ∀i,i<n->decide (f i<0)=false):
  Calls prog 81 #[.slice p n cp,.func (.func 116) #[] #[]] w fun e w'=>e=.returned (.bool true)/\w'=w:=by
 have IX:=hid (BI p n cp f w hn hf HA)
 clear hn hf HA
 go_enter func81,ntmps81
 go_wp2_with fail
 refine IX.out.mono ?_
 rintro e9 v9 ⟨⟨i,hi,rfl⟩,hv9⟩
 have hv8:=hv9.symm
 subst hv8
 go_wp2
 go_ret
 exact⟨rfl,rfl⟩
theorem Fv(p:Option Addr)(n cp:Nat)(f:Nat->Int)(w:World)(hn:n<=65536)(hf:IsI w p n f)(HA:Hid (∀i,i<n->far (f i)=false)):
  Calls prog 126 #[.slice p n cp,.func (.func 117) #[] #[]] w fun e w'=>e=.returned (.int .i64 (-1))/\w'=w:=by
 have HF:=hid hf
 have HN:=hid hn
 clear hf hn
 go_enter func126,ntmps126
 go_wp2
 go_loopw [8] (fun iv wr=> ∃c:Nat,c<=n/\iv=.int .i64 (c:Nat)/\wr=w) (fun iv _=>n - (intOf iv).toNat)
 case atStart=>exact⟨0,by omega,rfl,rfl⟩
 case round=>
  obtain⟨c,hc,rfl,hwr⟩:=hrel
  have hwr2:=hwr.symm
  subst hwr2
  by_cases hcn:c<n
  ·have HC:=hid hcn
   have hcI:(c:Int)<n:=by omega
   have hcB:(c:Int)<=65536:=by have:=HN.out;omega
   obtain⟨b0,o0,rfl⟩:=HF.out.some0 (show 0<n by omega)
   obtain⟨x,hx⟩:=aB (f c)
   have at0:=HF.out.at0 hcn
   have hp:=HA.out c hcn
   rw[hx]at at0 hp
   have xc:=at0.2.2
   have CF:=hid (far_at x w)
   rw[hp]at CF
   clear at0 hx hcn hc hp
   go_wp2_with fail
   refine CF.out.mono ?_
   rintro e9 v9 ⟨rfl,hv9⟩
   have hv8:=hv9.symm
   subst hv8
   go_wp2
   exact⟨⟨c+1,by have:=HC.out;omega,by simp,by first | trivial | rfl⟩,by have:=HC.out;simp[intOf];omega⟩
  ·have e6:n=c:=by omega
   subst e6
   go_wp2
   go_ret
   exact⟨rfl,by first | trivial | rfl⟩
theorem BK(p:Option Addr)(n cp:Nat)(f:Nat->Int)(w:World)(hn:n<=65536)(hf:IsI w p n f)(HA:Hid (¬ ∀i,i<n->far (f i)=false)):
  Calls prog 126 #[.slice p n cp,.func (.func 117) #[] #[]] w fun e w'=>(∃i:Nat,i<=65536/\e=.returned (.int .i64 (i:Nat)))/\w'=w:=by
 have HF:=hid hf
 have HN:=hid hn
 clear hf hn
 go_enter func126,ntmps126
 go_wp2
 go_loopw [8] (fun iv wr=> ∃c:Nat,c<=n/\iv=.int .i64 (c:Nat)/\(∀i,i<c->far (f i)=false)/\wr=w) (fun iv _=>n - (intOf iv).toNat)
 case atStart=>exact⟨0,by omega,rfl,fun i hi=>absurd hi (Nat.not_lt_zero i),rfl⟩
 case round=>
  obtain⟨c,hc,rfl,g1,hwr⟩:=hrel
  have hwr2:=hwr.symm
  subst hwr2
  have G1:=hid g1
  clear g1
  by_cases hcn:c<n
  ·have HC:=hid hcn
   have hcI:(c:Int)<n:=by omega
   have hcB:(c:Int)<=65536:=by have:=HN.out;omega
   obtain⟨b0,o0,rfl⟩:=HF.out.some0 (show 0<n by omega)
   obtain⟨x,hx⟩:=aB (f c)
   have at0:=HF.out.at0 hcn
   rw[hx]at at0
   have xc:=at0.2.2
   have CF:=hid (far_at x w)
   have XE:=hid hx
   clear at0 hx hcn hc
   cases hp:far (x)with
   | true=>
    rw[hp]at CF
    have hp2:=hid hp
    clear hp
    go_wp2_with fail
    refine CF.out.mono ?_
    rintro e9 v9 ⟨rfl,hv9⟩
    have hv8:=hv9.symm
    subst hv8
    go_wp2
    go_ret
    exact⟨⟨c,by have:=HC.out;have:=HN.out;omega,rfl⟩,by first | trivial | rfl⟩
   | false=>
    rw[hp]at CF
    have hp2:=hid hp
    clear hp
    go_wp2_with fail
    refine CF.out.mono ?_
    rintro e9 v9 ⟨rfl,hv9⟩
    have hv8:=hv9.symm
    subst hv8
    go_wp2
    refine⟨⟨c+1,by have:=HC.out;omega,by simp,fun i hi=> ?_,by first | trivial | rfl⟩,by have:=HC.out;simp[intOf];omega⟩
    by_cases l:i<c
    ·exact G1.out i l
    ·obtain rfl:i=c:=by omega
     rw[XE.out]
     exact hp2.out
  ·have e6:n=c:=by omega
   subst e6
   exact absurd G1.out HA.out
theorem Fw(p:Option Addr)(n cp:Nat)(f:Nat->Int)(w:World)(hn:n<=65536)(hf:IsI w p n f)(HA: ∀i,i<n->far (f i)=false):
  Calls prog 81 #[.slice p n cp,.func (.func 117) #[] #[]] w fun e w'=>e=.returned (.bool false)/\w'=w:=by
 have IX:=hid (Fv p n cp f w hn hf HA)
 clear hn hf HA
 go_enter func81,ntmps81
 go_wp2_with fail
 refine IX.out.mono ?_
 rintro e9 v9 ⟨rfl,hv9⟩
 have hv8:=hv9.symm
 subst hv8
 go_wp2
 go_ret
 exact⟨rfl,rfl⟩
theorem BM(p:Option Addr)(n cp:Nat)(f:Nat->Int)(w:World)(hn:n<=65536)(hf:IsI w p n f)(HA: ¬ ∀i,i<n->far (f i)=false):
  Calls prog 81 #[.slice p n cp,.func (.func 117) #[] #[]] w fun e w'=>e=.returned (.bool true)/\w'=w:=by
 have IX:=hid (BK p n cp f w hn hf HA)
 clear hn hf HA
 go_enter func81,ntmps81
 go_wp2_with fail
 refine IX.out.mono ?_
 rintro e9 v9 ⟨⟨i,hi,rfl⟩,hv9⟩
 have hv8:=hv9.symm
 subst hv8
 go_wp2
 go_ret
 exact⟨rfl,rfl⟩
end Sh
end
section
open Go.RowKit
namespace Sh
theorem dR{k:IntKind}{a b:Int}(h:a=b):Ending.returned (.int k a)=.returned (.int k b):=by rw[h]
theorem pow_pos(k:Nat):0<2 ^ k:=Nat.two_pow_pos k
theorem zL(z:Int)(h0:0<=z)(h1:z<18446744073709551616):bits .and .u64 z 4294967295=z%4294967296:=by go_bits2
theorem mul64_go(x y x0 x1 y0 y1 a b c d t w1 l:Int)(w:World)(_hx:0<=x)(_hx1:x<18446744073709551616)(_hy:0<=y)(_hy1:y<18446744073709551616)
  (e1:bits .and .u64 x 4294967295=x0) (e2:x/4294967296=x1) (e3:bits .and .u64 y 4294967295=y0) (e4:y/4294967296=y1)
  (ma:IntKind.u64.wrap (x0*y0)=a) (mb:IntKind.u64.wrap (x1*y0)=b) (mc:IntKind.u64.wrap (x0*y1)=c) (md:IntKind.u64.wrap (x1*y1)=d) (ml:IntKind.u64.wrap (x*y)=l)
  (a0:0<=a) (a1:a<=18446744065119617025) (b0:0<=b) (b1:b<=18446744065119617025) (c0:0<=c) (c1:c<=18446744065119617025) (d0:0<=d) (d1:d<=18446744065119617025)
  (ht:b+a/4294967296=t) (t0:0<=t) (t1:t<18446744073709551616) (hw:bits .and .u64 t 4294967295=w1) (w0:0<=w1) (w2:w1<4294967296) (hr:d+t/4294967296+(w1+c)/4294967296<18446744073709551616):
  Calls prog 135 #[.int .u64 x,.int .u64 y] w fun r w'=>r=.returned (.tuple #[.int .u64 (d+t/4294967296+(w1+c)/4294967296),.int .u64 l])/\w'=w:=by
 go_enter func135,ntmps135
 go_wp2
 go_ret2
 exact⟨rfl,rfl⟩
theorem uR(v:Int):IntKind.u64.wrap v=v%18446744073709551616:=by
 simp[IntKind.wrap,IntKind.bits,IntKind.signed]
theorem qH(a b:Int)(ha:0<=a)(ha1:a<=4294967295)(hb:0<=b)(hb1:b<=4294967295):0<=a*b/\a*b<=18446744065119617025:=by
 refine⟨Int.mul_nonneg ha hb,?_⟩
 exact Int.le_trans (Int.mul_le_mul ha1 hb1 hb (by decide)) (by decide)
theorem mul64_at(x y:Int)(w:World)(hx:0<=x)(hx1:x<18446744073709551616)(hy:0<=y)(hy1:y<18446744073709551616):
  Calls prog 135 #[.int .u64 x,.int .u64 y] w fun r w'=>r=.returned (.tuple #[.int .u64 (x*y/18446744073709551616),.int .u64 (x*y%18446744073709551616)])/\w'=w:=by
 obtain⟨a0,a1⟩:=qH (x%4294967296) (y%4294967296) (by omega) (by omega) (by omega) (by omega)
 obtain⟨b0,b1⟩:=qH (x/4294967296) (y%4294967296) (by omega) (by omega) (by omega) (by omega)
 obtain⟨c0,c1⟩:=qH (x%4294967296) (y/4294967296) (by omega) (by omega) (by omega) (by omega)
 obtain⟨d0,d1⟩:=qH (x/4294967296) (y/4294967296) (by omega) (by omega) (by omega) (by omega)
 have hxy:x*y=x%4294967296*(y%4294967296)+(x/4294967296*(y%4294967296)+x%4294967296*(y/4294967296))*4294967296+x/4294967296*(y/4294967296)*18446744073709551616:=by
  have ex:x=x%4294967296+x/4294967296*4294967296:=by omega
  have ey:y=y%4294967296+y/4294967296*4294967296:=by omega
  generalize x%4294967296=p at*
  generalize x/4294967296=q at*
  generalize y%4294967296=r at*
  generalize y/4294967296=s at*
  subst ex ey
  rw[Int.add_mul,Int.mul_add,Int.mul_add]
  have z1:p*(s*4294967296)=p*s*4294967296:=by rw[Int.mul_assoc]
  have z2:q*4294967296*r=q*r*4294967296:=by rw[Int.mul_assoc,Int.mul_comm 4294967296,<- Int.mul_assoc]
  have z3:q*4294967296*(s*4294967296)=q*s*18446744073709551616:=by
   rw[Int.mul_assoc,Int.mul_left_comm 4294967296,<- Int.mul_assoc];rfl
  rw[z1,z2,z3]
  generalize p*r=A
  generalize p*s=B
  generalize q*r=C
  generalize q*s=D
  omega
 have w1:=zL (x/4294967296*(y%4294967296)+x%4294967296*(y%4294967296)/4294967296)
 have ma:=uR (x%4294967296*(y%4294967296))
 have mb:=uR (x/4294967296*(y%4294967296))
 have mc:=uR (x%4294967296*(y/4294967296))
 have md:=uR (x/4294967296*(y/4294967296))
 have e1:=zL x hx hx1
 have e3:=zL y hy hy1
 have h:=mul64_go x y (x%4294967296) (x/4294967296) (y%4294967296) (y/4294967296)
 generalize x%4294967296*(y%4294967296)=a at*
 generalize x/4294967296*(y%4294967296)=b at*
 generalize x%4294967296*(y/4294967296)=c at*
 generalize x/4294967296*(y/4294967296)=d at*
 have w1':=w1 (by omega) (by omega)
 have h2:=h a b c d _ _ _ w hx hx1 hy hy1 e1 rfl e3 rfl (by rw[ma];omega) (by rw[mb];omega) (by rw[mc];omega) (by rw[md];omega) (uR _) a0 a1 b0 b1 c0 c1 d0 d1 rfl (by omega) (by omega) w1' (by omega) (by omega) (by omega)
 have e:d+(b+a/4294967296)/4294967296+((b+a/4294967296)%4294967296+c)/4294967296=x*y/18446744073709551616:=by
  rw[hxy];omega
 rw[e]at h2
 exact h2
theorem kJ{n k:Nat}(h:2 ^ k<=n)(h':n<2 ^ (k+1)):n.log2=k:=by
 have:n≠0:=by have:=pow_pos k;omega
 exact(Nat.log2_eq_iff this).2 ⟨h,h'⟩
theorem kH(b:ByteArray)(i:Nat)(h:i<b.size):b[i]'h=(b[i]?).getD 0:=by simp[h]
def len8(n:Nat):Int:=if n=0 then 0 else((n.log2+1:Nat):Int)
theorem len_0(x:Int)(w:World)(h0:0<=x)(h1:x<18446744073709551616)(t32:x<4294967296)(t16:x<65536)(t8:x<256):Calls prog 188 #[.int .u64 x] w fun e w'=>e=.returned (.int .i64 (0+len8 x.toNat))/\w'=w:=by
 go_enter func188,ntmps188
 go_wp2
 go_ret
 refine⟨dR ?_,rfl⟩
 have hl:x.toNat<256:=by omega
 rw[kH]
 generalize hn:x.toNat=n at hl ⊢
 clear hn
 revert n
 decide+kernel
theorem len_8(x y0:Int)(w:World)(h0:0<=x)(h1:x<18446744073709551616)(t32:x<4294967296)(t16:x<65536)(t8:256<=x)(e8:x/256=y0)(p8:0<=y0)(fl:y0<256):Calls prog 188 #[.int .u64 x] w fun e w'=>e=.returned (.int .i64 (8+len8 y0.toNat))/\w'=w:=by
 go_enter func188,ntmps188
 go_wp2
 go_ret
 refine⟨dR ?_,rfl⟩
 have hl:y0.toNat<256:=by omega
 rw[kH]
 generalize hn:y0.toNat=n at hl ⊢
 clear hn
 revert n
 decide+kernel
theorem len_16(x y0:Int)(w:World)(h0:0<=x)(h1:x<18446744073709551616)(t32:x<4294967296)(t16:65536<=x)(e16:x/65536=y0)(p16:0<=y0)(t8:y0<256)(_fl:y0<256):Calls prog 188 #[.int .u64 x] w fun e w'=>e=.returned (.int .i64 (16+len8 y0.toNat))/\w'=w:=by
 go_enter func188,ntmps188
 go_wp2
 go_ret
 refine⟨dR ?_,rfl⟩
 have hl:y0.toNat<256:=by omega
 rw[kH]
 generalize hn:y0.toNat=n at hl ⊢
 clear hn
 revert n
 decide+kernel
theorem len_24(x y0 y1:Int)(w:World)(h0:0<=x)(h1:x<18446744073709551616)(t32:x<4294967296)(t16:65536<=x)(e16:x/65536=y0)(_p16:0<=y0)(t8:256<=y0)(e8:y0/256=y1)(p8:0<=y1)(fl:y1<256):Calls prog 188 #[.int .u64 x] w fun e w'=>e=.returned (.int .i64 (24+len8 y1.toNat))/\w'=w:=by
 go_enter func188,ntmps188
 go_wp2
 go_ret
 refine⟨dR ?_,rfl⟩
 have hl:y1.toNat<256:=by omega
 rw[kH]
 generalize hn:y1.toNat=n at hl ⊢
 clear hn
 revert n
 decide+kernel
theorem len_32(x y0:Int)(w:World)(_h0:0<=x)(_h1:x<18446744073709551616)(t32:4294967296<=x)(e32:x/4294967296=y0)(p32:0<=y0)(t16:y0<65536)(t8:y0<256)(_fl:y0<256):Calls prog 188 #[.int .u64 x] w fun e w'=>e=.returned (.int .i64 (32+len8 y0.toNat))/\w'=w:=by
 go_enter func188,ntmps188
 go_wp2
 go_ret
 refine⟨dR ?_,rfl⟩
 have hl:y0.toNat<256:=by omega
 rw[kH]
 generalize hn:y0.toNat=n at hl ⊢
 clear hn
 revert n
 decide+kernel
theorem len_40(x y0 y1:Int)(w:World)(_h0:0<=x)(_h1:x<18446744073709551616)(t32:4294967296<=x)(e32:x/4294967296=y0)(p32:0<=y0)(t16:y0<65536)(t8:256<=y0)(e8:y0/256=y1)(p8:0<=y1)(fl:y1<256):Calls prog 188 #[.int .u64 x] w fun e w'=>e=.returned (.int .i64 (40+len8 y1.toNat))/\w'=w:=by
 go_enter func188,ntmps188
 go_wp2
 go_ret
 refine⟨dR ?_,rfl⟩
 have hl:y1.toNat<256:=by omega
 rw[kH]
 generalize hn:y1.toNat=n at hl ⊢
 clear hn
 revert n
 decide+kernel
theorem len_48(x y0 y1:Int)(w:World)(_h0:0<=x)(_h1:x<18446744073709551616)(t32:4294967296<=x)(e32:x/4294967296=y0)(_p32:0<=y0)(t16:65536<=y0)(e16:y0/65536=y1)(p16:0<=y1)(t8:y1<256)(_fl:y1<256):Calls prog 188 #[.int .u64 x] w fun e w'=>e=.returned (.int .i64 (48+len8 y1.toNat))/\w'=w:=by
 go_enter func188,ntmps188
 go_wp2
 go_ret
 refine⟨dR ?_,rfl⟩
 have hl:y1.toNat<256:=by omega
 rw[kH]
 generalize hn:y1.toNat=n at hl ⊢
 clear hn
 revert n
 decide+kernel
theorem len_56(x y0 y1 y2:Int)(w:World)(_h0:0<=x)(_h1:x<18446744073709551616)(t32:4294967296<=x)(e32:x/4294967296=y0)(_p32:0<=y0)(t16:65536<=y0)(e16:y0/65536=y1)(_p16:0<=y1)(t8:256<=y1)(e8:y1/256=y2)(p8:0<=y2)(fl:y2<256):Calls prog 188 #[.int .u64 x] w fun e w'=>e=.returned (.int .i64 (56+len8 y2.toNat))/\w'=w:=by
 go_enter func188,ntmps188
 go_wp2
 go_ret
 refine⟨dR ?_,rfl⟩
 have hl:y2.toNat<256:=by omega
 rw[kH]
 generalize hn:y2.toNat=n at hl ⊢
 clear hn
 revert n
 decide+kernel
theorem BO(n s:Nat)(h:0<n/2 ^ s):n.log2=(n/2 ^ s).log2+s:=by
 have hy:n/2 ^ s≠0:=by omega
 have h1:=Nat.log2_self_le hy
 have h2:=Nat.lt_log2_self (n:=n/2 ^ s)
 apply kJ
 ·rw[Nat.pow_add]
  exact Nat.le_trans (Nat.mul_le_mul_right _ h1) (Nat.div_mul_le_self n (2 ^ s))
 ·have:n<(n/2 ^ s+1)*2 ^ s:=by
   have:=Nat.lt_mul_div_succ n (pow_pos s)
   rw[Nat.mul_comm]at this;exact this
  refine Nat.lt_of_lt_of_le this ?_
  have e:(n/2 ^ s).log2+s+1=((n/2 ^ s).log2+1)+s:=by omega
  rw[e,Nat.pow_add]
  exact Nat.mul_le_mul_right _ h2
theorem fY(n s:Nat)(h:0<n/2 ^ s):(s:Int)+len8 (n/2 ^ s)=((n.log2+1:Nat):Int):=by
 have:=BO n s h
 unfold len8
 rw[if_neg (by omega)];omega
theorem len64_at(x:Nat)(w:World)(h0:0<x)(h1:x<18446744073709551616):
  Calls prog 188 #[.int .u64 (x:Int)] w fun e w'=>e=.returned (.int .i64 ((x.log2+1:Nat):Int))/\w'=w:=by
 by_cases a:x<4294967296
 ·by_cases b:x<65536
  ·by_cases c:x<256
   ·have h:=len_0 (x:Int) w (by omega) (by omega) (by omega) (by omega) (by omega)
    have e:=fY x 0 (by rw[Nat.pow_zero,Nat.div_one];exact h0)
    rw[Nat.pow_zero,Nat.div_one]at e
    rw[Int.toNat_natCast]at h
    rw[<- e];exact h
   ·have h:=len_8 (x:Int) _ w (by omega) (by omega) (by omega) (by omega) (by omega) rfl (by omega) (by omega)
    have e:=fY x 8 (by omega)
    rw[show((x:Int)/256).toNat=x/2 ^ 8 by omega]at h
    rw[<- e];exact h
  ·by_cases c:x/65536<256
   ·have h:=len_16 (x:Int) _ w (by omega) (by omega) (by omega) (by omega) rfl (by omega) (by omega) (by omega)
    have e:=fY x 16 (by omega)
    rw[show((x:Int)/65536).toNat=x/2 ^ 16 by omega]at h
    rw[<- e];exact h
   ·have h:=len_24 (x:Int) _ _ w (by omega) (by omega) (by omega) (by omega) rfl (by omega) (by omega) rfl (by omega) (by omega)
    have e:=fY x 24 (by omega)
    rw[show((x:Int)/65536/256).toNat=x/2 ^ 24 by omega]at h
    rw[<- e];exact h
 ·by_cases b:x/4294967296<65536
  ·by_cases c:x/4294967296<256
   ·have h:=len_32 (x:Int) _ w (by omega) (by omega) (by omega) rfl (by omega) (by omega) (by omega) (by omega)
    have e:=fY x 32 (by omega)
    rw[show((x:Int)/4294967296).toNat=x/2 ^ 32 by omega]at h
    rw[<- e];exact h
   ·have h:=len_40 (x:Int) _ _ w (by omega) (by omega) (by omega) rfl (by omega) (by omega) (by omega) rfl (by omega) (by omega)
    have e:=fY x 40 (by omega)
    rw[show((x:Int)/4294967296/256).toNat=x/2 ^ 40 by omega]at h
    rw[<- e];exact h
  ·by_cases c:x/4294967296/65536<256
   ·have h:=len_48 (x:Int) _ _ w (by omega) (by omega) (by omega) rfl (by omega) (by omega) rfl (by omega) (by omega) (by omega)
    have e:=fY x 48 (by omega)
    rw[show((x:Int)/4294967296/65536).toNat=x/2 ^ 48 by omega]at h
    rw[<- e];exact h
   ·have h:=len_56 (x:Int) _ _ _ w (by omega) (by omega) (by omega) rfl (by omega) (by omega) rfl (by omega) (by omega) rfl (by omega) (by omega)
    have e:=fY x 56 (by omega)
    rw[show((x:Int)/4294967296/65536/256).toNat=x/2 ^ 56 by omega]at h
    rw[<- e];exact h
theorem dG(k:Nat):((2:Int) ^ k)=((2 ^ k:Nat):Int):=by rw[Int.natCast_pow];rfl
theorem or_add(a b s:Nat)(hb:b<2 ^ s)(h:a*2 ^ s+b<18446744073709551616):bits .or .u64 ((a*2 ^ s:Nat):Int) (b:Int)=((a*2 ^ s+b:Nat):Int):=by
 show IntKind.u64.wrap ((BitVec.ofInt 64 ((a*2 ^ s:Nat):Int) ||| BitVec.ofInt 64 (b:Int)).toNat:Int)=_
 rw[BitVec.toNat_or,ofInt_u64 _ (by omega),ofInt_u64 _ (by omega)]
 have:=Nat.shiftLeft_add_eq_or_of_lt hb a
 rw[Nat.shiftLeft_eq]at this
 rw[<- this,uR]
 omega
theorem lead_go(x n:Int)(w:World)(L:Hid (Calls prog 188 #[.int .u64 x] w fun e w'=>e=.returned (.int .i64 n)/\w'=w))(h0:0<=n)(h1:n<=64):Calls prog 161 #[.int .u64 x] w fun e w'=>e=.returned (.int .i64 (64 - n))/\w'=w:=by
 go_enter func161,ntmps161
 go_wp2_with fail
 refine L.out.mono ?_
 rintro e9 v ⟨rfl,hv⟩
 have hv2:=hv.symm
 subst hv2
 go_wp2
 go_ret
 exact⟨rfl,rfl⟩
theorem lead_at(x:Nat)(w:World)(h0:0<x)(h1:x<18446744073709551616):Calls prog 161 #[.int .u64 (x:Int)] w fun e w'=>e=.returned (.int .i64 (64 - ((x.log2+1:Nat):Int)))/\w'=w:=by
 have l:x.log2<64:=(Nat.log2_lt (by omega)).2 h1
 exact lead_go _ _ w (len64_at x w h0 h1) (by omega) (by omega)
end Sh
end
namespace Sh
def DI(y yn1 u32 U q rh:Int):Prop:=q*yn1+rh=u32/\U/y<=q/\0<=rh/\0<=q
section
variable {y yn1 yn0 u32 u1 U q rh:Int}
theorem DI.start(hy:y=yn1*4294967296+yn0)(h0:0<=yn0)(h1:0<yn1)(hu:U=u32*4294967296+u1)(hu1:0<=u1/\u1<4294967296)(hu0:0<=u32):DI y yn1 u32 U (u32/yn1) (u32 - u32/yn1*yn1):=by
 have d:=mQ (a:=u32) h1
 rw[Int.mul_comm]at d
 have q0:0<=u32/yn1:=Int.ediv_nonneg hu0 (by omega)
 refine⟨by omega,?_,by omega,q0⟩
 generalize u32/yn1=k at*
 have hy0:0<y:=by omega
 refine Int.le_of_lt_add_one (Int.ediv_lt_of_lt_mul hy0 ?_)
 have e1:(k+1)*y=(k*yn1+yn1)*4294967296+(k+1)*yn0:=by
  rw[hy,Int.mul_add,<- Int.mul_assoc,Int.add_mul k 1 yn1,Int.one_mul]
 have e2:0<=(k+1)*yn0:=Int.mul_nonneg (by omega) h0
 rw[e1]
 have e3:u32+1<=k*yn1+yn1:=by omega
 omega
theorem DI.test(hy:y=yn1*4294967296+yn0)(hu:U=u32*4294967296+u1)(h:DI y yn1 u32 U q rh):(4294967296*rh+u1<q*yn0 ↔ U<q*y):=by
 have e:q*y=q*yn1*4294967296+q*yn0:=by rw[hy,Int.mul_add,<- Int.mul_assoc]
 have h1:=h.1
 rw[e,hu]
 constructor<;>intro k<;>omega
theorem DI.small(hy0:0<y)(hu:U=u32*4294967296+u1)(hu1:0<=u1/\u1<4294967296)(hl:u32<y):U/y<4294967296:=by
 refine Int.ediv_lt_of_lt_mul hy0 ?_
 omega
theorem DI.next(hy:y=yn1*4294967296+yn0)(hy0:0<y)(hu:U=u32*4294967296+u1)(hu1:0<=u1/\u1<4294967296)(hl:u32<y)(hU:0<=U)(h1:0<yn1)(h:DI y yn1 u32 U q rh)(c:4294967296<=q\/4294967296*rh+u1<q*yn0):DI y yn1 u32 U (q - 1) (rh+yn1):=by
 have lt:U/y<q:=by
  rcases c with c | c
  ·have:=DI.small hy0 hu hu1 hl;omega
  ·have k:=(DI.test hy hu h).1 c
   exact Int.ediv_lt_of_lt_mul hy0 k
 have p:=Int.ediv_nonneg hU (show 0<=y by omega)
 obtain⟨a,b,r,s⟩:=h
 refine⟨?_,by omega,by omega,by omega⟩
 rw[Int.sub_mul,Int.one_mul]
 omega
theorem DI.done(hy:y=yn1*4294967296+yn0)(hy0:0<y)(hu:U=u32*4294967296+u1)(h:DI y yn1 u32 U q rh)(c: ¬4294967296*rh+u1<q*yn0):q=U/y:=by
 have k:q*y<=U:=by
  have:=(DI.test hy hu h)
  rcases Int.lt_or_le U (q*y)with l | l
  ·exact absurd (this.2 l) c
  ·exact l
 have g:=h.2.1
 have l:=(Int.le_ediv_iff_mul_le hy0).2 k
 omega
theorem DI.great(hy:y=yn1*4294967296+yn0)(h0:0<=yn0/\yn0<4294967296)(h1:0<yn1)(hu1:0<=u1)(hl:u32<y)(h:DI y yn1 u32 U q rh)(g:4294967296<=rh):q<4294967296/\ ¬4294967296*rh+u1<q*yn0:=by
 obtain⟨a,b,r,s⟩:=h
 have lq:q<4294967296:=by
  have k:yn1*q<yn1*4294967296:=by
   have:yn1*q=q*yn1:=Int.mul_comm _ _
   omega
  exact Int.lt_of_mul_lt_mul_left k (by omega)
 refine⟨lq,fun c=> ?_⟩
 have m:q*yn0<=4294967295*4294967295:=Int.mul_le_mul (by omega) (by omega) h0.1 (by omega)
 have e:(4294967295:Int)*4294967295=18446744065119617025:=by decide
 omega
end
end Sh
section
open Go.RowKit
namespace Sh
theorem zM(lo y:Int)(w:World)(hy:0<y)(hy2:y<18446744073709551616)(hl:0<=lo)(hl2:lo<18446744073709551616):
  Calls prog 136 #[.int .u64 0,.int .u64 lo,.int .u64 y] w fun e w'=>(∃r,e=.returned (.tuple #[.int .u64 (lo/y),.int .u64 r]))/\w'=w.drew:=by
 have h0:(y==0)=false:=by simp;omega
 have h1:decide (y<=0)=false:=decide_eq_false (by omega)
 go_enter func136,ntmps136
 go_wp2
 go_region
 go_wp2
 go_ret2
 exact⟨⟨_,rfl⟩,rfl⟩
theorem div_go(hi lo y s Y a1 a0 u32 u10 u1 u0 U Q1 qa ra n21 V Q0 qb rb R:Int)(w:World)(h0:0<hi)(hy:hi<y)(_hy2:y<9223372036854775808)(_hl:0<=lo)(_hl2:lo<18446744073709551616)
  (LZ:Hid (∀v,Calls prog 161 #[.int .u64 y] v fun e w'=>e=.returned (.int .i64 s)/\w'=v))
  (s0:0<s) (s1:s<64)
  (eY:IntKind.u64.wrap (y*2 ^ s.toNat)=Y) (_Y0:0<=Y) (_Y1:Y<18446744073709551616) (e1:Y/4294967296=a1) (e0:bits .and .u64 Y 4294967295=a0)
  (eu:bits .or .u64 (IntKind.u64.wrap (hi*2 ^ s.toNat)) (lo/2 ^ (64 - s).toNat)=u32)
  (el:IntKind.u64.wrap (lo*2 ^ s.toNat)=u10) (_l0:0<=u10) (_l1:u10<18446744073709551616) (f1:u10/4294967296=u1) (f0:bits .and .u64 u10 4294967295=u0) (a1p:0<a1) (a1q:a1<4294967296) (a0p:0<=a0) (a0q:a0<4294967296) (u32p:0<=u32) (u32q:u32<18446744073709551616) (u1p:0<=u1) (u1q:u1<4294967296) (u0p:0<=u0) (u0q:u0<4294967296)
  (eqa:u32/a1=qa) (era:IntKind.u64.wrap (u32 - IntKind.u64.wrap (qa*a1))=ra) (qap:0<=qa) (qaq:qa<18446744073709551616) (_rap:0<=ra) (raq:ra<4294967296)
  (HY:Hid (Y=a1*4294967296+a0)) (HY0:Hid (0<Y)) (HAU:Hid (U=u32*4294967296+u1)) (HA0:Hid (0<=U)) (HAL:Hid (u32<Y)) (HAQ:Hid (U/Y=Q1)) (HAS:Hid (DI Y a1 u32 U qa ra))
  (en:IntKind.u64.wrap (IntKind.u64.wrap (IntKind.u64.wrap (u32*4294967296)+u1) - IntKind.u64.wrap (Q1*Y))=n21) (np:0<=n21) (nq:n21<18446744073709551616) (Q1p:0<=Q1) (Q1q:Q1<4294967296)
  (eqb:n21/a1=qb) (erb:IntKind.u64.wrap (n21 - IntKind.u64.wrap (qb*a1))=rb) (_qbp:0<=qb) (qbq:qb<18446744073709551616) (_rbp:0<=rb) (rbq:rb<4294967296)
  (HBU:Hid (V=n21*4294967296+u0)) (HB0:Hid (0<=V)) (HBL:Hid (n21<Y)) (HBQ:Hid (V/Y=Q0)) (HBS:Hid (DI Y a1 n21 V qb rb)) (Q0p:0<=Q0) (Q0q:Q0<4294967296) (RE:Hid (Q1*4294967296+Q0=R)):
  Calls prog 136 #[.int .u64 hi,.int .u64 lo,.int .u64 y] w fun e w'=>(∃r,e=.returned (.tuple #[.int .u64 R,.int .u64 r]))/\w'=w:=by
 have g0:(y==0)=false:=by simp;omega
 have g1:decide (y<=hi)=false:=decide_eq_false (by omega)
 have g2:(hi==0)=false:=by simp;omega
 go_enter func136,ntmps136
 go_wp2_with fail
 refine(LZ.out _).mono ?_
 rintro e9 v ⟨rfl,hv⟩
 have hv2:=hv.symm
 subst hv2
 go_wp2
 clear g0 g1 g2 LZ eY eu el
 go_loopw [15,16] (fun qv rv w8=> ∃(q r:Int),qv=.int .u64 q/\rv=.int .u64 r/\DI Y a1 u32 U q r/\r<4294967296/\q<18446744073709551616/\w8=w) (fun qv _ _=>(intOf qv).toNat)
 case atStart=>exact⟨_,_,rfl,rfl,by first | exact HAS.out | (rw[eqa];exact HAS.out),by omega,by omega,rfl⟩
 case round=>
  obtain⟨q,r,rfl,rfl,iv,rbd,qbd,hw8⟩:=hrel
  have hw9:=hw8.symm
  subst hw9
  have q0:=iv.2.2.2
  have r0:=iv.2.2.1
  have IV:=hid iv
  clear iv
  by_cases c1:4294967296<=q
  ·have d1:decide (4294967296<=q)=true:=decide_eq_true c1
   have CC:Hid (4294967296<=q\/4294967296*r+u1<q*a0):=Or.inl c1
   have NX:=hid (DI.next HY.out HY0.out HAU.out ⟨by omega,by omega⟩ HAL.out HA0.out a1p IV.out CC.out)
   have q1:1<=q:=by have:=NX.out.2.2.2;omega
   clear CC
   by_cases b:4294967296<=r+a1
   ·have d3:decide (4294967296<=r+a1)=true:=decide_eq_true b
    have GR:=hid (DI.great (u1:=u1) HY.out ⟨by omega,by omega⟩ a1p (by omega) HAL.out NX.out b)
    have qe:q - 1=Q1:=(DI.done HY.out HY0.out HAU.out NX.out GR.out.2).trans HAQ.out
    clear IV NX GR
    go_wp2
    go_loopw [16,18] (fun rv qv w8=> ∃(q r:Int),qv=.int .u64 q/\rv=.int .u64 r/\DI Y a1 n21 V q r/\r<4294967296/\q<18446744073709551616/\w8=w) (fun _ qv _=>(intOf qv).toNat)
    case atStart=>exact⟨_,_,rfl,rfl,by first | exact HBS.out | (rw[eqb];exact HBS.out),by omega,by omega,rfl⟩
    case round=>
     obtain⟨q,r,rfl,rfl,iv,rbd,qbd,hw8⟩:=hrel
     have hw9:=hw8.symm
     subst hw9
     have q0:=iv.2.2.2
     have r0:=iv.2.2.1
     have IV:=hid iv
     clear iv
     by_cases c1:4294967296<=q
     ·have d1:decide (4294967296<=q)=true:=decide_eq_true c1
      have CC:Hid (4294967296<=q\/4294967296*r+u0<q*a0):=Or.inl c1
      have NX:=hid (DI.next HY.out HY0.out HBU.out ⟨by omega,by omega⟩ HBL.out HB0.out a1p IV.out CC.out)
      have q1:1<=q:=by have:=NX.out.2.2.2;omega
      clear CC
      by_cases b:4294967296<=r+a1
      ·have d3:decide (4294967296<=r+a1)=true:=decide_eq_true b
       have GR:=hid (DI.great (u1:=u0) HY.out ⟨by omega,by omega⟩ a1p (by omega) HBL.out NX.out b)
       have qe:q - 1=Q0:=(DI.done HY.out HY0.out HBU.out NX.out GR.out.2).trans HBQ.out
       clear IV NX GR
       go_wp2
       go_ret2
       exact⟨⟨_,by rw[<- RE.out];rfl⟩,by first | trivial | rfl⟩
      ·have d3:decide (4294967296<=r+a1)=false:=decide_eq_false b
       go_wp2
       exact⟨⟨_,_,rfl,rfl,NX.out,by omega,by omega,by first | trivial | rfl⟩,by simp[intOf]<;>omega⟩
     ·have d1:decide (4294967296<=q)=false:=decide_eq_false c1
      have pb:=rW (a:=q) (b:=a0) (m:=4294967295) (by omega) (by omega) (by omega) (by omega)
      obtain⟨p,hp⟩:=aB (q*a0)
      have PE:=hid hp
      rw[hp]at pb
      have p0:=pb.1
      have p1:p<=18446744065119617025:=Int.le_trans pb.2 (by decide)
      clear pb
      by_cases c2:4294967296*r+u0<p
      ·have d2:decide (4294967296*r+u0<p)=true:=decide_eq_true c2
       have CC:Hid (4294967296<=q\/4294967296*r+u0<q*a0):=Or.inr (by rw[PE.out];exact c2)
       have NX:=hid (DI.next HY.out HY0.out HBU.out ⟨by omega,by omega⟩ HBL.out HB0.out a1p IV.out CC.out)
       have q1:1<=q:=by have:=NX.out.2.2.2;omega
       clear CC
       by_cases b:4294967296<=r+a1
       ·have d3:decide (4294967296<=r+a1)=true:=decide_eq_true b
        have GR:=hid (DI.great (u1:=u0) HY.out ⟨by omega,by omega⟩ a1p (by omega) HBL.out NX.out b)
        have qe:q - 1=Q0:=(DI.done HY.out HY0.out HBU.out NX.out GR.out.2).trans HBQ.out
        clear IV NX GR
        go_wp2
        go_ret2
        exact⟨⟨_,by rw[<- RE.out];rfl⟩,by first | trivial | rfl⟩
       ·have d3:decide (4294967296<=r+a1)=false:=decide_eq_false b
        go_wp2
        exact⟨⟨_,_,rfl,rfl,NX.out,by omega,by omega,by first | trivial | rfl⟩,by simp[intOf]<;>omega⟩
      ·have d2:decide (4294967296*r+u0<p)=false:=decide_eq_false c2
       have qe:q=Q0:=(DI.done HY.out HY0.out HBU.out IV.out (by rw[PE.out];exact c2)).trans HBQ.out
       clear IV
       subst qe
       go_wp2
       go_ret2
       exact⟨⟨_,by rw[<- RE.out];rfl⟩,by first | trivial | rfl⟩
   ·have d3:decide (4294967296<=r+a1)=false:=decide_eq_false b
    go_wp2
    exact⟨⟨_,_,rfl,rfl,NX.out,by omega,by omega,by first | trivial | rfl⟩,by simp[intOf]<;>omega⟩
  ·have d1:decide (4294967296<=q)=false:=decide_eq_false c1
   have pb:=rW (a:=q) (b:=a0) (m:=4294967295) (by omega) (by omega) (by omega) (by omega)
   obtain⟨p,hp⟩:=aB (q*a0)
   have PE:=hid hp
   rw[hp]at pb
   have p0:=pb.1
   have p1:p<=18446744065119617025:=Int.le_trans pb.2 (by decide)
   clear pb
   by_cases c2:4294967296*r+u1<p
   ·have d2:decide (4294967296*r+u1<p)=true:=decide_eq_true c2
    have CC:Hid (4294967296<=q\/4294967296*r+u1<q*a0):=Or.inr (by rw[PE.out];exact c2)
    have NX:=hid (DI.next HY.out HY0.out HAU.out ⟨by omega,by omega⟩ HAL.out HA0.out a1p IV.out CC.out)
    have q1:1<=q:=by have:=NX.out.2.2.2;omega
    clear CC
    by_cases b:4294967296<=r+a1
    ·have d3:decide (4294967296<=r+a1)=true:=decide_eq_true b
     have GR:=hid (DI.great (u1:=u1) HY.out ⟨by omega,by omega⟩ a1p (by omega) HAL.out NX.out b)
     have qe:q - 1=Q1:=(DI.done HY.out HY0.out HAU.out NX.out GR.out.2).trans HAQ.out
     clear IV NX GR
     go_wp2
     go_loopw [16,18] (fun rv qv w8=> ∃(q r:Int),qv=.int .u64 q/\rv=.int .u64 r/\DI Y a1 n21 V q r/\r<4294967296/\q<18446744073709551616/\w8=w) (fun _ qv _=>(intOf qv).toNat)
     case atStart=>exact⟨_,_,rfl,rfl,by first | exact HBS.out | (rw[eqb];exact HBS.out),by omega,by omega,rfl⟩
     case round=>
      obtain⟨q,r,rfl,rfl,iv,rbd,qbd,hw8⟩:=hrel
      have hw9:=hw8.symm
      subst hw9
      have q0:=iv.2.2.2
      have r0:=iv.2.2.1
      have IV:=hid iv
      clear iv
      by_cases c1:4294967296<=q
      ·have d1:decide (4294967296<=q)=true:=decide_eq_true c1
       have CC:Hid (4294967296<=q\/4294967296*r+u0<q*a0):=Or.inl c1
       have NX:=hid (DI.next HY.out HY0.out HBU.out ⟨by omega,by omega⟩ HBL.out HB0.out a1p IV.out CC.out)
       have q1:1<=q:=by have:=NX.out.2.2.2;omega
       clear CC
       by_cases b:4294967296<=r+a1
       ·have d3:decide (4294967296<=r+a1)=true:=decide_eq_true b
        have GR:=hid (DI.great (u1:=u0) HY.out ⟨by omega,by omega⟩ a1p (by omega) HBL.out NX.out b)
        have qe:q - 1=Q0:=(DI.done HY.out HY0.out HBU.out NX.out GR.out.2).trans HBQ.out
        clear IV NX GR
        go_wp2
        go_ret2
        exact⟨⟨_,by rw[<- RE.out];rfl⟩,by first | trivial | rfl⟩
       ·have d3:decide (4294967296<=r+a1)=false:=decide_eq_false b
        go_wp2
        exact⟨⟨_,_,rfl,rfl,NX.out,by omega,by omega,by first | trivial | rfl⟩,by simp[intOf]<;>omega⟩
      ·have d1:decide (4294967296<=q)=false:=decide_eq_false c1
       have pb:=rW (a:=q) (b:=a0) (m:=4294967295) (by omega) (by omega) (by omega) (by omega)
       obtain⟨p,hp⟩:=aB (q*a0)
       have PE:=hid hp
       rw[hp]at pb
       have p0:=pb.1
       have p1:p<=18446744065119617025:=Int.le_trans pb.2 (by decide)
       clear pb
       by_cases c2:4294967296*r+u0<p
       ·have d2:decide (4294967296*r+u0<p)=true:=decide_eq_true c2
        have CC:Hid (4294967296<=q\/4294967296*r+u0<q*a0):=Or.inr (by rw[PE.out];exact c2)
        have NX:=hid (DI.next HY.out HY0.out HBU.out ⟨by omega,by omega⟩ HBL.out HB0.out a1p IV.out CC.out)
        have q1:1<=q:=by have:=NX.out.2.2.2;omega
        clear CC
        by_cases b:4294967296<=r+a1
        ·have d3:decide (4294967296<=r+a1)=true:=decide_eq_true b
         have GR:=hid (DI.great (u1:=u0) HY.out ⟨by omega,by omega⟩ a1p (by omega) HBL.out NX.out b)
         have qe:q - 1=Q0:=(DI.done HY.out HY0.out HBU.out NX.out GR.out.2).trans HBQ.out
         clear IV NX GR
         go_wp2
         go_ret2
         exact⟨⟨_,by rw[<- RE.out];rfl⟩,by first | trivial | rfl⟩
        ·have d3:decide (4294967296<=r+a1)=false:=decide_eq_false b
         go_wp2
         exact⟨⟨_,_,rfl,rfl,NX.out,by omega,by omega,by first | trivial | rfl⟩,by simp[intOf]<;>omega⟩
       ·have d2:decide (4294967296*r+u0<p)=false:=decide_eq_false c2
        have qe:q=Q0:=(DI.done HY.out HY0.out HBU.out IV.out (by rw[PE.out];exact c2)).trans HBQ.out
        clear IV
        subst qe
        go_wp2
        go_ret2
        exact⟨⟨_,by rw[<- RE.out];rfl⟩,by first | trivial | rfl⟩
    ·have d3:decide (4294967296<=r+a1)=false:=decide_eq_false b
     go_wp2
     exact⟨⟨_,_,rfl,rfl,NX.out,by omega,by omega,by first | trivial | rfl⟩,by simp[intOf]<;>omega⟩
   ·have d2:decide (4294967296*r+u1<p)=false:=decide_eq_false c2
    have qe:q=Q1:=(DI.done HY.out HY0.out HAU.out IV.out (by rw[PE.out];exact c2)).trans HAQ.out
    clear IV
    subst qe
    go_wp2
    go_loopw [16,18] (fun rv qv w8=> ∃(q r:Int),qv=.int .u64 q/\rv=.int .u64 r/\DI Y a1 n21 V q r/\r<4294967296/\q<18446744073709551616/\w8=w) (fun _ qv _=>(intOf qv).toNat)
    case atStart=>exact⟨_,_,rfl,rfl,by first | exact HBS.out | (rw[eqb];exact HBS.out),by omega,by omega,rfl⟩
    case round=>
     obtain⟨q,r,rfl,rfl,iv,rbd,qbd,hw8⟩:=hrel
     have hw9:=hw8.symm
     subst hw9
     have q0:=iv.2.2.2
     have r0:=iv.2.2.1
     have IV:=hid iv
     clear iv
     by_cases c1:4294967296<=q
     ·have d1:decide (4294967296<=q)=true:=decide_eq_true c1
      have CC:Hid (4294967296<=q\/4294967296*r+u0<q*a0):=Or.inl c1
      have NX:=hid (DI.next HY.out HY0.out HBU.out ⟨by omega,by omega⟩ HBL.out HB0.out a1p IV.out CC.out)
      have q1:1<=q:=by have:=NX.out.2.2.2;omega
      clear CC
      by_cases b:4294967296<=r+a1
      ·have d3:decide (4294967296<=r+a1)=true:=decide_eq_true b
       have GR:=hid (DI.great (u1:=u0) HY.out ⟨by omega,by omega⟩ a1p (by omega) HBL.out NX.out b)
       have qe:q - 1=Q0:=(DI.done HY.out HY0.out HBU.out NX.out GR.out.2).trans HBQ.out
       clear IV NX GR
       go_wp2
       go_ret2
       exact⟨⟨_,by rw[<- RE.out];rfl⟩,by first | trivial | rfl⟩
      ·have d3:decide (4294967296<=r+a1)=false:=decide_eq_false b
       go_wp2
       exact⟨⟨_,_,rfl,rfl,NX.out,by omega,by omega,by first | trivial | rfl⟩,by simp[intOf]<;>omega⟩
     ·have d1:decide (4294967296<=q)=false:=decide_eq_false c1
      have pb:=rW (a:=q) (b:=a0) (m:=4294967295) (by omega) (by omega) (by omega) (by omega)
      obtain⟨p,hp⟩:=aB (q*a0)
      have PE:=hid hp
      rw[hp]at pb
      have p0:=pb.1
      have p1:p<=18446744065119617025:=Int.le_trans pb.2 (by decide)
      clear pb
      by_cases c2:4294967296*r+u0<p
      ·have d2:decide (4294967296*r+u0<p)=true:=decide_eq_true c2
       have CC:Hid (4294967296<=q\/4294967296*r+u0<q*a0):=Or.inr (by rw[PE.out];exact c2)
       have NX:=hid (DI.next HY.out HY0.out HBU.out ⟨by omega,by omega⟩ HBL.out HB0.out a1p IV.out CC.out)
       have q1:1<=q:=by have:=NX.out.2.2.2;omega
       clear CC
       by_cases b:4294967296<=r+a1
       ·have d3:decide (4294967296<=r+a1)=true:=decide_eq_true b
        have GR:=hid (DI.great (u1:=u0) HY.out ⟨by omega,by omega⟩ a1p (by omega) HBL.out NX.out b)
        have qe:q - 1=Q0:=(DI.done HY.out HY0.out HBU.out NX.out GR.out.2).trans HBQ.out
        clear IV NX GR
        go_wp2
        go_ret2
        exact⟨⟨_,by rw[<- RE.out];rfl⟩,by first | trivial | rfl⟩
       ·have d3:decide (4294967296<=r+a1)=false:=decide_eq_false b
        go_wp2
        exact⟨⟨_,_,rfl,rfl,NX.out,by omega,by omega,by first | trivial | rfl⟩,by simp[intOf]<;>omega⟩
      ·have d2:decide (4294967296*r+u0<p)=false:=decide_eq_false c2
       have qe:q=Q0:=(DI.done HY.out HY0.out HBU.out IV.out (by rw[PE.out];exact c2)).trans HBQ.out
       clear IV
       subst qe
       go_wp2
       go_ret2
       exact⟨⟨_,by rw[<- RE.out];rfl⟩,by first | trivial | rfl⟩
end Sh
end
section
open Go.RowKit Go.Deep
namespace Sh
theorem up_words{hi lo S P:Int}(hSP:S*P=18446744073709551616)(hS:0<S)(hP:0<P)(hl:0<=lo)(hl2:lo<18446744073709551616):
  0<=lo/P/\lo/P<S/\(hi*S+lo/P)*18446744073709551616+lo*S%18446744073709551616=(hi*18446744073709551616+lo)*S:=by
 have d:=Int.mul_ediv_add_emod lo P
 have m0:=Int.emod_nonneg lo (show P≠0 by omega)
 have m1:=Int.emod_lt_of_pos lo hP
 have q0:0<=lo/P:=Int.ediv_nonneg hl (by omega)
 have q1:lo/P<S:=Int.ediv_lt_of_lt_mul hP (by rw[hSP];exact hl2)
 refine⟨q0,q1,?_⟩
 generalize lo/P=a at*
 generalize lo%P=b at*
 have e:lo*S=a*18446744073709551616+b*S:=by
  rw[<- d,<- hSP,Int.add_mul]
  congr 1
  ac_rfl
 have b0:0<=b*S:=Int.mul_nonneg m0 (by omega)
 have b1:b*S<18446744073709551616:=by
  rw[<- hSP,Int.mul_comm S P]
  exact Int.mul_lt_mul_of_pos_right m1 hS
 have f:hi*18446744073709551616*S=hi*S*18446744073709551616:=by ac_rfl
 rw[Int.add_mul,Int.add_mul,f,e]
 generalize hi*S=g at*
 generalize b*S=h at*
 omega
theorem BP{X Y U V u0:Int}(hY:0<Y)(hX:X=U*4294967296+u0)(hV:V=U%Y*4294967296+u0):U/Y*4294967296+V/Y=X/Y:=by
 have d:=Int.mul_ediv_add_emod U Y
 generalize U/Y=q at*
 generalize U%Y=r at*
 have e:X=V+Y*(q*4294967296):=by
  have:Y*(q*4294967296)=Y*q*4294967296:=by ac_rfl
  omega
 rw[e,Int.add_mul_ediv_left _ _ (by omega)]
 omega
theorem guess{u a:Int}(ha:0<a)(hu:0<=u)(hu2:u<18446744073709551616):0<=u/a/\u/a<18446744073709551616/\IntKind.u64.wrap (u - IntKind.u64.wrap (u/a*a))=u - u/a*a/\0<=u - u/a*a/\u - u/a*a<a:=by
 have d:=Int.mul_ediv_add_emod u a
 have m0:=Int.emod_nonneg u (show a≠0 by omega)
 have m1:=Int.emod_lt_of_pos u ha
 have q0:0<=u/a:=Int.ediv_nonneg hu (by omega)
 have q1:u/a<=u:=Int.ediv_le_self _ hu
 have t:0<=a*(u/a):=Int.mul_nonneg (by omega) q0
 rw[Int.mul_comm]at d t
 generalize u/a*a=p at*
 refine⟨q0,by omega,?_,by omega,by omega⟩
 rw[wrapu,wrapu]
 omega
theorem BQ(hi lo y:Int)(w:World)(h0:0<hi)(hy:hi<y)(hy2:y<9223372036854775808)(hl:0<=lo)(hl2:lo<18446744073709551616):
  Calls prog 136 #[.int .u64 hi,.int .u64 lo,.int .u64 y] w fun e w'=>(∃r,e=.returned (.tuple #[.int .u64 ((hi*18446744073709551616+lo)/y),.int .u64 r]))/\w'=w:=by
 obtain⟨n,rfl⟩:=Int.eq_ofNat_of_zero_le (show 0<=y by omega)
 have n0:n≠0:=by omega
 have b1:=Nat.log2_self_le n0
 have b2:=Nat.lt_log2_self (n:=n)
 have b3:n.log2<63:=(Nat.log2_lt n0).2 (by omega)
 have b4:0<n.log2:=by
  rcases Nat.eq_zero_or_pos n.log2 with z | z
  ·rw[z]at b2;omega
  ·exact z
 obtain⟨k,hk⟩: ∃k:Nat,n.log2+1+k=64:=⟨63 - n.log2,by omega⟩
 have LZ: ∀v,Calls prog 161 #[.int .u64 (n:Int)] v fun e w'=>e=.returned (.int .i64 (k:Int))/\w'=v:=fun v=>by
  have h:=lead_at n v (by omega) (by omega)
  rwa [show(64:Int) - ((n.log2+1:Nat):Int)=(k:Int)by omega]at h
 have hSPn:2 ^ k*2 ^ (64 - k)=18446744073709551616:=by rw[<- Nat.pow_add,show k+(64 - k)=64 by omega]
 have Yl:9223372036854775808<=n*2 ^ k:=by
  have h:=Nat.mul_le_mul_right (2 ^ k) b1
  rw[<- Nat.pow_add,show n.log2+k=63 by omega]at h
  exact h
 have Yh:n*2 ^ k<18446744073709551616:=by
  have h:=Nat.mul_lt_mul_of_pos_right b2 (pow_pos k)
  rw[<- Nat.pow_add,hk]at h
  exact h
 have hk0:0<k:=by omega
 have hk1:k<64:=by omega
 have tk:((k:Nat):Int).toNat=k:=Int.toNat_natCast k
 have tk2:(64 - ((k:Nat):Int)).toNat=64 - k:=by omega
 have hS:(0:Int)<2 ^ k:=yQ k
 have hP:(0:Int)<2 ^ (64 - k):=yQ _
 have hSP:(2:Int) ^ k*2 ^ (64 - k)=18446744073709551616:=by rw[dG,dG,<- Int.natCast_mul,hSPn];rfl
 have Yl':(9223372036854775808:Int)<=(n:Int)*2 ^ k:=by rw[dG,<- Int.natCast_mul];omega
 have Yh':(n:Int)*2 ^ k<18446744073709551616:=by rw[dG,<- Int.natCast_mul];omega
 obtain⟨up0,up1,up2⟩:=up_words (hi:=hi) hSP hS hP hl hl2
 have hhS:hi*2 ^ k+2 ^ k<=(n:Int)*2 ^ k:=by
  have h:(hi+1)*2 ^ k<=(n:Int)*2 ^ k:=Int.mul_le_mul_of_nonneg_right (by omega) (by omega)
  rwa [Int.add_mul,Int.one_mul]at h
 have hh0:0<=hi*2 ^ k:=Int.mul_nonneg (by omega) (by omega)
 have eu:bits .or .u64 (IntKind.u64.wrap (hi*2 ^ k)) (lo/2 ^ (64 - k))=hi*2 ^ k+lo/2 ^ (64 - k):=by
  rw[wrapu,Int.emod_eq_of_lt hh0 (by omega)]
  obtain⟨h,rfl⟩:=Int.eq_ofNat_of_zero_le (show 0<=hi by omega)
  obtain⟨l,hlq⟩:=Int.eq_ofNat_of_zero_le up0
  rw[hlq]at up1 ⊢
  have hl1:l<2 ^ k:=by rw[dG]at up1;omega
  have hb:h*2 ^ k+l<18446744073709551616:=by
   rw[dG,<- Int.natCast_mul]at hhS Yh'
   omega
  have o:=or_add h l k hl1 hb
  rw[dG,<- Int.natCast_mul,o]
  omega
 have fin:(hi*18446744073709551616+lo)/n=(hi*18446744073709551616+lo)*2 ^ k/(n*2 ^ k):=(Int.mul_ediv_mul_of_pos_left _ _ hS).symm
 rw[fin,<- up2]
 have eY:IntKind.u64.wrap ((n:Int)*2 ^ k)=n*2 ^ k:=by rw[wrapu];omega
 have el:IntKind.u64.wrap (lo*2 ^ k)=lo*2 ^ k%18446744073709551616:=wrapu _
 have m10:0<=lo*2 ^ k%18446744073709551616/\lo*2 ^ k%18446744073709551616<18446744073709551616:=by omega
 have key:=div_go hi lo n k
 rw[tk,tk2,eu,eY,el]at key
 have hu1:hi*2 ^ k+lo/2 ^ (64 - k)<n*2 ^ k:=by omega
 have hu0:0<=hi*2 ^ k+lo/2 ^ (64 - k):=by omega
 clear fin eY el eu up2 up0 up1 hhS hh0 hSP hSPn Yl Yh tk tk2 b1 b2 b3 hS hP
 generalize hi*2 ^ k+lo/2 ^ (64 - k)=u32 at*
 generalize lo*2 ^ k%18446744073709551616=u10 at*
 generalize(n:Int)*2 ^ k=Y at*
 have Y0:0<Y:=by omega
 have HY:Y=Y/4294967296*4294967296+Y%4294967296:=by omega
 have ga:=guess (u:=u32) (a:=Y/4294967296) (by omega) hu0 (by omega)
 have sa:=DI.start (y:=Y) (yn1:=Y/4294967296) (yn0:=Y%4294967296) (u32:=u32) (u1:=u10/4294967296) (U:=u32*4294967296+u10/4294967296) HY (by omega) (by omega) rfl (by omega) hu0
 have q1s:=DI.small (y:=Y) (u32:=u32) (u1:=u10/4294967296) (U:=u32*4294967296+u10/4294967296) Y0 rfl (by omega) hu1
 have q1p:0<=(u32*4294967296+u10/4294967296)/Y:=Int.ediv_nonneg (by omega) (by omega)
 have dU:=Int.mul_ediv_add_emod (u32*4294967296+u10/4294967296) Y
 have mU0:=Int.emod_nonneg (u32*4294967296+u10/4294967296) (show Y≠0 by omega)
 have mU1:=Int.emod_lt_of_pos (u32*4294967296+u10/4294967296) Y0
 have gb:=guess (u:=(u32*4294967296+u10/4294967296)%Y) (a:=Y/4294967296) (by omega) mU0 (by omega)
 have sb:=DI.start (y:=Y) (yn1:=Y/4294967296) (yn0:=Y%4294967296) (u32:=(u32*4294967296+u10/4294967296)%Y) (u1:=u10%4294967296) (U:=(u32*4294967296+u10/4294967296)%Y*4294967296+u10%4294967296) HY (by omega) (by omega) rfl (by omega) mU0
 have q0s:=DI.small (y:=Y) (u32:=(u32*4294967296+u10/4294967296)%Y) (u1:=u10%4294967296) (U:=(u32*4294967296+u10/4294967296)%Y*4294967296+u10%4294967296) Y0 rfl (by omega) mU1
 have q0p:0<=((u32*4294967296+u10/4294967296)%Y*4294967296+u10%4294967296)/Y:=Int.ediv_nonneg (by omega) (by omega)
 have en:IntKind.u64.wrap (IntKind.u64.wrap (IntKind.u64.wrap (u32*4294967296)+u10/4294967296) - IntKind.u64.wrap ((u32*4294967296+u10/4294967296)/Y*Y))=(u32*4294967296+u10/4294967296)%Y:=by
  rw[wrapu,wrapu,wrapu,wrapu]
  rw[Int.mul_comm]at dU
  generalize(u32*4294967296+u10/4294967296)/Y*Y=B at*
  generalize(u32*4294967296+u10/4294967296)%Y=C at*
  omega
 have R:=BP (X:=u32*18446744073709551616+u10) (U:=u32*4294967296+u10/4294967296) (u0:=u10%4294967296) (V:=(u32*4294967296+u10/4294967296)%Y*4294967296+u10%4294967296) Y0 (by omega) rfl
 refine key Y (Y/4294967296) (Y%4294967296) u32 u10 (u10/4294967296) (u10%4294967296) _ _ _ _ _ _ _ _ _ _ w h0 hy hy2 hl hl2 LZ (by omega) (by omega) rfl (by omega) (by omega) rfl (zL Y (by omega) (by omega)) rfl rfl (by omega) (by omega) rfl (zL u10 (by omega) (by omega)) (by omega) (by omega) (by omega) (by omega) hu0 (by omega) (by omega) (by omega) (by omega) (by omega) rfl ga.2.2.1 ga.1 ga.2.1 ga.2.2.2.1 (by have:=ga.2.2.2.2;omega) HY Y0 rfl ?_ hu1 rfl sa en mU0 (by omega) q1p q1s rfl gb.2.2.1 gb.1 gb.2.1 gb.2.2.2.1 (by have:=gb.2.2.2.2;omega) rfl ?_ mU1 rfl sb q0p q0s R
 ·show _<=_;omega
 ·show _<=_;omega
theorem div_at(hi lo y:Int)(w:World)(h0:0<=hi)(hy:hi<y)(hy2:y<9223372036854775808)(hl:0<=lo)(hl2:lo<18446744073709551616):
  Calls prog 136 #[.int .u64 hi,.int .u64 lo,.int .u64 y] w fun e w'=>(∃r,e=.returned (.tuple #[.int .u64 ((hi*18446744073709551616+lo)/y),.int .u64 r]))/\Below w.heap.size w w':=by
 by_cases c:hi=0
 ·subst c
  refine(zM lo y w hy (by omega) hl hl2).mono ?_
  rintro e w' ⟨he,rfl⟩
  rw[Int.zero_mul,Int.zero_add]
  exact⟨he,(Ab.refl w).drew⟩
 ·refine(BQ hi lo y w (by omega) hy hy2 hl hl2).mono ?_
  rintro e w' ⟨he,rfl⟩
  exact⟨he,Below.refl _ _⟩
end Sh
end
section
open Go.RowKit Go.Deep
namespace Sh
theorem pt_neg(x y z:Int)(w:World)(c:x<0\/y<0\/z<=0):Calls prog 93 #[.int .i64 x,.int .i64 y,.int .i64 z] w fun e w'=>e=.returned (.int .i64 0)/\w'=w:=by
 by_cases c1:x<0
 ·have f1:decide (x<0)=true:=decide_eq_true c1
  clear c
  go_enter func93,ntmps93
  go_wp2
  go_ret
  exact⟨rfl,rfl⟩
 ·have f1:decide (x<0)=false:=decide_eq_false c1
  by_cases c2:y<0
  ·have f2:decide (y<0)=true:=decide_eq_true c2
   clear c
   go_enter func93,ntmps93
   go_wp2
   go_ret
   exact⟨rfl,rfl⟩
  ·have f2:decide (y<0)=false:=decide_eq_false c2
   have f3:decide (z<=0)=true:=decide_eq_true (by omega)
   clear c
   go_enter func93,ntmps93
   go_wp2
   go_ret
   exact⟨rfl,rfl⟩
theorem pt_big(x y z h l:Int)(w:World)(hx:0<=x)(hy:0<=y)(hz:0<z)(x2:x<=9223372036854775807)(y2:y<=9223372036854775807)(z2:z<=9223372036854775807)
  (MU:Hid (∀v,Calls prog 135 #[.int .u64 x,.int .u64 y] v fun e w'=>e=.returned (.tuple #[.int .u64 h,.int .u64 l])/\w'=v)) (hb:z<=h):
  Calls prog 93 #[.int .i64 x,.int .i64 y,.int .i64 z] w fun e w'=>e=.returned (.int .i64 9223372036854775807)/\w'=w:=by
 have f1:decide (x<0)=false:=by rw[decide_eq_false_iff_not];omega
 have f2:decide (y<0)=false:=by rw[decide_eq_false_iff_not];omega
 have f3:decide (z<=0)=false:=by rw[decide_eq_false_iff_not];omega
 have f4:decide (z<=h)=true:=decide_eq_true hb
 go_enter func93,ntmps93
 go_wp2_with fail
 refine(MU.out _).mono ?_
 rintro e9 v ⟨rfl,hv⟩
 have hv2:=hv.symm
 subst hv2
 go_wp2
 go_ret
 exact⟨rfl,rfl⟩
theorem pt_small(x y z h l q:Int)(w:World)(hx:0<=x)(hy:0<=y)(hz:0<z)(x2:x<=9223372036854775807)(y2:y<=9223372036854775807)(z2:z<=9223372036854775807)
  (MU:Hid (∀v,Calls prog 135 #[.int .u64 x,.int .u64 y] v fun e w'=>e=.returned (.tuple #[.int .u64 h,.int .u64 l])/\w'=v)) (hb:h<z)
  (DV:Hid (Calls prog 136 #[.int .u64 h,.int .u64 l,.int .u64 z] w fun e w'=>(∃r,e=.returned (.tuple #[.int .u64 q,.int .u64 r]))/\Below w.heap.size w w')) (hq:0<=q) (hq2:q<18446744073709551616) (p:Int) (PE:Hid (p=if 9223372036854775807<q then 9223372036854775807 else q)):
  Calls prog 93 #[.int .i64 x,.int .i64 y,.int .i64 z] w fun e w'=>e=.returned (.int .i64 p)/\Below w.heap.size w w':=by
 have f1:decide (x<0)=false:=by rw[decide_eq_false_iff_not];omega
 have f2:decide (y<0)=false:=by rw[decide_eq_false_iff_not];omega
 have f3:decide (z<=0)=false:=by rw[decide_eq_false_iff_not];omega
 have f4:decide (z<=h)=false:=decide_eq_false (by omega)
 go_enter func93,ntmps93
 go_wp2_with fail
 refine(MU.out _).mono ?_
 rintro e9 v ⟨rfl,hv⟩
 have hv2:=hv.symm
 subst hv2
 go_wp2_with fail
 refine DV.out.mono ?_
 rintro e8 v ⟨⟨r,rfl⟩,bl⟩
 have BL:=hid bl
 clear bl
 by_cases c:9223372036854775807<q
 ·have PE2:Hid (p=9223372036854775807):=by have h:=PE.out;rwa [if_pos c]at h
  go_wp2
  go_ret
  exact⟨by rw[PE2.out];rfl,BL.out⟩
 ·have PE2:Hid (p=q):=by have h:=PE.out;rwa [if_neg c]at h
  go_wp2
  go_ret
  exact⟨by rw[PE2.out];rfl,BL.out⟩
theorem partC:PartC:=by
 intro x y z w hx hy hz
 by_cases c:x<0\/y<0\/z<=0
 ·have e:part x y z=0:=by unfold part;rw[if_pos c]
  rw[e]
  refine(pt_neg x y z w c).mono ?_
  rintro e w' ⟨rfl,rfl⟩
  exact⟨rfl,Below.refl _ _⟩
 ·have h0:0<=x/\0<=y/\0<z:=by omega
  unfold W64 at hx hy hz
  have m:=rW (a:=x) (b:=y) (m:=9223372036854775807) (by omega) (by omega) (by omega) (by omega)
  have m0:=m.1
  have MU:=fun v=>mul64_at x y v h0.1 (by omega) h0.2.1 (by omega)
  have dm:x*y/18446744073709551616*18446744073709551616+x*y%18446744073709551616=x*y:=by omega
  by_cases b:z<=x*y/18446744073709551616
  ·have e:part x y z=9223372036854775807:=by
    unfold part
    rw[if_neg c,if_pos]
    have k:9223372036854775808<=x*y/z:=(Int.le_ediv_iff_mul_le h0.2.2).2 (by omega)
    omega
   rw[e]
   refine(pt_big x y z _ _ w h0.1 h0.2.1 h0.2.2 hx.2 hy.2 hz.2 MU b).mono ?_
   rintro e w' ⟨rfl,rfl⟩
   exact⟨rfl,Below.refl _ _⟩
  ·have e:part x y z=if 9223372036854775807<x*y/z then 9223372036854775807 else x*y/z:=by
    unfold part
    rw[if_neg c]
   have D:=div_at (x*y/18446744073709551616) (x*y%18446744073709551616) z w (by omega) (by omega) (by omega) (by omega) (by omega)
   rw[dm]at D
   rw[e]
   refine pt_small x y z _ _ _ w h0.1 h0.2.1 h0.2.2 hx.2 hy.2 hz.2 MU (by omega) D (Int.ediv_nonneg m0 (by omega)) ?_ _ rfl
   exact Int.ediv_lt_of_lt_mul h0.2.2 (by omega)
end Sh
end
section
open Go.RowKit Go.Deep
namespace Sh
theorem eql_nilS(w:World)(a:Option Addr)(n c:Nat):(binOp .eql 46 (.slice a n c) (.slice none 0 0)).run prog w=.ok (.bool a.isNone) w:=Lib.run_eql_slice_nil w _ _ a n c 0 0 underlying46
attribute [local go_sem] eql_nilS
theorem own_rowA{B:Nat}{v:Value}{l:List Int}{w:World}(h:Own B v l w)(h0:0<l.length): ∃g cap F,v=.slice (some ⟨g,0,none⟩) l.length cap/\B<=g/\l.length<=cap/\cap<=maxLen/\w.rowIs g 2 cap F/\ ∀i,i<l.length->F i=.int .i64 (l.getD i 0):=by
 rcases h.2 with⟨rfl,hz⟩ | ⟨g,cap,cur,e,hb,hg,h1,h2,h3,h4⟩
 ·omega
 ·refine⟨g,cap,fun i=>(cur[i]?).getD (.bool false),e,hb,h1,h2,⟨cur,hg,by omega,fun i hi=> ?_⟩,fun i hi=> ?_⟩
  ·have:i<cur.size:=by omega
   simp[this]
  ·have q:(cur.toList.take l.length)[i]? =(l.map (Value.int .i64))[i]? :=by
    have h4':cur.toList.take l.length=l.map (Value.int .i64):=by simpa using h4
    rw[h4']
   rw[List.getElem?_take,if_pos hi,Array.getElem?_toList]at q
   dsimp only
   rw[q]
   simp[hi,List.getD]
theorem zN{B n:Nat}{v:Value}{x:Nat->Int}{w:World}(h:Own B v ((List.range n).map x) w)(h0:0<n): ∃g cap F,v=.slice (some ⟨g,0,none⟩) n cap/\B<=g/\n<=cap/\cap<=maxLen/\w.rowIs g 2 cap F/\ ∀i,i<n->F i=.int .i64 (x i):=by
 have e:((List.range n).map x).length=n:=by simp
 obtain⟨g,cap,F,h1,h2,h3,h4,h5,h6⟩:=own_rowA h (by rw[e];exact h0)
 rw[e]at h1 h3 h6
 exact⟨g,cap,F,h1,h2,h3,h4,h5,fun i hi=>by rw[h6 i hi];simp[List.getD,hi]⟩
theorem zO{B g cap n:Nat}{F:Nat->Value}{x:Nat->Int}{w:World}(h:w.rowIs g 2 cap F)(hB:B<=g)(hn:n<=cap)(hc:cap<=maxLen)(hF: ∀i,i<n->F i=.int .i64 (x i)):Own B (.slice (some ⟨g,0,none⟩) n cap) ((List.range n).map x) w:=by
 obtain⟨c,hb,hs,hf⟩:=h
 refine⟨by simp,.inr ⟨g,cap,c,by simp,hB,hb,by simpa using hn,hc,by omega,?_⟩⟩
 apply List.ext_getElem?
 intro i
 rw[List.getElem?_take,List.length_map,List.length_range]
 by_cases hi:i<n
 ·have e:=hf i (by omega)
  rw[hF i hi]at e
  rw[if_pos (by omega)]
  rw[<- Array.getElem?_toList]at e
  rw[e]
  simp[hi]
 ·rw[if_neg (by omega),List.getElem?_eq_none (by simp;omega)]
theorem BR(n c:Nat)(w:World):Calls prog 83 #[.slice none n c] w fun e w'=>e=.returned (.slice none 0 0)/\w'=w:=by
 go_enter func83,ntmps83
 go_wp2
 go_ret
 exact⟨rfl,rfl⟩
theorem BS(p:Addr)(c:Nat)(f:Nat->Int)(w:World):Calls prog 83 #[.slice (some p) 0 c] w fun e w'=>e=.returned (.slice (some ⟨w.heap.size,0,none⟩) 0 0)/\w'=w.alloc (.cells #[] 2):=by
 have SR:=hid (src_in (IsI.nil (w.alloc (.cells #[] 2)) (some p) f) c)
 go_enter func83,ntmps83
 go_wp2_with (first
  | (at_builtin;refine yS rfl (.tmp 5) (.tmp 6) rfl w.heap.size rfl (.slice (some p) 0 c) rfl SR.out ?_))
 go_ret
 exact⟨rfl,rfl⟩
theorem clone_go(b o n c:Nat)(f:Nat->Int)(w:World)(h0:0<n)(hn:n<=65536)(hf:IsI w (some ⟨b,o,none⟩) n f):Calls prog 83 #[.slice (some ⟨b,o,none⟩) n c] w fun e w'=> ∃v,e=.returned v/\Below w.heap.size w w'/\Own w.heap.size v ((List.range n).map f) w':=by
 have O2:=hid (qE w w.heap.size (Nat.le_refl _))
 have N1:=hid (news_in (hf.below (bl1 w (.cells #[] 2))))
 have LS:Hid (w.heap.size<=(w.alloc (.cells #[] 2)).heap.size):=by show _<=_;simp
 have H0:=hid h0
 have HN:=hid hn
 clear hf h0 hn
 go_enter func83,ntmps83
 go_wp2_with (first
  | (at_builtin;refine Bd rfl (.tmp 5) (.tmp 6) rfl w.heap.size (.slice (some ⟨w.heap.size,0,none⟩) 0 0) [] rfl O2.out ⟨b,o,none⟩ n c ((List.range n).map f) rfl (by simp) N1.out H0.out (by have:=HN.out;simp;omega) LS.out n (by simp) ?_;intro g1 c1 w1 o1 x1 y1 _;have O1:=hid o1;have X1:=hid x1;clear o1 x1 y1))
 go_ret
 refine⟨_,rfl,Below.grown (bl1 w _:Below _ _ _) X1.out LS.out (fun k hk=>(World.ownsRow.lt O2.out k hk).1),?_⟩
 have h:=O1.out
 rw[List.nil_append]at h
 exact h
theorem clone_at(p:Option Addr)(n c:Nat)(f:Nat->Int)(w:World)(hn:n<=65536)(hf:IsI w p n f):Calls prog 83 #[.slice p n c] w fun e w'=> ∃v,e=.returned v/\Below w.heap.size w w'/\Own w.heap.size v ((List.range n).map f) w':=by
 rcases Nat.eq_zero_or_pos n with h0 | h0
 ·subst h0
  cases p with
  | none=>
   refine(BR 0 c w).mono ?_
   rintro e w' ⟨rfl,rfl⟩
   exact⟨_,rfl,Below.refl _ _,Own.new _ _⟩
  | some a=>
   refine(BS a c f w).mono ?_
   rintro e w' ⟨rfl,rfl⟩
   exact⟨_,rfl,bl1 _ _,qE w w.heap.size (Nat.le_refl _)⟩
 ·obtain⟨b,o,rfl⟩:=hf.some0 h0
  exact clone_go b o n c f w h0 hn hf
end Sh
end
end Go.Proofs.YtmhnilnaffjhmaaGreatDoor
