/-
  Some of the texts of this proof, one behind the other.
-/
import Derived.Test.YtdeammhdedcjlaaRows
import Derived.ProofKit
import Derived.OpenShut
import Derived.WalkLawsBesides
import Derived.Stop.Joined
import Derived.Carry
import Derived.Lib.SmallJoins
import Derived.Deep.Slices
import Derived.Test.YtdeammhdedcjlaaKf05
set_option maxRecDepth 100000
set_option maxHeartbeats 400000000
namespace Go.Proofs.Ytdeammhdedcjlaa
open _root_.Go.Proofs.Try
section
open Tf Ieee
def stQ(N n:Nat):Nat:=2*(N/n)+(N%n != 0).toNat
theorem sq_lt{N n y:Nat}(hn:0<n)(h:y*n<N):2*y<stQ N n:=by
 have e:=Nat.div_add_mod N n
 have l:=Nat.mod_lt N hn
 unfold stQ
 have h1:y<=N/n:=(Nat.le_div_iff_mul_le hn).2 (by omega)
 by_cases c:y=N/n
 ·have:(N%n != 0)=true:=by
   simp
   intro z
   rw[z,<- c,Nat.mul_comm]at e
   omega
  rw[this];simp;omega
 ·omega
theorem sq_gt{N n y:Nat}(hn:0<n)(h:N<y*n):stQ N n<2*y:=by
 unfold stQ
 have h1:N/n<y:=(Nat.div_lt_iff_lt_mul hn).2 h
 have:(N%n != 0).toNat<=1:=by cases(N%n != 0)<;>decide
 omega
theorem q_low{N n d r:Nat}(hn:0<n)(hW:18014398509481984<=stQ N n)(h:(mv r+mv (r+1))*n<N*2 ^ (d+2)):r+1<=rung 52 0 (stQ N n*2 ^ d):=by
 rcases Nat.lt_or_ge (stQ N n*2 ^ d) (mv (r+1))with c | c
 ·have hr:=iA hW c
  obtain⟨y,hy⟩:=hZ (r:=r) (d:=d) (by omega)
  rw[hy,Nat.mul_right_comm]at h
  have h1:y*n<N:=Nat.lt_of_mul_lt_mul_right h
  have h2:=sq_lt hn h1
  have h3:mv r+mv (r+1)<2*(stQ N n*2 ^ d):=by
   rw[hy,show d+2=d+1+1 by omega,Nat.pow_succ,Nat.pow_succ]
   have:=(Nat.mul_lt_mul_right (Nat.two_pow_pos d)).2 h2
   generalize 2 ^ d=b at*
   generalize stQ N n=W at*
   have e1:y*(b*2*2)=2*(2*y*b):=by rw[show b*2*2=b*4 by omega,show 2*(2*y*b)=y*b*4 by rw[Nat.mul_assoc 2 y b];omega,Nat.mul_assoc]
   omega
  have hlow:mv r<=stQ N n*2 ^ d:=by
   have:=dT (r:=r) (r':=r+1)
   omega
  have:=bG 52 0 r (stQ N n*2 ^ d) (by omega) (by rw[Nat.pow_zero,Nat.mul_one];exact hlow) (by rw[Nat.pow_zero,Nat.mul_one];exact c)
  rw[if_pos (.inl (by rw[Nat.pow_zero,Nat.mul_one];exact h3))]at this
  omega
 ·exact jQ (by omega) (by rw[Nat.pow_zero,Nat.mul_one];exact c)
theorem q_up{N n d r:Nat}(hn:0<n)(hW:18014398509481984<=stQ N n)(h:N*2 ^ (d+2)<(mv r+mv (r+1))*n):rung 52 0 (stQ N n*2 ^ d)<=r:=by
 rcases Nat.lt_or_ge (stQ N n*2 ^ d) (mv (r+1))with c | c
 ·rcases Nat.lt_or_ge (mv r) (stQ N n*2 ^ d)with c2 | c2
  ·have hr:=iA hW c
   obtain⟨y,hy⟩:=hZ (r:=r) (d:=d) (by omega)
   rw[hy,Nat.mul_right_comm]at h
   have h1:N<y*n:=Nat.lt_of_mul_lt_mul_right h
   have h2:=sq_gt hn h1
   have h3:2*(stQ N n*2 ^ d)<mv r+mv (r+1):=by
    rw[hy,show d+2=d+1+1 by omega,Nat.pow_succ,Nat.pow_succ]
    have:=(Nat.mul_lt_mul_right (Nat.two_pow_pos d)).2 h2
    generalize 2 ^ d=b at*
    generalize stQ N n=W at*
    have e1:y*(b*2*2)=2*(2*y*b):=by rw[show b*2*2=b*4 by omega,show 2*(2*y*b)=y*b*4 by rw[Nat.mul_assoc 2 y b];omega,Nat.mul_assoc]
    omega
   have:=bG 52 0 r (stQ N n*2 ^ d) (by omega) (by rw[Nat.pow_zero,Nat.mul_one];exact Nat.le_of_lt c2) (by rw[Nat.pow_zero,Nat.mul_one];exact c)
   rw[if_neg (by rw[Nat.pow_zero,Nat.mul_one];show¬(mv r+mv (r+1)<_\/(mv r+mv (r+1)=_/\_));omega)]at this
   omega
  ·exact jR (by omega) (by rw[Nat.pow_zero,Nat.mul_one];exact c2)
 ·exfalso
  have hr:2*mv (r+1)<=2*(stQ N n*2 ^ d):=by omega
  have hn':=(dT (r:=r) (r':=r+1)).2 (by omega)
  have c3:mv r+mv (r+1)<=2*mv (r+1):=by omega
  by_cases g:(d+3)*4503599627370496<=r
  ·obtain⟨y,hy⟩:=hZ (r:=r) (d:=d) g
   rw[hy,Nat.mul_right_comm]at h
   have h1:N<y*n:=Nat.lt_of_mul_lt_mul_right h
   have h2:=sq_gt hn h1
   have:=(Nat.mul_lt_mul_right (Nat.two_pow_pos d)).2 h2
   rw[hy,show d+2=d+1+1 by omega,Nat.pow_succ,Nat.pow_succ]at c3
   generalize 2 ^ d=b at*
   generalize stQ N n=W at*
   have e1:y*(b*2*2)=2*(2*y*b):=by rw[show b*2*2=b*4 by omega,show 2*(2*y*b)=y*b*4 by rw[Nat.mul_assoc 2 y b];omega,Nat.mul_assoc]
   omega
  ·have e2:=cM (d+2) ((d+3)*4503599627370496) (by
    have e:(2:Nat) ^ 52=4503599627370496:=by decide
    rw[e])
   have hle:mv (r+1)<=mv ((d+3)*4503599627370496):=dT.2 (by omega)
   have h5:(mv r+mv (r+1))*n<=2*2 ^ (52+(d+2))*n:=Nat.mul_le_mul_right n (by omega)
   have h6:2*2 ^ (52+(d+2))*n=9007199254740992*n*2 ^ (d+2):=by
    rw[show 2*2 ^ (52+(d+2))=9007199254740992*2 ^ (d+2)by rw[Nat.pow_add 2 52 (d+2),<- Nat.mul_assoc],Nat.mul_right_comm]
   have h7:N<9007199254740992*n:=by
    refine Nat.lt_of_mul_lt_mul_right (a:=2 ^ (d+2)) ?_
    omega
   have:=sq_gt hn h7
   omega
theorem jD{q:Nat}(q1:4503599627370496<=q)(q2:q<9218868437227405312):canonB q=q:=by
 have mq:mg q=q:=bD (by omega)
 unfold canonB
 rw[mq,if_neg (by unfold isN;rw[mq];simp;omega),if_neg (by omega)]
theorem gO{x l:Nat}(x1:4503599627370496<=x)(x2:x<9218868437227405312)(l1:4503599627370496<=l)(l2:l<9218868437227405312)
  (h1:l/4503599627370496<=x/4503599627370496+1010) (h2:x/4503599627370496<=l/4503599627370496+1006):
  ∃N n d g,0<g/\0<n/\18014398509481984<=stQ N n/\dvB x l=rung 52 0 (stQ N n*2 ^ d)/\n*g=mv l/\N*2 ^ (d+2)*g=2*(mv x*2 ^ K)/\4503599627370496<=dvB x l/\dvB x l<=9146810843189477376:=by
 obtain⟨W,w1,w2,w3,e1⟩:=div_pos x1 x2 l1 l2
 have hq:W=stQ ((4503599627370496+x%4503599627370496)*2 ^ 54) (4503599627370496+l%4503599627370496):=by rw[w3];unfold stQ;rw[Nat.shiftLeft_eq]
 have px:=dU x1
 have pl:=dU l1
 have hlp:=d_lp
 have ha:1<=x/4503599627370496/\1<=l/4503599627370496:=by omega
 clear w3
 generalize x/4503599627370496=a at*
 generalize l/4503599627370496=c at*
 obtain⟨d,hd⟩: ∃d:Nat,(((a - 1:Nat):Int) - ((c - 1:Nat):Int) - 55)=double.leastPlace+(d:Int):=⟨((((a - 1:Nat):Int) - ((c - 1:Nat):Int) - 55) - double.leastPlace).toNat,by omega⟩
 have hdle:d<=2025:=by omega
 have hdk:d+2+54+(c - 1)=(a - 1)+1+K:=by unfold K;omega
 rw[eO double false W d _ hd,cX,aP]at e1
 have h0:W*2 ^ d≠0:=Nat.mul_ne_zero (by omega) (by have:=Nat.two_pow_pos d;omega)
 have hlog:52+0<=(W*2 ^ d).log2:=by
  refine(Nat.le_log2 h0).2 ?_
  have e:(2:Nat) ^ (52+0)=4503599627370496:=by decide
  rw[e]
  have:=Nat.two_pow_pos d
  exact Nat.le_trans (by omega) (Nat.le_mul_of_pos_right W this)
 have hb:=rung_big hlog h0
 have hle:=rung_E17 (le_E17 w2 hdle)
 have hfb:double.fractionBits=52:=rfl
 rw[hfb]at e1
 refine⟨(4503599627370496+x%4503599627370496)*2 ^ 54,4503599627370496+l%4503599627370496,d,2 ^ (c - 1),Nat.two_pow_pos _,by omega,by omega,?_,pl.symm,?_,?_⟩
 ·rw[<- hq]
  generalize rung 52 0 (W*2 ^ d)=r at*
  simp only[Bool.false_eq_true,if_false]at e1
  rw[Nat.min_eq_left (by omega)]at e1
  rw[dB e1]
  exact jD hb (by omega)
 ·rw[px]
  generalize 4503599627370496+x%4503599627370496=m
  rw[show m*2 ^ 54*2 ^ (d+2)*2 ^ (c - 1)=m*2 ^ (d+2+54+(c - 1))by rw[Nat.mul_assoc,Nat.mul_assoc,<- Nat.pow_add,<- Nat.pow_add];congr 2;omega,hdk,Nat.pow_add,Nat.pow_add,Nat.pow_one]
  generalize 2 ^ (a - 1)=u
  generalize 2 ^ K=v
  rw[show u*2*v=2*(u*v)by rw[Nat.mul_comm u 2,Nat.mul_assoc],<- Nat.mul_assoc m 2,Nat.mul_comm m 2,Nat.mul_assoc,Nat.mul_assoc]
 ·generalize rung 52 0 (W*2 ^ d)=r at*
  simp only[Bool.false_eq_true,if_false]at e1
  rw[Nat.min_eq_left (by omega)]at e1
  rw[dB e1,jD hb (by omega)]
  exact⟨hb,hle⟩
end
section
open Tf Ieee
def Qn(x l:Nat):Prop:=(4503599627370496<=x/\x<9218868437227405312)/\(4503599627370496<=l/\l<9218868437227405312)/\l/4503599627370496<=x/4503599627370496+1010/\x/4503599627370496<=l/4503599627370496+1006
theorem dq_low{x l r:Nat}(q:Qn x l)(h:(mv r+mv (r+1))*mv l<2*(mv x*2 ^ K)):r+1<=dvB x l:=by
 obtain⟨⟨x1,x2⟩,⟨l1,l2⟩,h1,h2⟩:=q
 obtain⟨N,n,d,g,hg,hn,hW,e,e1,e2,-⟩:=gO x1 x2 l1 l2 h1 h2
 rw[e]
 rw[<- e1,<- e2,<- Nat.mul_assoc]at h
 exact q_low hn hW (Nat.lt_of_mul_lt_mul_right h)
theorem dq_up{x l r:Nat}(q:Qn x l)(h:2*(mv x*2 ^ K)<(mv r+mv (r+1))*mv l):dvB x l<=r:=by
 obtain⟨⟨x1,x2⟩,⟨l1,l2⟩,h1,h2⟩:=q
 obtain⟨N,n,d,g,hg,hn,hW,e,e1,e2,-⟩:=gO x1 x2 l1 l2 h1 h2
 rw[e]
 rw[<- e1,<- e2,<- Nat.mul_assoc]at h
 exact q_up hn hW (Nat.lt_of_mul_lt_mul_right h)
theorem dq_in{x l:Nat}(q:Qn x l):4503599627370496<=dvB x l/\dvB x l<=9146810843189477376:=by
 obtain⟨⟨x1,x2⟩,⟨l1,l2⟩,h1,h2⟩:=q
 obtain⟨N,n,d,g,hg,hn,hW,e,e1,e2,e3⟩:=gO x1 x2 l1 l2 h1 h2
 exact e3
theorem dv_mono{x x' l:Nat}(q:Qn x l)(q':Qn x' l)(h:x<=x'):dvB x l<=dvB x' l:=by
 rcases Nat.lt_or_ge (dvB x' l) (dvB x l)with c | c
 ·exfalso
  have a1:(mv (dvB x' l)+mv (dvB x' l+1))*mv l<=2*(mv x*2 ^ K):=by
   rcases Nat.lt_or_ge (2*(mv x*2 ^ K)) ((mv (dvB x' l)+mv (dvB x' l+1))*mv l)with k | k
   ·have:=dq_up q k;omega
   ·exact k
  have a2:2*(mv x'*2 ^ K)<=(mv (dvB x' l)+mv (dvB x' l+1))*mv l:=by
   rcases Nat.lt_or_ge ((mv (dvB x' l)+mv (dvB x' l+1))*mv l) (2*(mv x'*2 ^ K))with k | k
   ·have:=dq_low q' k;omega
   ·exact k
  have a3:mv x'*2 ^ K<=mv x*2 ^ K:=by omega
  have a4:=dT.1 (Nat.le_of_mul_le_mul_right a3 (Nat.two_pow_pos K))
  have e:x=x':=by omega
  subst e
  exact Nat.lt_irrefl _ c
 ·exact c
theorem dv_anti{x l l':Nat}(q:Qn x l)(q':Qn x l')(h:l<=l'):dvB x l'<=dvB x l:=by
 rcases Nat.lt_or_ge (dvB x l) (dvB x l')with c | c
 ·exfalso
  have a1:(mv (dvB x l)+mv (dvB x l+1))*mv l'<=2*(mv x*2 ^ K):=by
   rcases Nat.lt_or_ge (2*(mv x*2 ^ K)) ((mv (dvB x l)+mv (dvB x l+1))*mv l')with k | k
   ·have:=dq_up q' k;omega
   ·exact k
  have a2:2*(mv x*2 ^ K)<=(mv (dvB x l)+mv (dvB x l+1))*mv l:=by
   rcases Nat.lt_or_ge ((mv (dvB x l)+mv (dvB x l+1))*mv l) (2*(mv x*2 ^ K))with k | k
   ·have:=dq_low q k;omega
   ·exact k
  have hp:0<mv (dvB x l)+mv (dvB x l+1):=by
   have:=oJ (dvB x l)
   have:=Nat.two_pow_pos (dvB x l/4503599627370496 - 1)
   omega
  have a4:=dT.1 (Nat.le_of_mul_le_mul_left (Nat.le_trans a1 a2) hp)
  have e:l=l':=by omega
  subst e
  exact Nat.lt_irrefl _ c
 ·exact c
end
section
open Tf
theorem oZ(v:Int)(r:Nat)(h:mv r=v.natAbs)(hr:r<=9218868437227405312):R v=if v<0 then -(r:Int)else(r:Int):=by
 unfold R
 rw[<- h,eW,Nat.min_eq_left hr]
theorem R_mv(r:Nat)(hr:r<=9218868437227405312):R (mv r:Int)=r/\R (-(mv r:Int))= -(r:Int):=by
 refine⟨?_,?_⟩
 ·rw[oZ _ r (by rw[Int.natAbs_natCast]) hr,if_neg (by omega)]
 ·rw[oZ _ r (by rw[Int.natAbs_neg,Int.natAbs_natCast]) hr]
  by_cases c:r=0
  ·subst c;rw[eV];simp
  ·have:=(@hJ 0 r).2 (by omega)
   rw[eV]at this
   rw[if_pos (by omega)]
end
section
open Tf Ieee
def fw(n:Int):Nat:=rn false (n*one)
theorem R_one:R one=4607182418800017408:=(R_mv 4607182418800017408 (by decide)).1
theorem mv_2_63:mv 4890909195324358656=9223372036854775808*one:=by
 have h:=bN 63 4890909195324358656 (by decide)
 have e:(2:Nat) ^ 63=9223372036854775808:=by decide
 rw[e]at h
 exact h
theorem R_max:R (9223372036854775808*one)=4890909195324358656:=by
 have h:=(R_mv 4890909195324358656 (by decide)).1
 rw[mv_2_63,Int.natCast_mul]at h
 exact h
theorem rn_nn{v:Int}(h:0<=v):rn false v=(R v).toNat:=by
 unfold rn R
 generalize min (rung 52 0 v.natAbs) 9218868437227405312=m
 by_cases z:v=0
 ·rw[if_pos z,if_neg (by decide),if_neg (by omega),Int.toNat_natCast]
 ·rw[if_neg z,decide_eq_false (by omega),if_neg (by decide),if_neg (by omega),Int.toNat_natCast]
theorem fw_R{n:Int}(h:0<=n):fw n=(R (n*one)).toNat:=rn_nn (Int.mul_nonneg h (Int.le_of_lt onep))
theorem fw_in{n:Int}(h1:1<=n)(h2:n<=9223372036854775807):4607182418800017408<=fw n/\fw n<=4890909195324358656:=by
 have a:=hM (Int.mul_le_mul_of_nonneg_right h1 (Int.le_of_lt onep))
 have b:=hM (Int.mul_le_mul_of_nonneg_right (show n<=9223372036854775808 by omega) (Int.le_of_lt onep))
 rw[Int.one_mul,R_one]at a
 rw[R_max]at b
 rw[fw_R (by omega)]
 omega
theorem pA{n m:Int}(h0:0<=n)(h:n<=m):fw n<=fw m:=by
 have a:=hM (Int.mul_le_mul_of_nonneg_right h (Int.le_of_lt onep))
 rw[fw_R h0,fw_R (by omega)]
 omega
theorem mC{n m:Int}(n1:1<=n)(n2:n<=9223372036854775807)(m1:1<=m)(m2:m<=9223372036854775807):Qn (fw n) (fw m):=by
 have a:=fw_in n1 n2
 have b:=fw_in m1 m2
 unfold Qn
 omega
def dpB(w a:Int):Nat:=if w<1\/a<1 then 0 else dvB (fw w) (fw a)
theorem dN{w a:Int}(h:w<1\/a<1):dpB w a=0:=by unfold dpB;rw[if_pos h]
theorem gC{w a:Int}(h1:1<=w)(h2:1<=a):dpB w a=dvB (fw w) (fw a):=by unfold dpB;rw[if_neg (by omega)]
theorem dp_in{w a:Int}(h1:1<=w)(h2:1<=a)(w2:w<=9223372036854775807)(a2:a<=9223372036854775807):4503599627370496<=dpB w a/\dpB w a<=9146810843189477376:=by
 rw[gC h1 h2]
 exact dq_in (mC h1 w2 h2 a2)
theorem dp_le{w a:Int}(w2:w<=9223372036854775807)(a2:a<=9223372036854775807):dpB w a<=9146810843189477376:=by
 by_cases h:w<1\/a<1
 ·rw[dN h];omega
 ·exact(dp_in (by omega) (by omega) w2 a2).2
theorem pB{w w' a:Int}(h:w<=w')(w2:w'<=9223372036854775807)(a2:a<=9223372036854775807):dpB w a<=dpB w' a:=by
 by_cases c:w<1\/a<1
 ·rw[dN c];omega
 ·rw[gC (by omega) (by omega),gC (by omega) (by omega)]
  exact dv_mono (mC (by omega) (by omega) (by omega) a2) (mC (by omega) w2 (by omega) a2) (pA (by omega) h)
theorem pC{w a a':Int}(h0:1<=a)(h:a<=a')(w2:w<=9223372036854775807)(a2:a'<=9223372036854775807):dpB w a'<=dpB w a:=by
 by_cases c:w<1
 ·rw[dN (.inl c),dN (.inl c)];omega
 ·rw[gC (by omega) (by omega),gC (by omega) (by omega)]
  exact dv_anti (mC (by omega) w2 h0 (by omega)) (mC (by omega) w2 (by omega) a2) (pA (by omega) h)
end
section
open Tf Ieee
theorem sv_nn{d:Nat}(h:d<9223372036854775808):sv d=(mv d:Nat):=by
 unfold sv
 rw[bI h,bD h];rfl
end
section
open Tf
namespace Ss
def btw(x lo hi:Nat):Bool:=(fgt x lo||feq x lo)&&(flt x hi||feq x hi)&&decide (x≠9223372036854775808)
def fp(p:Nat->Bool)(n:Nat):Int:=match(List.range n).find? p with
 | some i=>(i:Int)
 | none=> -1
theorem nU{p:Nat->Bool}{n k:Nat}(h: ∀i,i<k->p i=false)(hk:p k=true)(hn:k<n):fp p n=(k:Nat):=by
 have e:(List.range n).find? p=some k:=by
  rw[List.find?_range_eq_some]
  exact⟨hk,List.mem_range.2 hn,fun j hj=>by rw[h j hj];rfl⟩
 unfold fp
 rw[e]
theorem eK{p:Nat->Bool}{n:Nat}(h: ∀i,i<n->p i=false):fp p n= -1:=by
 have e:(List.range n).find? p=none:=by
  rw[List.find?_eq_none]
  intro x hx
  rw[h x (List.mem_range.1 hx)]
  decide
 unfold fp
 rw[e]
theorem mD(p:Nat->Bool)(n:Nat):(fp p n= -1/\ ∀i,i<n->p i=false)\/ ∃k,k<n/\fp p n=(k:Nat)/\p k=true/\ ∀i,i<k->p i=false:=by
 cases e:(List.range n).find? p with
 | none=>
  refine .inl ⟨by unfold fp;rw[e],fun i hi=> ?_⟩
  have:=List.find?_eq_none.1 e i (List.mem_range.2 hi)
  cases q:p i with
  | false=>rfl
  | true=>exact absurd q this
 | some k=>
  obtain⟨h1,h2,h3⟩:=List.find?_range_eq_some.1 e
  refine .inr ⟨k,List.mem_range.1 h2,by unfold fp;rw[e],h1,fun i hi=> ?_⟩
  have:=h3 i hi
  cases q:p i with
  | false=>rfl
  | true=>rw[q]at this;cases this
theorem kJ{p:Nat->Bool}{n:Nat}(h:fp p n<0): ∀i,i<n->p i=false:=by
 rcases mD p n with⟨_,q⟩ | ⟨k,_,e,_⟩
 ·exact q
 ·omega
theorem fp_ge(p:Nat->Bool)(n:Nat): -1<=fp p n/\fp p n<n:=by
 rcases mD p n with⟨e,_⟩ | ⟨k,hk,e,_⟩<;>omega
def bB(B:Nat->Nat)(i:Nat):Bool:= !btw (B i) 13920626448202203136 4697254411347427328
def bS(S:Nat->Nat)(i:Nat):Bool:= !btw (S i) 13875590451928498176 4652218415073722368
def bQ(W:Nat->Int)(th:Int)(i:Nat):Bool:=decide (W i<0)||decide (4503599627370496 - (th+Sh.sumN W i)<W i)
def chN(N:Nat)(lb lw lt ls:Nat)(B:Nat->Nat)(W T:Nat->Int)(S:Nat->Nat)(sky st:Int):Int × Int:=
 if lb≠N then(0,12)else if lw≠N then(1,12)else if lt≠N then(2,12)else if ls≠2*N then(3,12)
 else if 0<=fp (bB B) N then(fp (bB B) N,13)
 else if sky<0\/4503599627370496<sky then(0,17)
 else if 0<=fp (bQ W sky) N then(fp (bQ W sky) N,14)
 else if 0<=fp (bQ T 0) N then(fp (bQ T 0) N,15)
 else if 0<=fp (bS S) (2*N)then(fp (bS S) (2*N),16)
 else if st<0\/4611686018427387904<st then(0,1)else(0,0)
def chk(side:Int)(lb lw lt ls:Nat)(B:Nat->Nat)(W T:Nat->Int)(S:Nat->Nat)(sky st:Int):Int × Int:=
 if 1<=side/\side<=32 then chN (6*side.toNat*side.toNat) lb lw lt ls B W T S sky st else(0,10)
def okN(N:Nat)(B:Nat->Nat)(W T:Nat->Int)(S:Nat->Nat)(sky st:Int):Prop:=
 (∀i,i<N->bB B i=false)/\(0<=sky/\sky<=4503599627370496)/\((∀i,i<N->0<=W i)/\sky+Sh.sumN W N<=4503599627370496)/\Rv.okV N T/\(∀i,i<2*N->bS S i=false)/\0<=st/\st<=4611686018427387904
theorem gP{W:Nat->Int}{th:Int}{n:Nat}(ht:th<=4503599627370496):(∀i,i<n->bQ W th i=false) ↔ (∀i,i<n->0<=W i)/\th+Sh.sumN W n<=4503599627370496:=by
 constructor
 ·intro h
  have f: ∀i,i<n->0<=W i/\th+Sh.sumN W i+W i<=4503599627370496:=fun i hi=>by
   have:=h i hi
   unfold bQ at this
   rw[Bool.or_eq_false_iff,decide_eq_false_iff_not,decide_eq_false_iff_not]at this
   omega
  refine⟨fun i hi=>(f i hi).1,?_⟩
  cases n with
  | zero=>show th+0<=_;omega
  | succ m=>
   have:=(f m (by omega)).2
   show th+(Sh.sumN W m+W m)<=_
   omega
 ·rintro⟨h1,h2⟩ i hi
  have m:=Sh.qL h1 (m:=i+1) (by omega)
  have e:Sh.sumN W (i+1)=Sh.sumN W i+W i:=rfl
  have:=h1 i hi
  unfold bQ
  rw[Bool.or_eq_false_iff,decide_eq_false_iff_not,decide_eq_false_iff_not]
  omega
theorem chN_ok{N lb lw lt ls:Nat}{B:Nat->Nat}{W T:Nat->Int}{S:Nat->Nat}{sky st:Int}:
  (chN N lb lw lt ls B W T S sky st).2=0 ↔ (lb=N/\lw=N/\lt=N/\ls=2*N)/\okN N B W T S sky st:=by
 unfold chN
 by_cases h1:lb=N
 ·rw[if_neg (by omega)]
  by_cases h2:lw=N
  ·rw[if_neg (by omega)]
   by_cases h3:lt=N
   ·rw[if_neg (by omega)]
    by_cases h4:ls=2*N
    ·rw[if_neg (by omega)]
     by_cases h5:0<=fp (bB B) N
     ·rw[if_pos h5]
      refine⟨fun q=>by simp at q,fun q=> ?_⟩
      rw[eK q.2.1]at h5
      omega
     ·rw[if_neg h5]
      have k5:=kJ (p:=bB B) (n:=N) (by omega)
      by_cases h6:sky<0\/4503599627370496<sky
      ·rw[if_pos h6]
       refine⟨fun q=>by simp at q,fun q=> ?_⟩
       have:=q.2.2.1
       omega
      ·rw[if_neg h6]
       by_cases h7:0<=fp (bQ W sky) N
       ·rw[if_pos h7]
        refine⟨fun q=>by simp at q,fun q=> ?_⟩
        rw[eK ((gP (by omega)).2 q.2.2.2.1)]at h7
        omega
       ·rw[if_neg h7]
        have k7:=(gP (by omega)).1 (kJ (p:=bQ W sky) (n:=N) (by omega))
        by_cases h8:0<=fp (bQ T 0) N
        ·rw[if_pos h8]
         refine⟨fun q=>by simp at q,fun q=> ?_⟩
         rw[eK ((gP (by omega)).2 ⟨q.2.2.2.2.1.1,by have:=q.2.2.2.2.1.2;omega⟩)]at h8
         omega
        ·rw[if_neg h8]
         have k8:=(gP (th:=0) (by omega)).1 (kJ (p:=bQ T 0) (n:=N) (by omega))
         by_cases h9:0<=fp (bS S) (2*N)
         ·rw[if_pos h9]
          refine⟨fun q=>by simp at q,fun q=> ?_⟩
          rw[eK q.2.2.2.2.2.1]at h9
          omega
         ·rw[if_neg h9]
          have k9:=kJ (p:=bS S) (n:=2*N) (by omega)
          by_cases h10:st<0\/4611686018427387904<st
          ·rw[if_pos h10]
           refine⟨fun q=>by simp at q,fun q=> ?_⟩
           have:=q.2.2.2.2.2.2
           omega
          ·rw[if_neg h10]
           exact⟨fun _=>⟨⟨h1,h2,h3,h4⟩,k5,⟨by omega,by omega⟩,k7,⟨k8.1,by have:=k8.2;omega⟩,k9,by omega,by omega⟩,fun _=>rfl⟩
    ·rw[if_pos h4]
     exact⟨fun q=>by simp at q,fun q=>absurd q.1.2.2.2 h4⟩
   ·rw[if_pos h3]
    exact⟨fun q=>by simp at q,fun q=>absurd q.1.2.2.1 h3⟩
  ·rw[if_pos h2]
   exact⟨fun q=>by simp at q,fun q=>absurd q.1.2.1 h2⟩
 ·rw[if_pos h1]
  exact⟨fun q=>by simp at q,fun q=>absurd q.1.1 h1⟩
end Ss
end
section
open Go.ChangeShapes Go.WideShapes Go.ChangeAt Go.WideMaps Go.WideElems Go.RowKit Go.Deep
theorem qM{H:Type}{enc:TypeId × Value->H}{P:Program}{w:World}{base:Nat}{spare:Nat->Bool}{held:Bool}{t:TypeId}{fuel:Nat}{v:Value}{x:DataW H × List MemPlace}(ht:P.underlying t=some (.float .f64))(h:DataW.trod enc P w base spare held fuel t [v]=some x):
  ∃b,v=.float .f64 b/\(Lit.float .f64 b).wf=true:=by
 cases fuel with
 | zero=>simp[DataW.trod]at h
 | succ n=>
  unfold DataW.trod at h
  rw[ht]at h
  split at h<;>simp_all
theorem nV{H:Type}{enc:TypeId × Value->H}{P:Program}{w:World}{base:Nat}{spare:Nat->Bool}{held:Bool}{t:TypeId}{fuel:Nat}{v:Value}{x:DataW H × List MemPlace}(ht:P.underlying t=some (.float .f64))(h:DataW.trod enc P w base spare held fuel t [v]=some x):
  ∃b,v=.float .f64 b/\b<18446744073709551616:=by
 obtain⟨k,e,wf⟩:=qM ht h
 exact⟨k,e,by simpa [Lit.wf]using wf⟩
theorem qN(b off j:Nat):(⟨b,off,none⟩:Addr).add j=⟨b,off+j,none⟩:=by
 by_cases c:j=0
 ·subst c;simp[Addr.add]
 ·simp[Addr.add,c]
theorem kK{w:World}{a:Addr}{v:Value}(h:w.cell? a=some v):a.block<w.heap.size:=by
 by_cases c:a.block<w.heap.size
 ·exact c
 ·exfalso
  have:w.heap[a.block]? =none:=by simp;omega
  simp[World.cell?,this]at h
theorem gQ{α:Type}{n:Nat}{R:Nat->α->Prop}(d:α)(h: ∀i,i<n-> ∃x,R i x): ∃f:Nat->α,∀i,i<n->R i (f i):=by
 have: ∀i,∃x,i<n->R i x:=fun i=>by
  by_cases c:i<n
  ·obtain⟨x,h1⟩:=h i c
   exact⟨x,fun _=>h1⟩
  ·exact⟨d,fun h=>absurd h c⟩
 exact⟨fun i=>(this i).choose,fun i hi=>(this i).choose_spec hi⟩
theorem jE{H:Type}{enc:TypeId × Value->H}{W:World}{cs:List Value}{fuel:Nat}{x:DataW H × List MemPlace}
  (hf:DataW.trod enc prog W 0 (fun _=>true) true fuel 37 cs=some x): ∃a0 len cap xs,cs=[.slice a0 len cap]/\IsFl W a0 len xs/\len<=cap/\cap<=maxLen:=by
 rcases open_slice1 underlying37 (by kernel_rfl) hf with⟨hcs,_⟩ | ⟨a,l,c,m,n,V,D,Pl,hcs,_,hl,hm,hmm,_,hx⟩
 ·exact⟨none,0,0,fun _=>0,hcs,fun k hk=>by omega,Nat.le_refl _,Nat.zero_le _⟩
 ·simp only[if_true]at hmm
  have each: ∀i,i<l-> ∃x:Nat,W.cell? (a.add i)=some (.float .f64 x)/\x<18446744073709551616:=by
   intro i hi
   obtain⟨h1,h2⟩:=hx i (by omega)
   obtain⟨x,e,wx⟩:=nV underlying47 h2
   rw[e]at h1
   exact⟨x,h1,wx⟩
  obtain⟨f,hf⟩:=gQ 0 each
  refine⟨some a,l,c,f,hcs,fun k hk=>⟨(hf k hk).2,?_⟩,hl,hm⟩
  have h0:=(hf k hk).1
  have z:=(hf 0 (by omega)).1
  obtain⟨b,off,spot⟩:=a
  have hspot:spot=none:=by simpa [Addr.add]using World.cell?_spot z
  subst hspot
  rw[qN]at h0
  exact⟨b,off,rfl,kK h0,h0⟩
end
section
open Go.RowKit Tf Cu
theorem pD(L:Nat):1<=arI L/\arI L<=9223372036854775807:=by
 have h:cI .even (arQ L)<=9223372036854775807:=by
  unfold cI
  split
  ·rename_i c
   unfold cOk at c
   simp only[Bool.and_eq_true,decide_eq_true_eq]at c
   omega
  ·decide
 unfold arI
 omega
theorem IsFl.at0{w:World}{b o len:Nat}{xs:Nat->Nat}(h:IsFl w (some ⟨b,o,none⟩) len xs){k:Nat}(hk:k<len):xs k<18446744073709551616/\b<w.heap.size/\w.cell? ⟨b,o+k,none⟩=some (.float .f64 (xs k)):=by
 obtain⟨h1,b',o',e,h2,h3⟩:=h k hk
 injection e with e1
 injection e1 with e2 e3
 subst e2 e3
 exact⟨h1,h2,h3⟩
theorem IsFl.some0{w:World}{a0:Option Addr}{len:Nat}{xs:Nat->Nat}(h:IsFl w a0 len xs)(h0:0<len): ∃b o,a0=some ⟨b,o,none⟩:=by
 obtain⟨_,b,o,e,_⟩:=h 0 h0
 exact⟨b,o,e⟩
end
section
open Go.RowKit Go.Deep
theorem rowIs.fl{w:World}{b n:Nat}{f:Nat->Nat}(h:w.rowIs b 47 n (fun i=>.float .f64 (f i)))(hf: ∀i,i<n->f i<18446744073709551616):IsFl w (some ⟨b,0,none⟩) n f:=fun k hk=>⟨hf k hk,b,0,rfl,h.lt,by rw[Nat.zero_add];exact h.cell hk⟩
end
section
open Tf Ieee
def leer(a b:Nat):Nat:=dvB (mlB (mlB 4611686018427387904 a) b) (plB a b)
end
section
open Tf Ieee
def ps(a:Nat):Bool:=decide (0<a/\a<=9218868437227405312)
theorem nn_N{a:Nat}(h:a<=9218868437227405312):isN a=false:=bH.2 (by rw[bD (by omega)];exact h)
def lr(a b:Nat):Nat:=if leer a b<9218868437227405312 then leer a b else 0
def op(x:Nat):Nat:=if x=0 then 0 else x+9223372036854775808
end
end Go.Proofs.Ytdeammhdedcjlaa
