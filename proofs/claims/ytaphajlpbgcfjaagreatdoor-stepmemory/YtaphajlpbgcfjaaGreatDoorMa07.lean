/-
  Some of the texts of this proof, one behind the other.
-/
import Derived.Test.YtaphajlpbgcfjaaGreatDoorTie
import Derived.Test.YtaphajlpbgcfjaaGreatDoorCards
import Derived.ProofKit
import Derived.LaidMore
import Derived.OpenShut
import Derived.Stop.Joined
import Derived.Carry
import Derived.Lib.SmallJoins
import Derived.WalkLawsBesides
import Derived.Test.YtaphajlpbgcfjaaGreatDoorRows
import Derived.Deep.Slices
import Derived.Test.YtaphajlpbgcfjaaGreatDoorMa06
set_option maxRecDepth 100000
set_option maxHeartbeats 400000000
namespace Go.Proofs.YtaphajlpbgcfjaaGreatDoor
open _root_.Go.Proofs.Tryz
section
open Tf Ieee
def stQ(N n:Nat):Nat:=2*(N/n)+(N%n != 0).toNat
theorem sq_lt{N n y:Nat}(hn:0<n)(h:y*n<N):2*y<stQ N n:=by
 have e:=Nat.div_add_mod N n
 have l:=Nat.mod_lt N hn
 unfold stQ
 have h1:y<=N/n:=(Nat.le_div_iff_mul_le hn).2 (by omega)
 by_cases c:y=N/n
 ·have:(N%n != 0)=true:=by
   simp
   intro z
   rw[z,<- c,Nat.mul_comm]at e
   omega
  rw[this];simp;omega
 ·omega
theorem sq_gt{N n y:Nat}(hn:0<n)(h:N<y*n):stQ N n<2*y:=by
 unfold stQ
 have h1:N/n<y:=(Nat.div_lt_iff_lt_mul hn).2 h
 have:(N%n != 0).toNat<=1:=by cases(N%n != 0)<;>decide
 omega
theorem q_low{N n d r:Nat}(hn:0<n)(hW:18014398509481984<=stQ N n)(h:(mv r+mv (r+1))*n<N*2 ^ (d+2)):r+1<=rung 52 0 (stQ N n*2 ^ d):=by
 rcases Nat.lt_or_ge (stQ N n*2 ^ d) (mv (r+1))with c | c
 ·have hr:=rM hW c
  obtain⟨y,hy⟩:=rL (r:=r) (d:=d) (by omega)
  rw[hy,Nat.mul_right_comm]at h
  have h1:y*n<N:=Nat.lt_of_mul_lt_mul_right h
  have h2:=sq_lt hn h1
  have h3:mv r+mv (r+1)<2*(stQ N n*2 ^ d):=by
   rw[hy,show d+2=d+1+1 by omega,Nat.pow_succ,Nat.pow_succ]
   have:=(Nat.mul_lt_mul_right (Nat.two_pow_pos d)).2 h2
   generalize 2 ^ d=b at*
   generalize stQ N n=W at*
   have e1:y*(b*2*2)=2*(2*y*b):=by rw[show b*2*2=b*4 by omega,show 2*(2*y*b)=y*b*4 by rw[Nat.mul_assoc 2 y b];omega,Nat.mul_assoc]
   omega
  have hlow:mv r<=stQ N n*2 ^ d:=by
   have:=mK (r:=r) (r':=r+1)
   omega
  have:=dY 52 0 r (stQ N n*2 ^ d) (by omega) (by rw[Nat.pow_zero,Nat.mul_one];exact hlow) (by rw[Nat.pow_zero,Nat.mul_one];exact c)
  rw[if_pos (.inl (by rw[Nat.pow_zero,Nat.mul_one];exact h3))]at this
  omega
 ·exact mG (by omega) (by rw[Nat.pow_zero,Nat.mul_one];exact c)
theorem q_up{N n d r:Nat}(hn:0<n)(hW:18014398509481984<=stQ N n)(h:N*2 ^ (d+2)<(mv r+mv (r+1))*n):rung 52 0 (stQ N n*2 ^ d)<=r:=by
 rcases Nat.lt_or_ge (stQ N n*2 ^ d) (mv (r+1))with c | c
 ·rcases Nat.lt_or_ge (mv r) (stQ N n*2 ^ d)with c2 | c2
  ·have hr:=rM hW c
   obtain⟨y,hy⟩:=rL (r:=r) (d:=d) (by omega)
   rw[hy,Nat.mul_right_comm]at h
   have h1:N<y*n:=Nat.lt_of_mul_lt_mul_right h
   have h2:=sq_gt hn h1
   have h3:2*(stQ N n*2 ^ d)<mv r+mv (r+1):=by
    rw[hy,show d+2=d+1+1 by omega,Nat.pow_succ,Nat.pow_succ]
    have:=(Nat.mul_lt_mul_right (Nat.two_pow_pos d)).2 h2
    generalize 2 ^ d=b at*
    generalize stQ N n=W at*
    have e1:y*(b*2*2)=2*(2*y*b):=by rw[show b*2*2=b*4 by omega,show 2*(2*y*b)=y*b*4 by rw[Nat.mul_assoc 2 y b];omega,Nat.mul_assoc]
    omega
   have:=dY 52 0 r (stQ N n*2 ^ d) (by omega) (by rw[Nat.pow_zero,Nat.mul_one];exact Nat.le_of_lt c2) (by rw[Nat.pow_zero,Nat.mul_one];exact c)
   rw[if_neg (by rw[Nat.pow_zero,Nat.mul_one];show¬(mv r+mv (r+1)<_\/(mv r+mv (r+1)=_/\_));omega)]at this
   omega
  ·exact vV (by omega) (by rw[Nat.pow_zero,Nat.mul_one];exact c2)
 ·exfalso
  have hr:2*mv (r+1)<=2*(stQ N n*2 ^ d):=by omega
  have hn':=(mK (r:=r) (r':=r+1)).2 (by omega)
  have c3:mv r+mv (r+1)<=2*mv (r+1):=by omega
  by_cases g:(d+3)*4503599627370496<=r
  ·obtain⟨y,hy⟩:=rL (r:=r) (d:=d) g
   rw[hy,Nat.mul_right_comm]at h
   have h1:N<y*n:=Nat.lt_of_mul_lt_mul_right h
   have h2:=sq_gt hn h1
   have:=(Nat.mul_lt_mul_right (Nat.two_pow_pos d)).2 h2
   rw[hy,show d+2=d+1+1 by omega,Nat.pow_succ,Nat.pow_succ]at c3
   generalize 2 ^ d=b at*
   generalize stQ N n=W at*
   have e1:y*(b*2*2)=2*(2*y*b):=by rw[show b*2*2=b*4 by omega,show 2*(2*y*b)=y*b*4 by rw[Nat.mul_assoc 2 y b];omega,Nat.mul_assoc]
   omega
  ·have e2:=gL (d+2) ((d+3)*4503599627370496) (by
    have e:(2:Nat) ^ 52=4503599627370496:=by decide
    rw[e])
   have hle:mv (r+1)<=mv ((d+3)*4503599627370496):=mK.2 (by omega)
   have h5:(mv r+mv (r+1))*n<=2*2 ^ (52+(d+2))*n:=Nat.mul_le_mul_right n (by omega)
   have h6:2*2 ^ (52+(d+2))*n=9007199254740992*n*2 ^ (d+2):=by
    rw[show 2*2 ^ (52+(d+2))=9007199254740992*2 ^ (d+2)by rw[Nat.pow_add 2 52 (d+2),<- Nat.mul_assoc],Nat.mul_right_comm]
   have h7:N<9007199254740992*n:=by
    refine Nat.lt_of_mul_lt_mul_right (a:=2 ^ (d+2)) ?_
    omega
   have:=sq_gt hn h7
   omega
theorem uN{q:Nat}(q1:4503599627370496<=q)(q2:q<9218868437227405312):canonB q=q:=by
 have mq:mg q=q:=bG (by omega)
 unfold canonB
 rw[mq,if_neg (by unfold isN;rw[mq];simp;omega),if_neg (by omega)]
theorem wM{x l:Nat}(x1:4503599627370496<=x)(x2:x<9218868437227405312)(l1:4503599627370496<=l)(l2:l<9218868437227405312)
  (h1:l/4503599627370496<=x/4503599627370496+1010) (h2:x/4503599627370496<=l/4503599627370496+1006):
  ∃N n d g,0<g/\0<n/\18014398509481984<=stQ N n/\dvB x l=rung 52 0 (stQ N n*2 ^ d)/\n*g=mv l/\N*2 ^ (d+2)*g=2*(mv x*2 ^ K)/\4503599627370496<=dvB x l/\dvB x l<=9146810843189477376:=by
 obtain⟨W,w1,w2,w3,e1⟩:=div_pos x1 x2 l1 l2
 have hq:W=stQ ((4503599627370496+x%4503599627370496)*2 ^ 54) (4503599627370496+l%4503599627370496):=by rw[w3];unfold stQ;rw[Nat.shiftLeft_eq]
 have px:=mU x1
 have pl:=mU l1
 have hlp:=d_lp
 have ha:1<=x/4503599627370496/\1<=l/4503599627370496:=by omega
 clear w3
 generalize x/4503599627370496=a at*
 generalize l/4503599627370496=c at*
 obtain⟨d,hd⟩: ∃d:Nat,(((a - 1:Nat):Int) - ((c - 1:Nat):Int) - 55)=double.leastPlace+(d:Int):=⟨((((a - 1:Nat):Int) - ((c - 1:Nat):Int) - 55) - double.leastPlace).toNat,by omega⟩
 have hdle:d<=2025:=by omega
 have hdk:d+2+54+(c - 1)=(a - 1)+1+K:=by unfold K;omega
 rw[iY double false W d _ hd,fS,cF]at e1
 have h0:W*2 ^ d≠0:=Nat.mul_ne_zero (by omega) (by have:=Nat.two_pow_pos d;omega)
 have hlog:52+0<=(W*2 ^ d).log2:=by
  refine(Nat.le_log2 h0).2 ?_
  have e:(2:Nat) ^ (52+0)=4503599627370496:=by decide
  rw[e]
  have:=Nat.two_pow_pos d
  exact Nat.le_trans (by omega) (Nat.le_mul_of_pos_right W this)
 have hb:=rung_big hlog h0
 have hle:=rung_E17 (le_E17 w2 hdle)
 have hfb:double.fractionBits=52:=rfl
 rw[hfb]at e1
 refine⟨(4503599627370496+x%4503599627370496)*2 ^ 54,4503599627370496+l%4503599627370496,d,2 ^ (c - 1),Nat.two_pow_pos _,by omega,by omega,?_,pl.symm,?_,?_⟩
 ·rw[<- hq]
  generalize rung 52 0 (W*2 ^ d)=r at*
  simp only[Bool.false_eq_true,if_false]at e1
  rw[Nat.min_eq_left (by omega)]at e1
  rw[fN e1]
  exact uN hb (by omega)
 ·rw[px]
  generalize 4503599627370496+x%4503599627370496=m
  rw[show m*2 ^ 54*2 ^ (d+2)*2 ^ (c - 1)=m*2 ^ (d+2+54+(c - 1))by rw[Nat.mul_assoc,Nat.mul_assoc,<- Nat.pow_add,<- Nat.pow_add];congr 2;omega,hdk,Nat.pow_add,Nat.pow_add,Nat.pow_one]
  generalize 2 ^ (a - 1)=u
  generalize 2 ^ K=v
  rw[show u*2*v=2*(u*v)by rw[Nat.mul_comm u 2,Nat.mul_assoc],<- Nat.mul_assoc m 2,Nat.mul_comm m 2,Nat.mul_assoc,Nat.mul_assoc]
 ·generalize rung 52 0 (W*2 ^ d)=r at*
  simp only[Bool.false_eq_true,if_false]at e1
  rw[Nat.min_eq_left (by omega)]at e1
  rw[fN e1,uN hb (by omega)]
  exact⟨hb,hle⟩
end
section
open Tf Ieee
def Qn(x l:Nat):Prop:=(4503599627370496<=x/\x<9218868437227405312)/\(4503599627370496<=l/\l<9218868437227405312)/\l/4503599627370496<=x/4503599627370496+1010/\x/4503599627370496<=l/4503599627370496+1006
theorem dq_low{x l r:Nat}(q:Qn x l)(h:(mv r+mv (r+1))*mv l<2*(mv x*2 ^ K)):r+1<=dvB x l:=by
 obtain⟨⟨x1,x2⟩,⟨l1,l2⟩,h1,h2⟩:=q
 obtain⟨N,n,d,g,hg,hn,hW,e,e1,e2,-⟩:=wM x1 x2 l1 l2 h1 h2
 rw[e]
 rw[<- e1,<- e2,<- Nat.mul_assoc]at h
 exact q_low hn hW (Nat.lt_of_mul_lt_mul_right h)
theorem dq_up{x l r:Nat}(q:Qn x l)(h:2*(mv x*2 ^ K)<(mv r+mv (r+1))*mv l):dvB x l<=r:=by
 obtain⟨⟨x1,x2⟩,⟨l1,l2⟩,h1,h2⟩:=q
 obtain⟨N,n,d,g,hg,hn,hW,e,e1,e2,-⟩:=wM x1 x2 l1 l2 h1 h2
 rw[e]
 rw[<- e1,<- e2,<- Nat.mul_assoc]at h
 exact q_up hn hW (Nat.lt_of_mul_lt_mul_right h)
theorem dq_in{x l:Nat}(q:Qn x l):4503599627370496<=dvB x l/\dvB x l<=9146810843189477376:=by
 obtain⟨⟨x1,x2⟩,⟨l1,l2⟩,h1,h2⟩:=q
 obtain⟨N,n,d,g,hg,hn,hW,e,e1,e2,e3⟩:=wM x1 x2 l1 l2 h1 h2
 exact e3
theorem dv_mono{x x' l:Nat}(q:Qn x l)(q':Qn x' l)(h:x<=x'):dvB x l<=dvB x' l:=by
 rcases Nat.lt_or_ge (dvB x' l) (dvB x l)with c | c
 ·exfalso
  have a1:(mv (dvB x' l)+mv (dvB x' l+1))*mv l<=2*(mv x*2 ^ K):=by
   rcases Nat.lt_or_ge (2*(mv x*2 ^ K)) ((mv (dvB x' l)+mv (dvB x' l+1))*mv l)with k | k
   ·have:=dq_up q k;omega
   ·exact k
  have a2:2*(mv x'*2 ^ K)<=(mv (dvB x' l)+mv (dvB x' l+1))*mv l:=by
   rcases Nat.lt_or_ge ((mv (dvB x' l)+mv (dvB x' l+1))*mv l) (2*(mv x'*2 ^ K))with k | k
   ·have:=dq_low q' k;omega
   ·exact k
  have a3:mv x'*2 ^ K<=mv x*2 ^ K:=by omega
  have a4:=mK.1 (Nat.le_of_mul_le_mul_right a3 (Nat.two_pow_pos K))
  have e:x=x':=by omega
  subst e
  exact Nat.lt_irrefl _ c
 ·exact c
theorem dv_anti{x l l':Nat}(q:Qn x l)(q':Qn x l')(h:l<=l'):dvB x l'<=dvB x l:=by
 rcases Nat.lt_or_ge (dvB x l) (dvB x l')with c | c
 ·exfalso
  have a1:(mv (dvB x l)+mv (dvB x l+1))*mv l'<=2*(mv x*2 ^ K):=by
   rcases Nat.lt_or_ge (2*(mv x*2 ^ K)) ((mv (dvB x l)+mv (dvB x l+1))*mv l')with k | k
   ·have:=dq_up q' k;omega
   ·exact k
  have a2:2*(mv x*2 ^ K)<=(mv (dvB x l)+mv (dvB x l+1))*mv l:=by
   rcases Nat.lt_or_ge ((mv (dvB x l)+mv (dvB x l+1))*mv l) (2*(mv x*2 ^ K))with k | k
   ·have:=dq_low q k;omega
   ·exact k
  have hp:0<mv (dvB x l)+mv (dvB x l+1):=by
   have:=DZ (dvB x l)
   have:=Nat.two_pow_pos (dvB x l/4503599627370496 - 1)
   omega
  have a4:=mK.1 (Nat.le_of_mul_le_mul_left (Nat.le_trans a1 a2) hp)
  have e:l=l':=by omega
  subst e
  exact Nat.lt_irrefl _ c
 ·exact c
end
section
open Tf
def K2:Nat:=925
def t32(x:Nat):Nat:=min (rung 23 K2 (mv (mg x))) 2139095040
end
section
open Tf
def H2:Nat:=1050
def t16(x:Nat):Nat:=min (rung 10 H2 (mv (mg x))) 31744
def D16(r:Nat):Nat:=rung 52 0 (mag 10 r*2 ^ H2)
/-! how the code makes the bits of 16 -/
end
section
open Tf
theorem Eh(v:Int)(r:Nat)(h:mv r=v.natAbs)(hr:r<=9218868437227405312):R v=if v<0 then -(r:Int)else(r:Int):=by
 unfold R
 rw[<- h,mL,Nat.min_eq_left hr]
theorem mv_one:mv 4607182418800017408=one:=rfl
theorem R_mv(r:Nat)(hr:r<=9218868437227405312):R (mv r:Int)=r/\R (-(mv r:Int))= -(r:Int):=by
 refine⟨?_,?_⟩
 ·rw[Eh _ r (by rw[Int.natAbs_natCast]) hr,if_neg (by omega)]
 ·rw[Eh _ r (by rw[Int.natAbs_neg,Int.natAbs_natCast]) hr]
  by_cases c:r=0
  ·subst c;rw[iX];simp
  ·have:=(@yC 0 r).2 (by omega)
   rw[iX]at this
   rw[if_pos (by omega)]
theorem cOk_wOk(way:Ieee.Toward)(x:Nat)(hx:x<18446744073709551616):cOk way x=wOk x:=by
 cases n:isN x
 ·by_cases c:4841369599423283200<=mg x
  ·by_cases fx:mg x<9218868437227405312
   ·obtain⟨q,hq⟩:=pM (mg x) c
    rw[<- qG way x hx n]
    have h:=qF way x hx fx
    have e:itV way x=x:=by
     have h3:=h.2.2
     rw[hq,mP _ _ _ _ gA,<- hq]at h3
     have h4:=mv_inj.1 h3
     have w1:=mO x hx
     have w2:=mO (itV way x) (Bw way x)
     rw[h4,h.1]at w2
     rw[w2];exact w1.symm
    rw[e]
   ·rw[<- qG way x hx n,D7 way x hx (by have:=cO.1 n;omega)]
  ·have h1:wOk x=true:=by
    rw[oK x hx,n]
    have hr:rk x=mg x\/rk x= -(mg x:Int):=by unfold rk;split<;>simp
    rw[decide_eq_true (by omega),decide_eq_true (by omega)];rfl
   have e:mv 4841369599423283200=2 ^ 52*one:=dJ 52 _ (by decide)
   have hl:mv (mg x)<2 ^ 52*one:=by rw[<- e];exact yC.2 (by omega)
   have hq:mv (mg x)/one<2 ^ 52:=(Nat.div_lt_iff_lt_mul gA).2 hl
   have hc:=DX way (ng x) (mv (mg x)) one
   have h2:cOk way x=true:=by
    unfold cOk fin
    have h3: -9223372036854775808<=cq way x/\cq way x<9223372036854775808:=by
     unfold cq
     generalize cutq way (ng x) (mv (mg x)) one=Q at*
     split<;>omega
    rw[decide_eq_true (by omega),decide_eq_true h3.1,decide_eq_true h3.2];rfl
   rw[h1,h2]
 ·rw[(D8 way n).1,(wE hx n).1]
end
section
open Go.RowKit Tf
attribute [local go_sem] aK aL aP aQ aR aV aW
def clampM(most:Int):Int:=if most<0 then 0 else most
def clampB(x:Nat)(most:Int):Int:=
 if isN x then 0 else if cOk .even x then min (max (cI .even x) (-clampM most)) (clampM most)else if fgt x 0 then clampM most else -clampM most
theorem FP(x:Nat)(most:Int)(n:isN x=true)(w:World)(hx:x<18446744073709551616):
  Calls prog 120 #[.float .f64 x,.int .i64 most] w fun e w'=>e=.returned (.int .i64 (0))/\ ∃n,w'=w.drewN n:=by
 go_enter func120,ntmps120
 go_wp2_with fail
 refine(eW x _ hx).mono ?_
 rintro e w' ⟨rfl,rfl⟩
 go_wp2
 go_ret
 exact⟨rfl,0,rfl⟩
theorem FQ(x:Nat)(most:Int)(m:Int)(n:isN x=false)(hm:(if most<0 then 0 else most)=m)(_m0:0<=m)(_m1:m<=9223372036854775807)(hi:cI .even x=0)(ho:cOk .even x=false)(g:fgt x 0=true)(w:World)(hx:x<18446744073709551616):
  Calls prog 120 #[.float .f64 x,.int .i64 most] w fun e w'=>e=.returned (.int .i64 (m))/\ ∃n,w'=w.drewN n:=by
 go_enter func120,ntmps120
 go_wp2_with fail
 refine(eW x _ hx).mono ?_
 rintro e w' ⟨rfl,rfl⟩
 go_wp2_with fail
 refine(iO x 0 false _ hx hi ho).mono ?_
 rintro e w' ⟨rfl,k,rfl⟩
 go_wp2
 go_ret
 exact⟨rfl,k,rfl⟩
theorem FR(x:Nat)(most:Int)(m:Int)(n:isN x=false)(hm:(if most<0 then 0 else most)=m)(m0:0<=m)(m1:m<=9223372036854775807)(hi:cI .even x=0)(ho:cOk .even x=false)(g:fgt x 0=false)(w:World)(hx:x<18446744073709551616):
  Calls prog 120 #[.float .f64 x,.int .i64 most] w fun e w'=>e=.returned (.int .i64 (-m))/\ ∃n,w'=w.drewN n:=by
 go_enter func120,ntmps120
 go_wp2_with fail
 refine(eW x _ hx).mono ?_
 rintro e w' ⟨rfl,rfl⟩
 go_wp2_with fail
 refine(iO x 0 false _ hx hi ho).mono ?_
 rintro e w' ⟨rfl,k,rfl⟩
 go_wp2
 go_ret
 exact⟨rfl,k,rfl⟩
theorem clamp_lo(x:Nat)(most:Int)(m:Int)(n:isN x=false)(hm:(if most<0 then 0 else most)=m)(m0:0<=m)(m1:m<=9223372036854775807)(i:Int)(hi:cI .even x=i)(ho:cOk .even x=true)(c:i< -m)(w:World)(hx:x<18446744073709551616):
  Calls prog 120 #[.float .f64 x,.int .i64 most] w fun e w'=>e=.returned (.int .i64 (-m))/\ ∃n,w'=w.drewN n:=by
 go_enter func120,ntmps120
 go_wp2_with fail
 refine(eW x _ hx).mono ?_
 rintro e w' ⟨rfl,rfl⟩
 go_wp2_with fail
 refine(iO x i true _ hx hi ho).mono ?_
 rintro e w' ⟨rfl,k,rfl⟩
 go_wp2
 go_ret
 exact⟨rfl,k,rfl⟩
theorem clamp_hi(x:Nat)(most:Int)(m:Int)(n:isN x=false)(hm:(if most<0 then 0 else most)=m)(m0:0<=m)(m1:m<=9223372036854775807)(i:Int)(hi:cI .even x=i)(ho:cOk .even x=true)(c:m<i)(w:World)(hx:x<18446744073709551616):
  Calls prog 120 #[.float .f64 x,.int .i64 most] w fun e w'=>e=.returned (.int .i64 (m))/\ ∃n,w'=w.drewN n:=by
 go_enter func120,ntmps120
 go_wp2_with fail
 refine(eW x _ hx).mono ?_
 rintro e w' ⟨rfl,rfl⟩
 go_wp2_with fail
 refine(iO x i true _ hx hi ho).mono ?_
 rintro e w' ⟨rfl,k,rfl⟩
 go_wp2
 go_ret
 exact⟨rfl,k,rfl⟩
theorem clamp_in(x:Nat)(most:Int)(m:Int)(n:isN x=false)(hm:(if most<0 then 0 else most)=m)(m0:0<=m)(m1:m<=9223372036854775807)(i:Int)(hi:cI .even x=i)(ho:cOk .even x=true)(c: -m<=i)(c':i<=m)(w:World)(hx:x<18446744073709551616):
  Calls prog 120 #[.float .f64 x,.int .i64 most] w fun e w'=>e=.returned (.int .i64 (i))/\ ∃n,w'=w.drewN n:=by
 go_enter func120,ntmps120
 go_wp2_with fail
 refine(eW x _ hx).mono ?_
 rintro e w' ⟨rfl,rfl⟩
 go_wp2_with fail
 refine(iO x i true _ hx hi ho).mono ?_
 rintro e w' ⟨rfl,k,rfl⟩
 go_wp2
 go_ret
 exact⟨rfl,k,rfl⟩
theorem clamp_at(x:Nat)(most r:Int)(w:World)(hx:x<18446744073709551616)(hm:most<=9223372036854775807)(hr:clampB x most=r):
  Calls prog 120 #[.float .f64 x,.int .i64 most] w fun e w'=>e=.returned (.int .i64 r)/\ ∃n,w'=w.drewN n:=by
 subst hr
 unfold clampB
 have hm':(if most<0 then 0 else most)=clampM most:=rfl
 have m0:0<=clampM most:=by unfold clampM;split<;>omega
 have m1:clampM most<=9223372036854775807:=by unfold clampM;split<;>omega
 generalize clampM most=m at*
 cases n:isN x
 ·rw[if_neg (by decide)]
  cases ho:cOk .even x
  ·have hi:cI .even x=0:=by unfold cI;rw[ho];rfl
   rw[if_neg (by decide)]
   cases g:fgt x 0
   ·rw[if_neg (by decide)];exact FR x most m n hm' m0 m1 hi ho g w hx
   ·rw[if_pos rfl];exact FQ x most m n hm' m0 m1 hi ho g w hx
  ·rw[if_pos rfl]
   by_cases c:cI .even x< -m
   ·rw[show min (max (cI .even x) (-m)) m= -m by omega]
    exact clamp_lo x most m n hm' m0 m1 _ rfl ho c w hx
   ·by_cases c2:m<cI .even x
    ·rw[show min (max (cI .even x) (-m)) m=m by omega]
     exact clamp_hi x most m n hm' m0 m1 _ rfl ho c2 w hx
    ·rw[show min (max (cI .even x) (-m)) m=cI .even x by omega]
     exact clamp_in x most m n hm' m0 m1 _ rfl ho (by omega) (by omega) w hx
 ·rw[if_pos rfl];exact FP x most n w hx
end
section
open Tf
theorem uO(x y:Nat):sv x<=sv y ↔ rk x<=rk y:=by
 have:=iJ y x
 omega
theorem cOk_rk(way:Ieee.Toward)(x:Nat)(hx:x<18446744073709551616)(n:isN x=false):cOk way x=(decide (-4890909195324358656<=rk x)&&decide (rk x<4890909195324358656)):=by
 rw[cOk_wOk way x hx,oK x hx,n];simp
theorem fgt_zero(x:Nat)(hx:x<18446744073709551616)(n:isN x=false):fgt x 0=decide (0<rk x):=by
 have e:rk 0=0:=by decide
 have n0:isN 0=false:=by decide
 rw[fT x 0 hx (by decide),n,n0,e];simp
theorem cI_eq(way:Ieee.Toward)(x:Nat)(h:cOk way x=true):cI way x=cq way x:=by unfold cI;rw[h,if_pos rfl]
theorem tP(most:Int):0<=clampM most:=by unfold clampM;split<;>omega
theorem BM(x:Nat)(most:Int)(hx:x<18446744073709551616)(n:isN x=false):
  clampB x most=if rk x< -4890909195324358656 then -clampM most else if rk x<4890909195324358656 then min (max (cq .even x) (-clampM most)) (clampM most)else clampM most:=by
 have hm:=tP most
 have hk:=cOk_rk .even x hx n
 have hg:=fgt_zero x hx n
 unfold clampB
 rw[n,if_neg (by decide)]
 by_cases c1:rk x< -4890909195324358656
 ·have o:cOk .even x=false:=by rw[hk,decide_eq_false (by omega)];rfl
  rw[if_pos c1,o,hg,if_neg (by decide),decide_eq_false (by omega),if_neg (by decide)]
 ·rw[if_neg c1]
  by_cases c2:rk x<4890909195324358656
  ·have o:cOk .even x=true:=by rw[hk,decide_eq_true (by omega),decide_eq_true c2];rfl
   rw[if_pos c2,o,if_pos rfl,cI_eq .even x o]
  ·have o:cOk .even x=false:=by rw[hk,decide_eq_false c2,Bool.and_false]
   rw[if_neg c2,o,hg,if_neg (by decide),decide_eq_true (by omega),if_pos rfl]
def E16(r:Nat):Nat:=if r=31744 then 9218868437227405312 else D16 r
end
section
open Tf Ieee
def fw(n:Int):Nat:=rn false (n*one)
theorem R_one:R one=4607182418800017408:=(R_mv 4607182418800017408 (by decide)).1
theorem mv_2_63:mv 4890909195324358656=9223372036854775808*one:=by
 have h:=dJ 63 4890909195324358656 (by decide)
 have e:(2:Nat) ^ 63=9223372036854775808:=by decide
 rw[e]at h
 exact h
theorem R_max:R (9223372036854775808*one)=4890909195324358656:=by
 have h:=(R_mv 4890909195324358656 (by decide)).1
 rw[mv_2_63,Int.natCast_mul]at h
 exact h
theorem rn_nn{v:Int}(h:0<=v):rn false v=(R v).toNat:=by
 unfold rn R
 generalize min (rung 52 0 v.natAbs) 9218868437227405312=m
 by_cases z:v=0
 ·rw[if_pos z,if_neg (by decide),if_neg (by omega),Int.toNat_natCast]
 ·rw[if_neg z,decide_eq_false (by omega),if_neg (by decide),if_neg (by omega),Int.toNat_natCast]
theorem fw_R{n:Int}(h:0<=n):fw n=(R (n*one)).toNat:=rn_nn (Int.mul_nonneg h (Int.le_of_lt onep))
theorem fw_in{n:Int}(h1:1<=n)(h2:n<=9223372036854775807):4607182418800017408<=fw n/\fw n<=4890909195324358656:=by
 have a:=Bi (Int.mul_le_mul_of_nonneg_right h1 (Int.le_of_lt onep))
 have b:=Bi (Int.mul_le_mul_of_nonneg_right (show n<=9223372036854775808 by omega) (Int.le_of_lt onep))
 rw[Int.one_mul,R_one]at a
 rw[R_max]at b
 rw[fw_R (by omega)]
 omega
theorem Ei{n m:Int}(h0:0<=n)(h:n<=m):fw n<=fw m:=by
 have a:=Bi (Int.mul_le_mul_of_nonneg_right h (Int.le_of_lt onep))
 rw[fw_R h0,fw_R (by omega)]
 omega
theorem yZ{n m:Int}(n1:1<=n)(n2:n<=9223372036854775807)(m1:1<=m)(m2:m<=9223372036854775807):Qn (fw n) (fw m):=by
 have a:=fw_in n1 n2
 have b:=fw_in m1 m2
 unfold Qn
 omega
def dpB(w a:Int):Nat:=if w<1\/a<1 then 0 else dvB (fw w) (fw a)
theorem lB{w a:Int}(h:w<1\/a<1):dpB w a=0:=by unfold dpB;rw[if_pos h]
theorem pQ{w a:Int}(h1:1<=w)(h2:1<=a):dpB w a=dvB (fw w) (fw a):=by unfold dpB;rw[if_neg (by omega)]
theorem dp_in{w a:Int}(h1:1<=w)(h2:1<=a)(w2:w<=9223372036854775807)(a2:a<=9223372036854775807):4503599627370496<=dpB w a/\dpB w a<=9146810843189477376:=by
 rw[pQ h1 h2]
 exact dq_in (yZ h1 w2 h2 a2)
theorem nF{w a:Int}(w2:w<=9223372036854775807)(a2:a<=9223372036854775807):dpB w a<=9146810843189477376:=by
 by_cases h:w<1\/a<1
 ·rw[lB h];omega
 ·exact(dp_in (by omega) (by omega) w2 a2).2
theorem dp_mono{w w' a:Int}(h:w<=w')(w2:w'<=9223372036854775807)(a2:a<=9223372036854775807):dpB w a<=dpB w' a:=by
 by_cases c:w<1\/a<1
 ·rw[lB c];omega
 ·rw[pQ (by omega) (by omega),pQ (by omega) (by omega)]
  exact dv_mono (yZ (by omega) (by omega) (by omega) a2) (yZ (by omega) w2 (by omega) a2) (Ei (by omega) h)
theorem dp_anti{w a a':Int}(h0:1<=a)(h:a<=a')(w2:w<=9223372036854775807)(a2:a'<=9223372036854775807):dpB w a'<=dpB w a:=by
 by_cases c:w<1
 ·rw[lB (.inl c),lB (.inl c)];omega
 ·rw[pQ (by omega) (by omega),pQ (by omega) (by omega)]
  exact dv_anti (yZ (by omega) w2 h0 (by omega)) (yZ (by omega) w2 (by omega) a2) (Ei (by omega) h)
end
section
open Tf Ieee
theorem fle_of{x y:Nat}(hx:x<18446744073709551616)(hy:y<18446744073709551616)(nx:isN x=false)(ny:isN y=false):(flt x y||feq x y)=decide (rk x<=rk y):=by
 rw[lN x y hx hy,gK x y hx hy,nx,ny]
 by_cases c:rk x<rk y
 ·rw[decide_eq_true c,decide_eq_true (p:=rk x<=rk y) (by omega)];rfl
 ·rw[decide_eq_false c]
  by_cases d:rk x=rk y
  ·rw[decide_eq_true d,decide_eq_true (p:=rk x<=rk y) (by omega)];rfl
  ·rw[decide_eq_false d,decide_eq_false (p:=rk x<=rk y) (by omega)];rfl
theorem fge_of{x y:Nat}(hx:x<18446744073709551616)(hy:y<18446744073709551616)(nx:isN x=false)(ny:isN y=false):(fgt x y||feq x y)=decide (rk y<=rk x):=by
 rw[fT x y hx hy,gK x y hx hy,nx,ny]
 by_cases c:rk y<rk x
 ·rw[decide_eq_true c,decide_eq_true (p:=rk y<=rk x) (by omega)];rfl
 ·rw[decide_eq_false c]
  by_cases d:rk x=rk y
  ·rw[decide_eq_true d,decide_eq_true (p:=rk y<=rk x) (by omega)];rfl
  ·rw[decide_eq_false d,decide_eq_false (p:=rk y<=rk x) (by omega)];rfl
theorem uQ{d:Nat}(h:d<9223372036854775808):sv d=(mv d:Nat):=by
 unfold sv
 rw[bR h,bG h];rfl
def lvl(b:Nat)(w a:Int):Nat:=addB b (dpB w a)
theorem rW{b:Nat}{w a:Int}(hb:b<18446744073709551616)(w2:w<=9223372036854775807)(a2:a<=9223372036854775807):lvl b w a<18446744073709551616:=iZ b _ hb (by have:=nF w2 a2;omega)
end
section
open Tf
namespace Ss
def btw(x lo hi:Nat):Bool:=(fgt x lo||feq x lo)&&(flt x hi||feq x hi)&&decide (x≠9223372036854775808)
def fp(p:Nat->Bool)(n:Nat):Int:=match(List.range n).find? p with
 | some i=>(i:Int)
 | none=> -1
theorem BO{p:Nat->Bool}{n k:Nat}(h: ∀i,i<k->p i=false)(hk:p k=true)(hn:k<n):fp p n=(k:Nat):=by
 have e:(List.range n).find? p=some k:=by
  rw[List.find?_range_eq_some]
  exact⟨hk,List.mem_range.2 hn,fun j hj=>by rw[h j hj];rfl⟩
 unfold fp
 rw[e]
theorem fI{p:Nat->Bool}{n:Nat}(h: ∀i,i<n->p i=false):fp p n= -1:=by
 have e:(List.range n).find? p=none:=by
  rw[List.find?_eq_none]
  intro x hx
  rw[h x (List.mem_range.1 hx)]
  decide
 unfold fp
 rw[e]
theorem zA(p:Nat->Bool)(n:Nat):(fp p n= -1/\ ∀i,i<n->p i=false)\/ ∃k,k<n/\fp p n=(k:Nat)/\p k=true/\ ∀i,i<k->p i=false:=by
 cases e:(List.range n).find? p with
 | none=>
  refine .inl ⟨by unfold fp;rw[e],fun i hi=> ?_⟩
  have:=List.find?_eq_none.1 e i (List.mem_range.2 hi)
  cases q:p i with
  | false=>rfl
  | true=>exact absurd q this
 | some k=>
  obtain⟨h1,h2,h3⟩:=List.find?_range_eq_some.1 e
  refine .inr ⟨k,List.mem_range.1 h2,by unfold fp;rw[e],h1,fun i hi=> ?_⟩
  have:=h3 i hi
  cases q:p i with
  | false=>rfl
  | true=>rw[q]at this;cases this
theorem wN{p:Nat->Bool}{n:Nat}(h:fp p n<0): ∀i,i<n->p i=false:=by
 rcases zA p n with⟨_,q⟩ | ⟨k,_,e,_⟩
 ·exact q
 ·omega
theorem fp_ge(p:Nat->Bool)(n:Nat): -1<=fp p n/\fp p n<n:=by
 rcases zA p n with⟨e,_⟩ | ⟨k,hk,e,_⟩<;>omega
def bB(B:Nat->Nat)(i:Nat):Bool:= !btw (B i) 13920626448202203136 4697254411347427328
def bS(S:Nat->Nat)(i:Nat):Bool:= !btw (S i) 13875590451928498176 4652218415073722368
def bQ(W:Nat->Int)(th:Int)(i:Nat):Bool:=decide (W i<0)||decide (4503599627370496 - (th+Sh.sumN W i)<W i)
def chN(N:Nat)(lb lw lt ls:Nat)(B:Nat->Nat)(W T:Nat->Int)(S:Nat->Nat)(sky st:Int):Int × Int:=
 if lb≠N then(0,12)else if lw≠N then(1,12)else if lt≠N then(2,12)else if ls≠2*N then(3,12)
 else if 0<=fp (bB B) N then(fp (bB B) N,13)
 else if sky<0\/4503599627370496<sky then(0,17)
 else if 0<=fp (bQ W sky) N then(fp (bQ W sky) N,14)
 else if 0<=fp (bQ T 0) N then(fp (bQ T 0) N,15)
 else if 0<=fp (bS S) (2*N)then(fp (bS S) (2*N),16)
 else if st<0\/4611686018427387904<st then(0,1)else(0,0)
def chk(side:Int)(lb lw lt ls:Nat)(B:Nat->Nat)(W T:Nat->Int)(S:Nat->Nat)(sky st:Int):Int × Int:=
 if 1<=side/\side<=32 then chN (6*side.toNat*side.toNat) lb lw lt ls B W T S sky st else(0,10)
def okN(N:Nat)(B:Nat->Nat)(W T:Nat->Int)(S:Nat->Nat)(sky st:Int):Prop:=
 (∀i,i<N->bB B i=false)/\(0<=sky/\sky<=4503599627370496)/\((∀i,i<N->0<=W i)/\sky+Sh.sumN W N<=4503599627370496)/\Rv.okV N T/\(∀i,i<2*N->bS S i=false)/\0<=st/\st<=4611686018427387904
theorem lC{W:Nat->Int}{th:Int}{n:Nat}(ht:th<=4503599627370496):(∀i,i<n->bQ W th i=false) ↔ (∀i,i<n->0<=W i)/\th+Sh.sumN W n<=4503599627370496:=by
 constructor
 ·intro h
  have f: ∀i,i<n->0<=W i/\th+Sh.sumN W i+W i<=4503599627370496:=fun i hi=>by
   have:=h i hi
   unfold bQ at this
   rw[Bool.or_eq_false_iff,decide_eq_false_iff_not,decide_eq_false_iff_not]at this
   omega
  refine⟨fun i hi=>(f i hi).1,?_⟩
  cases n with
  | zero=>show th+0<=_;omega
  | succ m=>
   have:=(f m (by omega)).2
   show th+(Sh.sumN W m+W m)<=_
   omega
 ·rintro⟨h1,h2⟩ i hi
  have m:=Sh.eI h1 (m:=i+1) (by omega)
  have e:Sh.sumN W (i+1)=Sh.sumN W i+W i:=rfl
  have:=h1 i hi
  unfold bQ
  rw[Bool.or_eq_false_iff,decide_eq_false_iff_not,decide_eq_false_iff_not]
  omega
theorem chN_ok{N lb lw lt ls:Nat}{B:Nat->Nat}{W T:Nat->Int}{S:Nat->Nat}{sky st:Int}:
  (chN N lb lw lt ls B W T S sky st).2=0 ↔ (lb=N/\lw=N/\lt=N/\ls=2*N)/\okN N B W T S sky st:=by
 unfold chN
 by_cases h1:lb=N
 ·rw[if_neg (by omega)]
  by_cases h2:lw=N
  ·rw[if_neg (by omega)]
   by_cases h3:lt=N
   ·rw[if_neg (by omega)]
    by_cases h4:ls=2*N
    ·rw[if_neg (by omega)]
     by_cases h5:0<=fp (bB B) N
     ·rw[if_pos h5]
      refine⟨fun q=>by simp at q,fun q=> ?_⟩
      rw[fI q.2.1]at h5
      omega
     ·rw[if_neg h5]
      have k5:=wN (p:=bB B) (n:=N) (by omega)
      by_cases h6:sky<0\/4503599627370496<sky
      ·rw[if_pos h6]
       refine⟨fun q=>by simp at q,fun q=> ?_⟩
       have:=q.2.2.1
       omega
      ·rw[if_neg h6]
       by_cases h7:0<=fp (bQ W sky) N
       ·rw[if_pos h7]
        refine⟨fun q=>by simp at q,fun q=> ?_⟩
        rw[fI ((lC (by omega)).2 q.2.2.2.1)]at h7
        omega
       ·rw[if_neg h7]
        have k7:=(lC (by omega)).1 (wN (p:=bQ W sky) (n:=N) (by omega))
        by_cases h8:0<=fp (bQ T 0) N
        ·rw[if_pos h8]
         refine⟨fun q=>by simp at q,fun q=> ?_⟩
         rw[fI ((lC (by omega)).2 ⟨q.2.2.2.2.1.1,by have:=q.2.2.2.2.1.2;omega⟩)]at h8
         omega
        ·rw[if_neg h8]
         have k8:=(lC (th:=0) (by omega)).1 (wN (p:=bQ T 0) (n:=N) (by omega))
         by_cases h9:0<=fp (bS S) (2*N)
         ·rw[if_pos h9]
          refine⟨fun q=>by simp at q,fun q=> ?_⟩
          rw[fI q.2.2.2.2.2.1]at h9
          omega
         ·rw[if_neg h9]
          have k9:=wN (p:=bS S) (n:=2*N) (by omega)
          by_cases h10:st<0\/4611686018427387904<st
          ·rw[if_pos h10]
           refine⟨fun q=>by simp at q,fun q=> ?_⟩
           have:=q.2.2.2.2.2.2
           omega
          ·rw[if_neg h10]
           exact⟨fun _=>⟨⟨h1,h2,h3,h4⟩,k5,⟨by omega,by omega⟩,k7,⟨k8.1,by have:=k8.2;omega⟩,k9,by omega,by omega⟩,fun _=>rfl⟩
    ·rw[if_pos h4]
     exact⟨fun q=>by simp at q,fun q=>absurd q.1.2.2.2 h4⟩
   ·rw[if_pos h3]
    exact⟨fun q=>by simp at q,fun q=>absurd q.1.2.2.1 h3⟩
  ·rw[if_pos h2]
   exact⟨fun q=>by simp at q,fun q=>absurd q.1.2.1 h2⟩
 ·rw[if_pos h1]
  exact⟨fun q=>by simp at q,fun q=>absurd q.1.1 h1⟩
theorem chN_zero{N lb lw lt ls:Nat}{B:Nat->Nat}{W T:Nat->Int}{S:Nat->Nat}{sky st:Int}(h:(lb=N/\lw=N/\lt=N/\ls=2*N)/\okN N B W T S sky st):chN N lb lw lt ls B W T S sky st=(0,0):=by
 obtain⟨⟨rfl,rfl,rfl,rfl⟩,o1,o2,o3,o4,o5,o6⟩:=h
 unfold chN
 rw[if_neg (by omega),if_neg (by omega),if_neg (by omega),if_neg (by omega),if_neg (by rw[fI o1];omega),if_neg (by omega),if_neg (by rw[fI ((lC (by omega)).2 o3)];omega),if_neg (by rw[fI ((lC (by omega)).2 ⟨o4.1,by have:=o4.2;omega⟩)];omega),if_neg (by rw[fI o5];omega),if_neg (by omega)]
def rB(n:Int)(r:Int × Int × Int × Int):Bool:=decide (0<=r.1)&&decide (r.1<n)&&decide (-4503599627370496<=r.2.1)&&decide (r.2.1<=4503599627370496)&&decide (0<=r.2.2.1)&&decide (r.2.2.1<=r.2.2.2)
def plE(sd:Int)(dt gr dr:Nat)(lim:Int)(lr:Nat)(R:Nat->Int × Int × Int × Int):Int:=
 if¬(1<=sd/\sd<=32)then 10
 else if¬(btw dt 0 4652218415073722368=true/\feq dt 0=false/\btw gr 0 4652218415073722368=true/\btw dr 0 4652218415073722368=true/\(0<=lim/\lim<=3))then 11
 else if¬(lr<=1024/\ ∀k,k<lr->rB ((6*sd.toNat*sd.toNat:Nat):Int) (R k)=true)then 18 else 0
def eqL{α:Type} [DecidableEq α](n m:Nat)(f g:Nat->α):Bool:=decide (n=m/\ ∀i,i<n->f i=g i)
end Ss
end
section
open Tf Ieee
def leer(a b:Nat):Nat:=dvB (mlB (mlB 4611686018427387904 a) b) (plB a b)
end
section
open Tf Ieee
theorem Ej(W:Nat)(p:Int): ∃r,r<=9218868437227405312/\double.nearest false W p=r:=by
 have hlp:=d_lp
 by_cases h:double.leastPlace<=p
 ·obtain⟨d,hd⟩: ∃d:Nat,p=double.leastPlace+(d:Int):=⟨(p - double.leastPlace).toNat,by omega⟩
  rw[iY double false W d _ hd,fS,cF]
  simp only[Bool.false_eq_true,if_false]
  exact⟨_,Nat.min_le_right _ _,rfl⟩
 ·obtain⟨d,hd⟩: ∃d:Nat,p=double.leastPlace - (d:Int):=⟨(double.leastPlace - p).toNat,by omega⟩
  rw[hd,fY double false W d,fS,cF]
  simp only[Bool.false_eq_true,if_false]
  exact⟨_,Nat.min_le_right _ _,rfl⟩
theorem zB{r:Nat}(h:r<=9218868437227405312):canonB r=r:=by
 have mr:mg r=r:=bG (by omega)
 unfold canonB
 rw[mr,if_neg (by unfold isN;rw[mr];simp;omega)]
 split<;>omega
theorem Ek{x:Nat}(h:x<=9218868437227405312):double.read x=.infinity false\/ ∃m p,double.read x=.number false m p:=by
 have mx:mg x=x:=bG (by omega)
 by_cases c:x=9218868437227405312
 ·subst c
  exact .inl (by decide+kernel)
 ·right
  obtain⟨m,a,h1,-⟩:=cJ double x (by show mg x<9218868437227405312;omega)
  have hs:sg double x=false:=by
   rw[fJ x (by omega)]
   exact bR (by omega)
  rw[hs]at h1
  exact⟨m,_,h1⟩
theorem dv_nn{x y:Nat}(hx:x<=9218868437227405312)(hy:y<=9218868437227405312):dvB x y=quiet\/dvB x y<=9218868437227405312:=by
 have key:double.div x y=none\/ ∃r,r<=9218868437227405312/\double.div x y=some r:=by
  show((double.read x).quotient 54 (double.read y)).map double.write=none\/ ∃r,r<=9218868437227405312/\((double.read x).quotient 54 (double.read y)).map double.write=some r
  rcases Ek hx with e1 | ⟨m,p,e1⟩<;>rcases Ek hy with e2 | ⟨n,q,e2⟩<;>rw[e1,e2]<;>unfold Datum.quotient<;>dsimp only
  ·exact .inl rfl
  ·exact .inr ⟨9218868437227405312,Nat.le_refl _,by decide+kernel⟩
  ·obtain⟨r,r1,r2⟩:=Ej 0 0
   exact .inr ⟨r,r1,by show some (double.nearest false 0 0)=_;rw[r2]⟩
  ·by_cases hn:n=0
   ·rw[if_pos hn]
    by_cases hm:m=0
    ·rw[if_pos hm];exact .inl rfl
    ·rw[if_neg hm];exact .inr ⟨9218868437227405312,Nat.le_refl _,by decide+kernel⟩
   ·rw[if_neg hn]
    obtain⟨r,r1,r2⟩:=Ej (2*(m <<< (54+n.log2 - m.log2)/n)+(m <<< (54+n.log2 - m.log2)%n != 0).toNat) (p - q - ((54+n.log2 - m.log2:Nat):Int) - 1)
    exact .inr ⟨r,r1,by show some (double.nearest false _ _)=_;rw[<- r2]⟩
 rcases key with h | ⟨r,r1,h⟩
 ·exact .inl (gO h)
 ·rw[fN h,zB r1]
  exact .inr r1
theorem ml_nn{x y:Nat}(hx:x<=9218868437227405312)(hy:y<=9218868437227405312)(x0:0<x)(y0:0<y):mlB x y<=9218868437227405312:=by
 have mx:mg x=x:=bG (by omega)
 have my:mg y=y:=bG (by omega)
 have nx:ng x=false:=bR (by omega)
 have ny:ng y=false:=bR (by omega)
 have hi:infW (false ^^ false)=9218868437227405312:=by decide
 by_cases cx:x=9218868437227405312
 ·by_cases cy:y=9218868437227405312
  ·have e:=mul_ii x y (by omega) (by omega) (by omega) (by omega)
   rw[dR e,nx,ny,hi]
   exact Nat.le_refl _
  ·have e:=mul_if x y (by omega) (by omega) (by omega) (by omega)
   rw[if_neg (by omega)]at e
   rw[dR e,nx,ny,hi]
   exact Nat.le_refl _
 ·by_cases cy:y=9218868437227405312
  ·have e:=rG x y (by omega) (by omega) (by omega) (by omega)
   rw[if_neg (by omega)]at e
   rw[dR e,nx,ny,hi]
   exact Nat.le_refl _
  ·rw[Eg (by omega) (by omega)]
   exact Nat.min_le_right _ _
theorem leer_nn{a b:Nat}(ha:a<=9218868437227405312)(hb:b<=9218868437227405312)(a0:0<a)(b0:0<b):leer a b=quiet\/leer a b<=9218868437227405312:=by
 have d:=gQ ha
 exact dv_nn (ml_nn d.1 hb (by omega) b0) (plB_nn ha hb).1
end
section
open Tf Ieee
theorem El{l b:Nat}(hl:l<18446744073709551616)(hb:b<18446744073709551616):fgt l b=true ↔ isN l=false/\isN b=false/\rk b<rk l:=by
 rw[fT l b hl hb]
 cases isN l<;>cases isN b<;>simp
end
section
open Tf Ieee
def ps(a:Nat):Bool:=decide (0<a/\a<=9218868437227405312)
def ns(a:Nat):Bool:=decide (9223372036854775808<a/\a<=18442240474082181120)
theorem cA{a:Nat}:ps a=true ↔ 0<a/\a<=9218868437227405312:=by unfold ps;rw[decide_eq_true_iff]
theorem fW{a:Nat}:ns a=true ↔ 9223372036854775808<a/\a<=18442240474082181120:=by unfold ns;rw[decide_eq_true_iff]
theorem ps_no{a:Nat}:ps a=false ↔ a=0\/9218868437227405312<a:=by unfold ps;rw[decide_eq_false_iff_not];omega
theorem qJ:rk 0=0:=by decide
theorem dE{a:Nat}(ha:a<18446744073709551616):fgt a 0=ps a:=by
 rw[fT a 0 ha (by decide),qJ,show isN 0=false by decide]
 unfold ps isN rk ng mg
 by_cases c:9223372036854775808<=a
 ·rw[decide_eq_true c,if_pos rfl,decide_eq_false (p:=0<a/\_) (by omega),decide_eq_false (p:=(0:Int)<_) (by omega),Bool.and_false]
 ·rw[decide_eq_false c,if_neg (by decide),Nat.mod_eq_of_lt (by omega)]
  by_cases d:9218868437227405312<a
  ·rw[decide_eq_true d,decide_eq_false (p:=0<a/\_) (by omega)];rfl
  ·rw[decide_eq_false d]
   by_cases e:0<a
   ·rw[decide_eq_true (p:=0<a/\_) (by omega),decide_eq_true (p:=(0:Int)<_) (by omega)];rfl
   ·rw[decide_eq_false (p:=0<a/\_) (by omega),decide_eq_false (p:=(0:Int)<_) (by omega)];rfl
theorem eB{a:Nat}(ha:a<18446744073709551616):flt a 0=ns a:=by
 rw[lN a 0 ha (by decide),qJ,show isN 0=false by decide]
 unfold ns isN rk ng mg
 by_cases c:9223372036854775808<=a
 ·rw[decide_eq_true c,if_pos rfl]
  have e:a%9223372036854775808=a - 9223372036854775808:=by omega
  rw[e]
  by_cases d:9218868437227405312<a - 9223372036854775808
  ·rw[decide_eq_true d,decide_eq_false (p:=9223372036854775808<a/\_) (by omega)];rfl
  ·rw[decide_eq_false d]
   by_cases e:9223372036854775808<a
   ·rw[decide_eq_true (p:=9223372036854775808<a/\_) (by omega),decide_eq_true (p:= -_<(0:Int)) (by omega)];rfl
   ·rw[decide_eq_false (p:=9223372036854775808<a/\_) (by omega),decide_eq_false (p:= -_<(0:Int)) (by omega)];rfl
 ·rw[decide_eq_false c,if_neg (by decide),decide_eq_false (p:=9223372036854775808<a/\_) (by omega),decide_eq_false (p:=_<(0:Int)) (by omega),Bool.and_false]
theorem nn_N{a:Nat}(h:a<=9218868437227405312):isN a=false:=cO.2 (by rw[bG (by omega)];exact h)
theorem flt_nn{a b:Nat}(ha:a<=9218868437227405312)(hb:b<=9218868437227405312):flt a b=decide (a<b):=by
 rw[lN a b (by omega) (by omega),kD a (by omega),kD b (by omega),nn_N ha,nn_N hb]
 by_cases c:a<b
 ·rw[decide_eq_true c,decide_eq_true (by omega)];rfl
 ·rw[decide_eq_false c,decide_eq_false (by omega)];rfl
theorem fgt_nn{a b:Nat}(ha:a<=9218868437227405312)(hb:b<=9218868437227405312):fgt a b=decide (b<a):=by
 rw[fT a b (by omega) (by omega),kD a (by omega),kD b (by omega),nn_N ha,nn_N hb]
 by_cases c:b<a
 ·rw[decide_eq_true c,decide_eq_true (by omega)];rfl
 ·rw[decide_eq_false c,decide_eq_false (by omega)];rfl
theorem feq_nn{a b:Nat}(ha:a<=9218868437227405312)(hb:b<=9218868437227405312):feq a b=decide (a=b):=by
 rw[gK a b (by omega) (by omega),kD a (by omega),kD b (by omega),nn_N ha,nn_N hb]
 by_cases c:a=b
 ·rw[decide_eq_true c,decide_eq_true (by omega)];rfl
 ·rw[decide_eq_false c,decide_eq_false (by omega)];rfl
def lr(a b:Nat):Nat:=if leer a b<9218868437227405312 then leer a b else 0
def lm(k:Int)(a b:Nat):Nat:=if k=1 then min a b else if k=2 then sbee a b else if k=3 then lr a b else 0
def op(x:Nat):Nat:=if x=0 then 0 else x+9223372036854775808
def slp(k:Int)(a b:Nat):Nat:=if(ps a&&ps b)=true then lm k a b else if(ns a&&ns b)=true then op (lm k (a - 9223372036854775808) (b - 9223372036854775808))else 0
theorem lr_le(a b:Nat):lr a b<9218868437227405312:=by unfold lr;split<;>omega
theorem lK(k:Int){a b:Nat}(ha:a<=9218868437227405312)(hb:b<=9218868437227405312):lm k a b<=9218868437227405312:=by
 have s:=BK ha hb
 have l:=lr_le a b
 unfold lm
 split
 ·omega
 ·split
  ·omega
  ·split<;>omega
theorem op_lt{x:Nat}(h:x<=9218868437227405312):op x<=18442240474082181120:=by unfold op;split<;>omega
theorem slp_lt(k:Int)(a b:Nat):slp k a b<18446744073709551616:=by
 unfold slp
 split
 ·rename_i h
  rw[Bool.and_eq_true,cA,cA]at h
  have:=lK k h.1.2 h.2.2
  omega
 ·split
  ·rename_i h
   rw[Bool.and_eq_true,fW,fW]at h
   have:=op_lt (lK k (a:=a - 9223372036854775808) (b:=b - 9223372036854775808) (by omega) (by omega))
   omega
  ·omega
theorem canon_op{x:Nat}(h:x<=9218868437227405312):canonB (negB x)=op x:=by
 unfold negB op canonB
 rw[bR (by omega)]
 simp only[Bool.false_eq_true,if_false]
 by_cases c:x=0
 ·subst c;decide
 ·have m:mg (x+9223372036854775808)=x:=by unfold mg;omega
  unfold isN
  rw[m,if_neg c,if_neg (by simp;omega)]
theorem kF{a:Nat}(h:9223372036854775808<a):negB a=a - 9223372036854775808:=by
 unfold negB
 rw[if_pos]
 unfold ng;exact decide_eq_true (by omega)
theorem wO{x y:Nat}(hx:x<=9218868437227405312)(hy:y<=9218868437227405312)(x0:0<x)(y0:0<y):Ieee.double.mul x y=some (mlB x y):=by
 have h:=ml_nn hx hy x0 y0
 cases e:Ieee.double.mul x y with
 | none=>rw[dT e]at h;unfold quiet at h;omega
 | some r=>rw[dR e]
theorem add_pp{x y:Nat}(hx:x<=9218868437227405312)(hy:y<=9218868437227405312):Ieee.double.add x y=some (plB x y):=by
 have h:=(plB_nn hx hy).1
 cases e:Ieee.double.add x y with
 | none=>rw[rH e]at h;unfold quiet at h;omega
 | some r=>rw[iK e]
theorem zC{a b:Nat}(ha:a<=9218868437227405312)(hb:b<=9218868437227405312):Ieee.double.order a b=some (if a<b then .lt else if b<a then .gt else .eq):=by
 have h1:=flt_nn ha hb
 have h2:=fgt_nn ha hb
 have h3:=feq_nn ha hb
 unfold flt at h1
 unfold fgt at h2
 unfold feq at h3
 by_cases c:a<b
 ·rw[if_pos c];rw[decide_eq_true c]at h1;simpa using h1
 ·rw[if_neg c]
  by_cases d:b<a
  ·rw[if_pos d];rw[decide_eq_true d]at h2;simpa using h2
  ·rw[if_neg d];rw[decide_eq_true (by omega)]at h3;simpa using h3
theorem lr_le_of{r:Nat}{a b:Nat}(h:IsC r (leer a b))(hn:leer a b=quiet\/leer a b<=9218868437227405312):
  (flt r 9218868437227405311||feq r 9218868437227405311)=decide (leer a b<9218868437227405312)/\(leer a b<9218868437227405312->canonB r=leer a b):=by
 obtain⟨h1,h2⟩:=h
 refine⟨?_,fun _=>h2⟩
 rcases hn with e | e
 ·rw[e]at h2 ⊢
  have nr:isN r=true:=by
   cases k:isN r
   ·unfold canonB at h2
    rw[k]at h2
    have:=cO.1 k
    simp only[Bool.false_eq_true,if_false]at h2
    split at h2
    ·exact absurd h2 (by decide)
    ·rw[h2]at k;exact absurd k (by decide)
   ·rfl
  rw[lN r _ h1 (by decide),gK r _ h1 (by decide),nr]
  rfl
 ·have nr:isN r=false:=by
   cases k:isN r
   ·rfl
   ·unfold canonB at h2
    rw[k,if_pos rfl]at h2
    rw[<- h2]at e
    unfold quiet at e
    omega
  have rr:rk r=leer a b:=by
   unfold canonB at h2
   rw[nr,if_neg (by decide)]at h2
   split at h2
   ·rename_i m
    rw[<- h2]
    unfold rk
    rw[m];split<;>rfl
   ·rw[h2];exact kD _ (by omega)
  rw[lN r _ h1 (by decide),gK r _ h1 (by decide),nr,rr,show isN 9218868437227405311=false by decide,kD 9218868437227405311 (by decide)]
  by_cases c:leer a b<9218868437227405312
  ·rw[decide_eq_true c]
   by_cases d:leer a b=9218868437227405311
   ·rw[d];decide
   ·rw[decide_eq_true (p:=(_:Int)<_) (by omega)];rfl
  ·rw[decide_eq_false c,decide_eq_false (p:=(_:Int)<_) (by omega),decide_eq_false (p:=(_:Int)=_) (by omega)];rfl
end
section
open Tf Ieee
def pos0(r:Nat):Nat:=if fgt r 0=true then r else 0
def rcV(k:Int)(h hb hd:Nat):Nat:=plB h (mlB 4602678819172646912 (slp k (sbB h hb) (sbB hd h)))
def rcG(l bu bd:Nat):Nat:=sbB l (maxB bu bd)
def rcR(k:Int)(h hb hd l bu bd:Nat):Nat:=pos0 (minB (rcV k h hb hd) (rcG l bu bd))
theorem pos0_lt{r:Nat}(h:r<18446744073709551616):pos0 r<18446744073709551616:=by unfold pos0;split<;>omega
theorem isC_N{r c:Nat}(h:IsC r c):isN r=isN c:=by
 have e:=h.2
 unfold canonB at e
 split at e
 ·rename_i k;rw[k,<- e];decide
 ·rename_i k
  split at e
  ·have n:isN r=false:=by simpa using k
   rw[<- e,n];decide
  ·rw[e]
theorem isC_or{r c:Nat}(h:IsC r c)(n:isN r=false):(mg r=0/\c=0)\/r=c:=by
 have e:=h.2
 unfold canonB at e
 rw[n]at e
 by_cases z:mg r=0
 ·exact .inl ⟨z,by simpa [z]using e.symm⟩
 ·exact .inr (by simpa [z]using e)
theorem slp_N(k:Int)(a b:Nat):isN (slp k a b)=false:=by
 unfold slp
 split
 ·rename_i c
  have q:=(Bool.and_eq_true _ _).mp c
  exact nn_N (lK k (cA.1 q.1).2 (cA.1 q.2).2)
 ·split
  ·rename_i c
   have q:=(Bool.and_eq_true _ _).mp c
   have a1:=fW.1 q.1
   have b1:=fW.1 q.2
   have l:=lK k (a:=a - 9223372036854775808) (b:=b - 9223372036854775808) (by omega) (by omega)
   refine cO.2 ?_
   unfold op
   split
   ·unfold mg;omega
   ·unfold mg;omega
  ·decide
theorem wP{a b:Nat}(ha:a<18446744073709551616)(hb:b<18446744073709551616):minB a b<18446744073709551616:=by
 unfold minB
 split
 ·decide
 ·split<;>assumption
theorem zD{a b:Nat}(ha:a<18446744073709551616)(hb:b<18446744073709551616)(na:isN a=false)(nb:isN b=false):
  (minB a b=a\/minB a b=b)/\rk (minB a b)<=rk a/\rk (minB a b)<=rk b:=by
 unfold minB
 rw[na,nb,if_neg (by decide)]
 have key: ∀x y:Nat,x<18446744073709551616->y<18446744073709551616->placeB x<=placeB y->rk x<=rk y:=by
  intro x y hx hy h
  unfold placeB at h
  unfold rk
  cases gx:ng x<;>cases gy:ng y<;>simp only[gx,gy,if_true,if_false,Bool.false_eq_true]at h ⊢ <;>unfold ng at gx gy<;>simp only[decide_eq_true_eq,decide_eq_false_iff_not]at gx gy<;>unfold mg<;>omega
 split
 ·rename_i c
  exact⟨.inr rfl,key _ _ hb ha (by omega),Int.le_refl _⟩
 ·rename_i c
  exact⟨.inl rfl,Int.le_refl _,key _ _ ha hb (by omega)⟩
theorem iQ{a b:Nat}(h:isN a=true\/isN b=true):minB a b=quiet:=by
 unfold minB
 rw[if_pos (by rcases h with h | h<;>simp[h])]
theorem pos0_c{v r g:Nat}(hv:v<18446744073709551616)(h:IsC r g):pos0 (minB v r)=pos0 (minB v g):=by
 cases nv:isN v
 ·cases nr:isN r
  ·rcases isC_or h nr with⟨z,rfl⟩ | rfl
   ·have m1:=zD hv h.1 nv nr
    have m2:=zD hv (b:=0) (by decide) nv (by decide)
    have r0:rk r=0:=by unfold rk;rw[z];simp
    have l1:=wP hv h.1
    have l2:=wP hv (b:=0) (by decide)
    have z1:pos0 (minB v r)=0:=by
     unfold pos0
     rw[if_neg]
     intro q
     have:=((El l1 (by decide)).1 q).2.2
     rw[qJ]at this
     omega
    have z2:pos0 (minB v 0)=0:=by
     unfold pos0
     rw[if_neg]
     intro q
     have:=((El l2 (by decide)).1 q).2.2
     rw[qJ]at this m2
     omega
    rw[z1,z2]
   ·rfl
  ·rw[iQ (.inr nr),iQ (.inr (by rw[<- isC_N h];exact nr))]
 ·rw[iQ (.inl nv),iQ (.inl nv)]
end
section
open Tf Ieee Cu
def ovC(k:Int)(A:Nat->Int)(B:Nat->Nat)(W:Nat->Int)(up down back:Nat):Nat:=
 rcR k (dpB (W up) (A up)) (dpB (W back) (A back)) (dpB (W down) (A down)) (lvl (B up) (W up) (A up)) (B up) (B down)
def bkC(n t:Nat):Nat:=bsC n (t/4) ((t%4+2)%4)
def sdD(n:Nat)(k:Int)(A:Nat->Int)(B:Nat->Nat)(W:Nat->Int)(t:Nat):Nat:=ovC k A B W (t/4) (mt n t/4) (bkC n t)
def rdT(n:Nat)(k:Int)(A:Nat->Int)(B:Nat->Nat)(W:Nat->Int)(t u:Nat):Nat:=
 if fgt u 0=true then sdD n k A B W t else if flt u 0=true then sdD n k A B W (mt n t)else 0
theorem rdT_p{n:Nat}{k:Int}{A:Nat->Int}{B:Nat->Nat}{W:Nat->Int}{t u:Nat}(h:fgt u 0=true):rdT n k A B W t u=sdD n k A B W t:=by unfold rdT;rw[if_pos h]
theorem rdT_n{n:Nat}{k:Int}{A:Nat->Int}{B:Nat->Nat}{W:Nat->Int}{t u:Nat}(h:fgt u 0=false)(g:flt u 0=true):rdT n k A B W t u=sdD n k A B W (mt n t):=by unfold rdT;rw[if_neg (by rw[h];decide),if_pos g]
theorem rdT_0{n:Nat}{k:Int}{A:Nat->Int}{B:Nat->Nat}{W:Nat->Int}{t u:Nat}(h:fgt u 0=false)(g:flt u 0=false):rdT n k A B W t u=0:=by unfold rdT;rw[if_neg (by rw[h];decide),if_neg (by rw[g];decide)]
theorem bk_lt{n t:Nat}(hn:1<=n)(ht:t<24*n*n):bkC n t<6*n*n:=by
 have g:=Bv (s:=(t%4+2)%4) (t:=0) (k:=t/4) hn rfl (aZ ht) (by omega) (by decide) (aZ ht)
 exact g.1.2.2.1
end
section
open Go.RowKit Cu Tf
theorem rawSame9(x:Nat)(v:World):Calls prog 40 #[.float .f64 x,.float .f64 x] v fun e w'=>e=.returned (.bool true)/\w'=v:=by
 have h:=kA x x v
 rw[show sameB x x=true by unfold sameB;simp]at h
 exact h
end
section
open Go.ChangeShapes Go.WideShapes Go.ChangeAt Go.WideMaps Go.WideElems Go.RowKit Cu
theorem own:ownKnob Tryz.prog.godebug=none:=by kernel_rfl
theorem gFrames:Tryz.prog.globalNamed "tarn/cube.frames" =some 1:=by kernel_rfl
theorem tFrames:(Tryz.prog.globals[1]?).map (·.type)=some 203:=by kernel_rfl
theorem door_met(os:Os)(args:Array Value):laidMetH prog [("tarn/cube.frames",Rows.laid_tarn_cube_frames)] ((World.doorLaid prog 400 os).forCall (fun _ _=>0) ⟨#[],args,[]⟩).memory:=
 laidMetH_of_parts3 (fuel:=8) (laidMet_of_run' 8 (by kernel_rfl) (by kernel_rfl)) (by kernel_rfl) (by kernel_rfl)
theorem wQ{H:Type}{enc:TypeId × Value->H}{w:World}{base fuel:Nat}{spare:Nat->Bool}{held:Bool}{cs:List Value}{x:DataW H × List MemPlace}(h:DataW.trod enc prog w base spare held fuel 184 cs=some x)
  (a b c:Int) (e:x.1=.agg [.lit (.int .i64 a),.lit (.int .i64 b),.lit (.int .i64 c)]):cs=[.int .i64 a,.int .i64 b,.int .i64 c]:=by
 have k3:Tryz.prog.cellsOf 3=1:=by kernel_rfl
 have kp:Tryz.prog.cellsOf 184=3:=by kernel_rfl
 obtain⟨xs,m,_,hx,hlen,hn,hel⟩:=DataW.trod_array underlying184 h
 rw[hx]at e
 match xs,hn,cs,hlen.trans kp with
 | [x0,x1,x2],_,[c0,c1,c2],_=>
  have h0:=hel 0 (by decide)
  have h1:=hel 1 (by decide)
  have h2:=hel 2 (by decide)
  simp[k3]at h0 h1 h2
  obtain⟨n0,e0,f0,_⟩:=DataW.trod_int underlying3 h0
  obtain⟨n1,e1,f1,_⟩:=DataW.trod_int underlying3 h1
  obtain⟨n2,e2,f2,_⟩:=DataW.trod_int underlying3 h2
  simp at e0 e1 e2
  simp[f0,f1,f2]at e
  rw[e0,e1,e2,e.1,e.2.1,e.2.2]
theorem fA{H:Type}{enc:TypeId × Value->H}{w:World}{base fuel:Nat}{spare:Nat->Bool}{held:Bool}{cs:List Value}{x:DataW H × List MemPlace}(h:DataW.trod enc prog w base spare held fuel 202 cs=some x)
  (p q r:P3) (e:x.1=.agg [.agg [.lit (.int .i64 p.1),.lit (.int .i64 p.2.1),.lit (.int .i64 p.2.2)],.agg [.lit (.int .i64 q.1),.lit (.int .i64 q.2.1),.lit (.int .i64 q.2.2)],.agg [.lit (.int .i64 r.1),.lit (.int .i64 r.2.1),.lit (.int .i64 r.2.2)]]):
  cs=[.int .i64 p.1,.int .i64 p.2.1,.int .i64 p.2.2,.int .i64 q.1,.int .i64 q.2.1,.int .i64 q.2.2,.int .i64 r.1,.int .i64 r.2.1,.int .i64 r.2.2]:=by
 have kp:Tryz.prog.cellsOf 184=3:=by kernel_rfl
 have kf:Tryz.prog.cellsOf 202=9:=by kernel_rfl
 obtain⟨xs,m,_,hx,hlen,hn,hel⟩:=DataW.trod_struct underlying202 h
 rw[hx]at e
 match xs,hn,cs,hlen.trans kf with
 | [x0,x1,x2],_,[c0,c1,c2,c3,c4,c5,c6,c7,c8],_=>
  have h0:=hel 0 _ rfl
  have h1:=hel 1 _ rfl
  have h2:=hel 2 _ rfl
  simp[kp]at h0 h1 h2
  simp at e
  have e0:=wQ h0 _ _ _ e.1
  have e1:=wQ h1 _ _ _ e.2.1
  have e2:=wQ h2 _ _ _ e.2.2
  simp at e0 e1 e2
  simp[e0,e1,e2]
theorem BP{H:Type}{enc:TypeId × Value->H}{w:World}{base fuel:Nat}{spare:Nat->Bool}{held:Bool}{cs:List Value}{x:DataW H × List MemPlace}(h:DataW.trod enc prog w base spare held fuel 203 cs=some x)
  (e:x.1=Rows.laid_tarn_cube_frames): ∀f,f<6->(cs.drop (f*9)).take 9=[.int .i64 (cC f).1,.int .i64 (cC f).2.1,.int .i64 (cC f).2.2,.int .i64 (cR f).1,.int .i64 (cR f).2.1,.int .i64 (cR f).2.2,.int .i64 (cU f).1,.int .i64 (cU f).2.1,.int .i64 (cU f).2.2]:=by
 have kf:Tryz.prog.cellsOf 202=9:=by kernel_rfl
 obtain⟨xs,m,_,hx,hlen,hn,hel⟩:=DataW.trod_array underlying203 h
 rw[hx]at e
 intro f hf
 have h0:=hel f hf
 rw[kf]at h0
 match xs,hn with
 | [x0,x1,x2,x3,x4,x5],_=>
  simp only[List.map_cons,List.map_nil,Rows.laid_tarn_cube_frames,DataW.agg.injEq,List.cons.injEq]at e
  rcases six hf with rfl | rfl | rfl | rfl | rfl | rfl
  ·exact fA h0 (cC 0) (cR 0) (cU 0) e.1
  ·exact fA h0 (cC 1) (cR 1) (cU 1) e.2.1
  ·exact fA h0 (cC 2) (cR 2) (cU 2) e.2.2.1
  ·exact fA h0 (cC 3) (cR 3) (cU 3) e.2.2.2.1
  ·exact fA h0 (cC 4) (cR 4) (cU 4) e.2.2.2.2.1
  ·exact fA h0 (cC 5) (cR 5) (cU 5) e.2.2.2.2.2.1
theorem of_laid{W:World}(h:laidMetH prog [("tarn/cube.frames",Rows.laid_tarn_cube_frames)] W):Fr W:=by
 rw[MakeChecks.laidMetH_plain _ _ _ (by kernel_rfl)]at h
 obtain⟨ps,⟨g0,t0,cs0,f0,p0,q0,hg0,ht0,hv0,hd0,_⟩,_⟩:=h
 obtain rfl:=Option.some.inj (gFrames.symm.trans hg0)
 obtain rfl:=Option.some.inj (tFrames.symm.trans ht0)
 have T:=BP hd0 rfl
 have C:=World.var?_cell hg0 hv0
 have K: ∀f,f<6-> ∀k,k<9->W.cell? ⟨1,f*9+k,none⟩=((cs0.toList.drop (f*9)).take 9)[k]? :=by
  intro f hf k hk
  rw[C,List.getElem?_take,if_pos hk,List.getElem?_drop]
  simp
 have N: ∀f,f<6->Fr9 W f:=by
  intro f hf
  have K:=K f hf
  rw[T f hf]at K
  exact⟨⟨K 0 (by omega),K 1 (by omega),K 2 (by omega)⟩,⟨K 3 (by omega),K 4 (by omega),K 5 (by omega)⟩,⟨K 6 (by omega),K 7 (by omega),K 8 (by omega)⟩⟩
 refine⟨?_,N⟩
 have c0:=(N 0 (by omega)).1.1
 rcases Nat.lt_or_ge 1 W.heap.size with h1 | h1
 ·exact h1
 ·rw[World.cell?,Array.getElem?_eq_none h1]at c0;cases c0
end
section
open Go.RowKit Cu
def wi(x:Int)(n:Nat):Nat:=((x%18446744073709551616)%n).toNat
end
section
open Tf Cu
namespace Ss
def inv(r:Nat):Nat:=((List.range 24).find? (fun u=>aft u r==0)).getD 0
section
variable {n r u t:Nat}
end
def cnF(x:Nat):Prop:=x<18446744073709551616/\isN x=false/\x≠9223372036854775808
section
variable {n r:Nat}
end
section
variable {n r u:Nat} {α:Type}
end
end Ss
end
section
open Go.ChangeShapes Go.WideShapes Go.ChangeAt Go.WideMaps Go.WideElems Go.RowKit Go.Deep
def IsIn(w:World)(a0:Option Addr)(len:Nat)(xs:Nat->Int):Prop:= ∀k,k<len->(-9223372036854775808<=xs k/\xs k<=9223372036854775807)/\ ∃b o,a0=some ⟨b,o,none⟩/\b<w.heap.size/\w.cell? ⟨b,o+k,none⟩=some (.int .i64 (xs k))
theorem IsIn.below{w w':World}{a0:Option Addr}{len:Nat}{xs:Nat->Int}(h:IsIn w a0 len xs)(hb:Below w.heap.size w w'):IsIn w' a0 len xs:=by
 intro k hk
 obtain⟨h1,b,o,h2,h3,h4⟩:=h k hk
 exact⟨h1,b,o,h2,Nat.lt_of_lt_of_le h3 hb.size,by rw[hb.cell (p:=⟨b,o+k,none⟩) h3];exact h4⟩
theorem FU{H:Type}{enc:TypeId × Value->H}{P:Program}{w:World}{base:Nat}{spare:Nat->Bool}{held:Bool}{t:TypeId}{fuel:Nat}{v:Value}{x:DataW H × List MemPlace}(ht:P.underlying t=some (.float .f64))(h:DataW.trod enc P w base spare held fuel t [v]=some x):
  ∃b,v=.float .f64 b/\(Lit.float .f64 b).wf=true:=by
 cases fuel with
 | zero=>simp[DataW.trod]at h
 | succ n=>
  unfold DataW.trod at h
  rw[ht]at h
  split at h<;>simp_all
theorem jC{H:Type}{enc:TypeId × Value->H}{P:Program}{w:World}{base:Nat}{spare:Nat->Bool}{held:Bool}{t:TypeId}{fuel:Nat}{v:Value}{x:DataW H × List MemPlace}(ht:P.underlying t=some (.float .f64))(h:DataW.trod enc P w base spare held fuel t [v]=some x):
  ∃b,v=.float .f64 b/\b<18446744073709551616:=by
 obtain⟨k,e,wf⟩:=FU ht h
 exact⟨k,e,by simpa [Lit.wf]using wf⟩
theorem fC(b off j:Nat):(⟨b,off,none⟩:Addr).add j=⟨b,off+j,none⟩:=by
 by_cases c:j=0
 ·subst c;simp[Addr.add]
 ·simp[Addr.add,c]
theorem wR{w:World}{a:Addr}{v:Value}(h:w.cell? a=some v):a.block<w.heap.size:=by
 by_cases c:a.block<w.heap.size
 ·exact c
 ·exfalso
  have:w.heap[a.block]? =none:=by simp;omega
  simp[World.cell?,this]at h
theorem qK{α:Type}{n:Nat}{R:Nat->α->Prop}(d:α)(h: ∀i,i<n-> ∃x,R i x): ∃f:Nat->α,∀i,i<n->R i (f i):=by
 have: ∀i,∃x,i<n->R i x:=fun i=>by
  by_cases c:i<n
  ·obtain⟨x,h1⟩:=h i c
   exact⟨x,fun _=>h1⟩
  ·exact⟨d,fun h=>absurd h c⟩
 exact⟨fun i=>(this i).choose,fun i hi=>(this i).choose_spec hi⟩
theorem uR{H:Type}{enc:TypeId × Value->H}{W:World}{cs:List Value}{fuel:Nat}{x:DataW H × List MemPlace}
  (hf:DataW.trod enc prog W 0 (fun _=>true) true fuel 26 cs=some x): ∃a0 len cap xs,cs=[.slice a0 len cap]/\IsFl W a0 len xs/\len<=cap/\cap<=maxLen:=by
 rcases open_slice1 underlying26 (by kernel_rfl) hf with⟨hcs,_⟩ | ⟨a,l,c,m,n,V,D,Pl,hcs,_,hl,hm,hmm,_,hx⟩
 ·exact⟨none,0,0,fun _=>0,hcs,fun k hk=>by omega,Nat.le_refl _,Nat.zero_le _⟩
 ·simp only[if_true]at hmm
  have each: ∀i,i<l-> ∃x:Nat,W.cell? (a.add i)=some (.float .f64 x)/\x<18446744073709551616:=by
   intro i hi
   obtain⟨h1,h2⟩:=hx i (by omega)
   obtain⟨x,e,wx⟩:=jC underlying22 h2
   rw[e]at h1
   exact⟨x,h1,wx⟩
  obtain⟨f,hf⟩:=qK 0 each
  refine⟨some a,l,c,f,hcs,fun k hk=>⟨(hf k hk).2,?_⟩,hl,hm⟩
  have h0:=(hf k hk).1
  have z:=(hf 0 (by omega)).1
  obtain⟨b,off,spot⟩:=a
  have hspot:spot=none:=by simpa [Addr.add]using World.cell?_spot z
  subst hspot
  rw[fC]at h0
  exact⟨b,off,rfl,wR h0,h0⟩
end
section
open Tf Ieee
theorem sb_nn{x y:Nat}(hx:x<9218868437227405312)(hy:y<9218868437227405312):sbB x y=rn false ((mv x:Int) - mv y):=by
 have mx:mg x=x:=bG (by omega)
 have my:mg y=y:=bG (by omega)
 have e:=sub_d x y (by omega) (by omega) (by omega) (by omega)
 rw[qE x y (by omega)]at e
 unfold sbB
 rw[bN e,jX,uQ (d:=x) (by omega),uQ (d:=y) (by omega)]
end
section
open Go.RowKit Tf Cu
theorem arI_top(L:Nat):1<=arI L/\arI L<=9223372036854775807:=by
 have h:cI .even (arQ L)<=9223372036854775807:=by
  unfold cI
  split
  ·rename_i c
   unfold cOk at c
   simp only[Bool.and_eq_true,decide_eq_true_eq]at c
   omega
  ·decide
 unfold arI
 omega
def arC(n c:Nat):Int:=arI (ArC n c)
theorem cS(n c:Nat):1<=arC n c/\arC n c<=9223372036854775807:=arI_top _
def rdAll(n:Nat)(k:Int)(lb lw:Nat)(B:Nat->Nat)(W:Nat->Int)(e:Int)(u:Nat):Nat:=
 if inR e (12*n*n:Nat)=true/\lb=6*n*n/\lw=6*n*n then rdT n k (arC n) B W (edT n e.toNat) u else 0
theorem uS{s:Nat}(hs:s<18446744073709551616)(h:isN s=false):Ieee.double.mul 4602678819172646912 s=some (mlB 4602678819172646912 s):=by
 have k:Ieee.double.mul 4602678819172646912 s≠none:=by
  rcases three s with c | c | c
  ·rw[yB 4602678819172646912 s (by decide) hs (by decide) c];exact Option.some_ne_none _
  ·rw[rG 4602678819172646912 s (by decide) hs (by decide) c,if_neg (by decide)];exact Option.some_ne_none _
  ·rw[h]at c;cases c
 cases e:Ieee.double.mul 4602678819172646912 s with
 | none=>exact absurd e k
 | some r=>rw[dR e]
theorem half_N{s:Nat}(hs:s<18446744073709551616)(h:isN s=false):isN (mlB 4602678819172646912 s)=false/\mlB 4602678819172646912 s<18446744073709551616:=by
 have e:=uS hs h
 exact⟨(iL e (by decide) hs).2,(iL e (by decide) hs).1⟩
theorem uT{h f:Nat}(hh:h<9218868437227405312)(hf:f<18446744073709551616)(nf:isN f=false):Ieee.double.add h f=some (plB h f):=by
 have mh:mg h<9218868437227405312:=by rw[bG (by omega)];exact hh
 have k:Ieee.double.add h f≠none:=by
  rcases three f with c | c | c
  ·rw[yA h f (by omega) hf mh c];exact Option.some_ne_none _
  ·rw[jW h f hf mh c];exact Option.some_ne_none _
  ·rw[nf]at c;cases c
 cases e:Ieee.double.add h f with
 | none=>exact absurd e k
 | some r=>rw[iK e]
theorem sA{x y:Nat}(hx:x<9218868437227405312)(hy:y<9218868437227405312):Ieee.double.sub x y=some (sbB x y):=by
 have mx:mg x<9218868437227405312:=by rw[bG (by omega)];exact hx
 have my:mg y<9218868437227405312:=by rw[bG (by omega)];exact hy
 rw[sub_d x y (by omega) (by omega) mx my,sb_nn hx hy,uQ (d:=x) (by omega),uQ (d:=y) (by omega),bR (x:=x) (by omega)]
 rfl
theorem rcV_lt{k:Int}{h hb hd:Nat}(hh:h<9218868437227405312):rcV k h hb hd<18446744073709551616:=by
 have s:=half_N (slp_lt k (sbB h hb) (sbB hd h)) (slp_N k _ _)
 have e:=uT hh s.2 s.1
 unfold rcV
 exact(IsQ.add (IsQ.self (by omega)) (IsQ.self s.2) e).1
theorem wS{l m g:Nat}(hm:m<18446744073709551616)(e:Ieee.double.sub l m=some g)(hl:l<18446744073709551616):IsC g (sbB l m):=by
 have ea:Ieee.double.add l (negB m)=some g:=by rw[<- qE l m hm];exact e
 exact⟨(kT hl (cG hm) ea).1,by unfold sbB;rw[bN ea]⟩
theorem IsFl.at0{w:World}{b o len:Nat}{xs:Nat->Nat}(h:IsFl w (some ⟨b,o,none⟩) len xs){k:Nat}(hk:k<len):xs k<18446744073709551616/\b<w.heap.size/\w.cell? ⟨b,o+k,none⟩=some (.float .f64 (xs k)):=by
 obtain⟨h1,b',o',e,h2,h3⟩:=h k hk
 injection e with e1
 injection e1 with e2 e3
 subst e2 e3
 exact⟨h1,h2,h3⟩
theorem IsIn.at0{w:World}{b o len:Nat}{xs:Nat->Int}(h:IsIn w (some ⟨b,o,none⟩) len xs){k:Nat}(hk:k<len):xs k<=9223372036854775807/\b<w.heap.size/\w.cell? ⟨b,o+k,none⟩=some (.int .i64 (xs k)):=by
 obtain⟨h1,b',o',e,h2,h3⟩:=h k hk
 injection e with e1
 injection e1 with e2 e3
 subst e2 e3
 exact⟨h1.2,h2,h3⟩
theorem Em{a b:Nat}(ha:a<18446744073709551616)(hb:b<18446744073709551616):maxB a b<18446744073709551616:=by
 unfold maxB
 split
 ·decide
 ·split<;>assumption
theorem qL{e:Int}{N:Nat}(h:inR e (N:Nat)=true): ∃E:Nat,e=(E:Int)/\E<N:=by
 obtain⟨h1,h2⟩:=dG.1 h
 obtain⟨E,rfl⟩:=Int.eq_ofNat_of_zero_le h1
 exact⟨E,rfl,by omega⟩
theorem zE{n:Nat}{k:Int}{lb lw:Nat}{B:Nat->Nat}{W:Nat->Int}{e:Int}{u:Nat}(h: ¬(inR e (12*n*n:Nat)=true/\lb=6*n*n/\lw=6*n*n)):rdAll n k lb lw B W e u=0:=by unfold rdAll;rw[if_neg h]
theorem rdAll_eN{n:Nat}{k:Int}{B:Nat->Nat}{W:Nat->Int}{t u:Nat}(hn:1<=n)(ht:t<24*n*n)(hl:isL n t=true):rdAll n k (6*n*n) (6*n*n) B W (eN n t:Nat) u=rdT n k (arC n) B W t u:=by
 unfold rdAll
 rw[if_pos ⟨dG.2 (by have:=lJ hn ht hl;omega),rfl,rfl⟩,Int.toNat_natCast,lP hn ht hl]
theorem IsFl.some0{w:World}{a0:Option Addr}{len:Nat}{xs:Nat->Nat}(h:IsFl w a0 len xs)(h0:0<len): ∃b o,a0=some ⟨b,o,none⟩:=by
 obtain⟨_,b,o,e,_⟩:=h 0 h0
 exact⟨b,o,e⟩
theorem IsIn.some0{w:World}{a0:Option Addr}{len:Nat}{xs:Nat->Int}(h:IsIn w a0 len xs)(h0:0<len): ∃b o,a0=some ⟨b,o,none⟩:=by
 obtain⟨_,b,o,e,_⟩:=h 0 h0
 exact⟨b,o,e⟩
theorem En{n:Nat}(hn:1<=n):0<6*n*n:=Nat.mul_pos (Nat.mul_pos (by decide) hn) hn
end
end Go.Proofs.YtaphajlpbgcfjaaGreatDoor
