/-
  Some of the texts of this proof, one behind the other.
-/
import Derived.Test.YtmhnilnaffjhmaaGreatDoorRows
import Derived.Deep.Draws
import Derived.Below
import Derived.Deep.RegionWith
import Derived.BigQuiet
import Derived.Deep.QuietTactic
import Derived.Deep.Quiet
import Derived.Deep.MidRow
import Derived.Deep.Cut
import Derived.Deep.CutRange
import Derived.Test.YtmhnilnaffjhmaaGreatDoorCeg02
set_option maxRecDepth 100000
set_option maxHeartbeats 400000000
namespace Go.Proofs.YtmhnilnaffjhmaaGreatDoor
open _root_.Go.Proofs.Tryz
section
open Tf Ieee
theorem tri{a b:Nat}(ha:a<18446744073709551616)(hb:b<18446744073709551616):(key a<key b/\ ¬key b<key a)\/a=b\/(key b<key a/\ ¬key a<key b):=by
 rcases Nat.lt_trichotomy (key a) (key b)with h | h | h
 ·exact .inl ⟨h,by omega⟩
 ·exact .inr (.inl (Cy ha hb h))
 ·exact .inr (.inr ⟨h,by omega⟩)
theorem thB_23{a b c:Nat}(ha:a<18446744073709551616)(hb:b<18446744073709551616)(hc:c<18446744073709551616):thB a b c=thB a c b:=by
 rcases tri ha hb with⟨h1,h1'⟩ | h1 | ⟨h1,h1'⟩<;>rcases tri ha hc with⟨h2,h2'⟩ | h2 | ⟨h2,h2'⟩<;>rcases tri hb hc with⟨h3,h3'⟩ | h3 | ⟨h3,h3'⟩
 all_goals first
  | (exfalso;omega)
  | (clear ha hb hc;simp[thB,loB,hiB, *];done)
  | (clear ha hb hc;subst_vars;first | rfl | (simp[thB,loB,hiB, *];done))
theorem th_perm(a b c:Nat): ∃u v z,thB a b c=plB (plB u v) z/\((u=a/\v=b/\z=c)\/(u=a/\v=c/\z=b)\/(u=b/\v=a/\z=c)\/(u=b/\v=c/\z=a)\/(u=c/\v=a/\z=b)\/(u=c/\v=b/\z=a)):=by
 unfold thB
 by_cases k1:key b<key a
 ·have lk1:loB a b=b:=by unfold loB;rw[if_pos k1]
  have gk1:hiB a b=a:=by unfold hiB;rw[if_pos k1]
  rw[lk1,gk1]
  by_cases k2:key c<key a
  ·have lk2:loB a c=c:=by unfold loB;rw[if_pos k2]
   have gk2:hiB a c=a:=by unfold hiB;rw[if_pos k2]
   rw[lk2,gk2]
   by_cases k3:key c<key b
   ·have lk3:loB b c=c:=by unfold loB;rw[if_pos k3]
    have gk3:hiB b c=b:=by unfold hiB;rw[if_pos k3]
    rw[lk3,gk3]
    exact⟨_,_,_,rfl,by simp⟩
   ·have lk3:loB b c=b:=by unfold loB;rw[if_neg k3]
    have gk3:hiB b c=c:=by unfold hiB;rw[if_neg k3]
    rw[lk3,gk3]
    exact⟨_,_,_,rfl,by simp⟩
  ·have lk2:loB a c=a:=by unfold loB;rw[if_neg k2]
   have gk2:hiB a c=c:=by unfold hiB;rw[if_neg k2]
   rw[lk2,gk2]
   by_cases k3:key a<key b
   ·have lk3:loB b a=a:=by unfold loB;rw[if_pos k3]
    have gk3:hiB b a=b:=by unfold hiB;rw[if_pos k3]
    rw[lk3,gk3]
    exact⟨_,_,_,rfl,by simp⟩
   ·have lk3:loB b a=b:=by unfold loB;rw[if_neg k3]
    have gk3:hiB b a=a:=by unfold hiB;rw[if_neg k3]
    rw[lk3,gk3]
    exact⟨_,_,_,rfl,by simp⟩
 ·have lk1:loB a b=a:=by unfold loB;rw[if_neg k1]
  have gk1:hiB a b=b:=by unfold hiB;rw[if_neg k1]
  rw[lk1,gk1]
  by_cases k2:key c<key b
  ·have lk2:loB b c=c:=by unfold loB;rw[if_pos k2]
   have gk2:hiB b c=b:=by unfold hiB;rw[if_pos k2]
   rw[lk2,gk2]
   by_cases k3:key c<key a
   ·have lk3:loB a c=c:=by unfold loB;rw[if_pos k3]
    have gk3:hiB a c=a:=by unfold hiB;rw[if_pos k3]
    rw[lk3,gk3]
    exact⟨_,_,_,rfl,by simp⟩
   ·have lk3:loB a c=a:=by unfold loB;rw[if_neg k3]
    have gk3:hiB a c=c:=by unfold hiB;rw[if_neg k3]
    rw[lk3,gk3]
    exact⟨_,_,_,rfl,by simp⟩
  ·have lk2:loB b c=b:=by unfold loB;rw[if_neg k2]
   have gk2:hiB b c=c:=by unfold hiB;rw[if_neg k2]
   rw[lk2,gk2]
   by_cases k3:key b<key a
   ·have lk3:loB a b=b:=by unfold loB;rw[if_pos k3]
    have gk3:hiB a b=a:=by unfold hiB;rw[if_pos k3]
    rw[lk3,gk3]
    exact⟨_,_,_,rfl,by simp⟩
   ·have lk3:loB a b=a:=by unfold loB;rw[if_neg k3]
    have gk3:hiB a b=b:=by unfold hiB;rw[if_neg k3]
    rw[lk3,gk3]
    exact⟨_,_,_,rfl,by simp⟩
theorem bC{x:Nat}(hx:x<18446744073709551616):negB x<18446744073709551616:=by
 unfold negB
 cases h:ng x
 ·have:=dZ h;simp;omega
 ·simp;omega
theorem eC{x:Nat}(hx:x<18446744073709551616):mg (negB x)=mg x:=by
 unfold negB
 cases h:ng x
 ·have:=dZ h;simp[mg]
 ·have:=eU h;simp[mg];omega
theorem kT{x:Nat}(hx:x<18446744073709551616):ng (negB x)= !ng x:=by
 unfold negB
 cases h:ng x
 ·simp[ng]
 ·have:=eU h;simp[ng];omega
theorem qY{x:Nat}(hx:x<18446744073709551616):negB (negB x)=x:=by
 have h:=kT hx
 unfold negB at*
 cases k:ng x
 ·rw[k]at h;simp only[Bool.false_eq_true,if_false]at h ⊢;rw[h];simp
 ·have:=eU k
  rw[k]at h;simp only[if_true]at h ⊢;rw[h];simp;omega
theorem mJ{x:Nat}(hx:x<18446744073709551616):sv (negB x)= -sv x:=by
 unfold sv
 rw[kT hx,eC hx]
 cases ng x<;>simp
theorem fV{x:Nat}(hx:x<18446744073709551616):isN (negB x)=isN x:=by unfold isN;rw[eC hx]
theorem jT(x:Nat)(hx:x<18446744073709551616):double.read (negB x)=(double.read x).opposite:=by
 have h1:negB x%9223372036854775808=x%9223372036854775808:=eC hx
 have h2:(negB x/9223372036854775808%2==1)= !(x/9223372036854775808%2==1):=by
  unfold negB
  cases k:ng x
  ·have:=dZ k
   rw[show x/9223372036854775808=0 by omega]
   simp only[Bool.false_eq_true,if_false]
   rw[show(x+9223372036854775808)/9223372036854775808=1 by omega]
   rfl
  ·have:=eU k
   rw[show x/9223372036854775808=1 by omega]
   simp only[if_true]
   rw[show(x - 9223372036854775808)/9223372036854775808=0 by omega]
   rfl
 unfold Format.read
 simp only[d_sw]
 rw[h1,h2]
 generalize x%9223372036854775808=r
 generalize(x/9223372036854775808%2==1)=s
 by_cases a:r<double.binade
 ·rw[if_pos a,if_pos a];rfl
 ·rw[if_neg a,if_neg a]
  by_cases b:r<double.infRung
  ·rw[if_pos b,if_pos b];rfl
  ·rw[if_neg b,if_neg b]
   by_cases c:r=double.infRung
   ·rw[if_pos c,if_pos c];rfl
   ·rw[if_neg c,if_neg c];rfl
theorem pS(a b:Nat)(hb:b<18446744073709551616):double.sub a b=double.add a (negB b):=by
 unfold Format.sub Format.add;rw[jT b hb]
theorem Ag(a b:Nat)(ha:a<18446744073709551616)(hb:b<18446744073709551616):double.mul (negB a) (negB b)=double.mul a b:=by
 unfold Format.mul
 rw[jT a ha,jT b hb]
 cases double.read a<;>cases double.read b<;>simp[Datum.opposite,Datum.product]
theorem mul_comm(a b:Nat):double.mul a b=double.mul b a:=by
 unfold Format.mul
 cases double.read a<;>cases double.read b<;>simp[Datum.product,Bool.xor_comm,Nat.mul_comm,Int.add_comm]
theorem nM(a b:Nat)(ha:a<18446744073709551616)(hb:b<18446744073709551616):addB a b=addB b a:=by
 rcases three a with h1 | h1 | h1
 ·rcases three b with h2 | h2 | h2
  ·rw[dM a b ha hb h1 h2,dM b a hb ha h2 h1,Int.add_comm]
  ·rw[bE (iA a b hb h1 h2),bE (nL b a hb h2 h1)]
  ·rw[aX (bI a b (.inr h2)),aX (bI b a (.inl h2))]
 ·rcases three b with h2 | h2 | h2
  ·rw[bE (nL a b ha h1 h2),bE (iA b a ha h2 h1)]
  ·have e1:=qW a b ha hb h1 h2
   have e2:=qW b a hb ha h2 h1
   by_cases c:ng a=ng b
   ·rw[if_pos c]at e1
    rw[if_pos c.symm]at e2
    rw[bE e1,bE e2,c]
   ·rw[if_neg c]at e1
    rw[if_neg (fun h=>c h.symm)]at e2
    rw[aX e1,aX e2]
  ·rw[aX (bI a b (.inr h2)),aX (bI b a (.inl h2))]
 ·rw[aX (bI a b (.inl h1)),aX (bI b a (.inr h1))]
theorem eD:canonB (negB quiet)=quiet:=by decide
theorem iC(s:Bool):canonB (negB (canonB (infW s)))=canonB (infW (!s)):=by cases s<;>decide
theorem xF(a b:Nat)(ha:a<18446744073709551616)(hb:b<18446744073709551616):addB (negB a) (negB b)=canonB (negB (addB a b)):=by
 have na:=bC ha
 have nb:=bC hb
 have ma:=eC ha
 have mb:=eC hb
 rcases three a with h1 | h1 | h1
 ·rcases three b with h2 | h2 | h2
  ·rw[dM a b ha hb h1 h2,dM _ _ na nb (by rw[ma];exact h1) (by rw[mb];exact h2),mJ ha,mJ hb,Cx,Int.neg_add]
  ·rw[bE (iA a b hb h1 h2),bE (iA _ _ nb (by rw[ma];exact h1) (by rw[mb];exact h2)),kT hb,iC]
  ·rw[aX (bI a b (.inr h2)),aX (bI _ _ (.inr (by rw[fV hb];exact h2))),eD]
 ·rcases three b with h2 | h2 | h2
  ·rw[bE (nL a b ha h1 h2),bE (nL _ _ na (by rw[ma];exact h1) (by rw[mb];exact h2)),kT ha,iC]
  ·have e1:=qW a b ha hb h1 h2
   have e2:=qW _ _ na nb (by rw[ma];exact h1) (by rw[mb];exact h2)
   rw[kT ha,kT hb]at e2
   by_cases c:ng a=ng b
   ·rw[if_pos c]at e1
    rw[if_pos (by rw[c])]at e2
    rw[bE e1,bE e2,iC]
   ·rw[if_neg c]at e1
    rw[if_neg (by simpa using c)]at e2
    rw[aX e1,aX e2,eD]
  ·rw[aX (bI a b (.inr h2)),aX (bI _ _ (.inr (by rw[fV hb];exact h2))),eD]
 ·rw[aX (bI a b (.inl h1)),aX (bI _ _ (.inl (by rw[fV ha];exact h1))),eD]
def sbB(a b:Nat):Nat:=addB a (negB b)
theorem bO{a b:Nat}(ha:a<18446744073709551616)(hb:b<18446744073709551616):sbB a b<18446744073709551616:=kQ a _ ha (bC hb)
theorem sbB_anti{a b:Nat}(ha:a<18446744073709551616)(hb:b<18446744073709551616):sbB b a=canonB (negB (sbB a b)):=by
 unfold sbB
 rw[<- xF a _ ha (bC hb),qY hb,nM _ _ hb (bC ha)]
theorem Ah{a b:Nat}(ha:a<18446744073709551616)(hb:b<18446744073709551616):sbB (negB a) (negB b)=canonB (negB (sbB a b)):=by
 unfold sbB
 exact xF a _ ha (bC hb)
theorem Ef{a b:Nat}(ha:a<18446744073709551616)(hb:b<18446744073709551616):canonB (sbB a b)=sbB a b:=by
 unfold sbB
 rcases kP a (negB b) ha (bC hb)with⟨h1,h2⟩ | h | ⟨s,h⟩
 ·rw[dM a _ ha (bC hb) h1 h2,jS]
 ·rw[aX h];decide
 ·rw[bE h,gR,gR]
def mlB(a b:Nat):Nat:=match Ieee.double.mul a b with | some r=>r | none=>quiet
theorem cZ{a b r:Nat}(h:Ieee.double.mul a b=some r):mlB a b=r:=by unfold mlB;rw[h]
theorem eA{a b:Nat}(h:Ieee.double.mul a b=none):mlB a b=quiet:=by unfold mlB;rw[h]
theorem iO{a b r:Nat}(h:Ieee.double.mul a b=some r)(ha:a<18446744073709551616)(hb:b<18446744073709551616):r<18446744073709551616/\isN r=false:=by
 rcases Ee a b ha hb with⟨h1,h2⟩ | h' | ⟨s,h'⟩
 ·have e:=tL a b ha hb h1 h2
  rw[h]at e
  injection e with e
  generalize rung 52 1074 (mv (mg a)*mv (mg b))=q at e
  have hm:min q 9218868437227405312<=9218868437227405312:=Nat.min_le_right _ _
  generalize min q 9218868437227405312=z at e hm
  rw[cF]
  subst e
  cases(ng a ^^ ng b)
  ·simp only[Bool.false_eq_true,if_false];exact⟨by omega,by unfold mg;omega⟩
  ·simp only[if_true];exact⟨by omega,by unfold mg;omega⟩
 ·rw[h]at h';cases h'
 ·rw[h]at h'
  injection h' with h'
  subst h'
  exact⟨vD s,by rw[cF,infW_mg];omega⟩
theorem dK{a b:Nat}(ha:a<18446744073709551616)(hb:b<18446744073709551616):mlB a b<18446744073709551616:=by
 cases h:Ieee.double.mul a b with
 | none=>rw[eA h];decide
 | some r=>rw[cZ h];exact(iO h ha hb).1
theorem xG(a b:Nat):mlB a b=mlB b a:=by unfold mlB;rw[mul_comm]
def sqB(x:Nat):Nat:=mlB x x
theorem qZ{x:Nat}(hx:x<18446744073709551616):sqB x<18446744073709551616:=dK hx hx
theorem sqB_neg{x:Nat}(hx:x<18446744073709551616):sqB (negB x)=sqB x:=by
 unfold sqB mlB;rw[Ag x x hx hx]
theorem Eg{x:Nat}(hx:x<18446744073709551616):sqB (canonB x)=sqB x:=by
 unfold canonB
 cases h:isN x
 ·simp only[Bool.false_eq_true,if_false]
  by_cases c:mg x=0
  ·rw[if_pos c]
   have:x=0\/x=9223372036854775808:=by unfold mg at c;omega
   rcases this with rfl | rfl<;>decide
  ·rw[if_neg c]
 ·simp only[if_true]
  unfold sqB
  rw[eA (fM _ _ (.inl h)),eA (fM _ _ (.inl kR))]
theorem mK{a b:Nat}(h:isN a=true\/isN b=true):plB a b=quiet:=qX (bI a b h)
theorem kU{a b c:Nat}(h:isN a=true\/isN b=true\/isN c=true):thB a b c=quiet:=by
 obtain⟨u,v,z,e,hp⟩:=th_perm a b c
 rw[e]
 have hn:isN u=true\/isN v=true\/isN z=true:=by
  rcases hp with⟨rfl,rfl,rfl⟩ | ⟨rfl,rfl,rfl⟩ | ⟨rfl,rfl,rfl⟩ | ⟨rfl,rfl,rfl⟩ | ⟨rfl,rfl,rfl⟩ | ⟨rfl,rfl,rfl⟩<;>rcases h with h | h | h<;>simp[h]
 rcases hn with k | k | k
 ·rw[mK (.inl k)];exact mK (.inl kR)
 ·rw[mK (.inr k)];exact mK (.inl kR)
 ·exact mK (.inr k)
theorem thB_q(a b c:Nat):thB a b c=thB (qB a) (qB b) (qB c):=by
 cases h1:isN a
 ·cases h2:isN b
  ·cases h3:isN c
   ·rw[fT h1,fT h2,fT h3]
   ·rw[kU (.inr (.inr h3)),kU (.inr (.inr (by rw[gA];exact h3)))]
  ·rw[kU (.inr (.inl h2)),kU (.inr (.inl (by rw[gA];exact h2)))]
 ·rw[kU (.inl h1),kU (.inl (by rw[gA];exact h1))]
def rtB(x:Nat):Nat:=match Ieee.double.sqrt x with | some r=>canonB r | none=>quiet
def dvB(a b:Nat):Nat:=match Ieee.double.div a b with | some r=>canonB r | none=>quiet
theorem iP{x r:Nat}(h:Ieee.double.sqrt x=some r):rtB x=canonB r:=by unfold rtB;rw[h]
theorem jU{x:Nat}(h:Ieee.double.sqrt x=none):rtB x=quiet:=by unfold rtB;rw[h]
theorem eV{a b r:Nat}(h:Ieee.double.div a b=some r):dvB a b=canonB r:=by unfold dvB;rw[h]
theorem gS{a b:Nat}(h:Ieee.double.div a b=none):dvB a b=quiet:=by unfold dvB;rw[h]
theorem eB{x:Nat}(hx:x<18446744073709551616):canonB x<18446744073709551616:=by
 unfold canonB;split
 ·decide
 ·split
  ·decide
  ·exact hx
theorem Ai(x:Nat):canonB (canonB x)=canonB x:=by
 by_cases h:isN x=true
 ·rw[show canonB x=quiet by unfold canonB;rw[if_pos h]];decide
 ·by_cases c:mg x=0
  ·rw[show canonB x=0 by unfold canonB;rw[if_neg h,if_pos c]];decide
  ·rw[show canonB x=x by unfold canonB;rw[if_neg h,if_neg c]]
   unfold canonB;rw[if_neg h,if_neg c]
theorem nN(a b:Nat):canonB (dvB a b)=dvB a b:=by
 cases h:Ieee.double.div a b with
 | none=>rw[gS h];decide
 | some r=>rw[eV h,Ai]
def lnB(x y z:Nat):Nat:=rtB (thB (sqB x) (sqB y) (sqB z))
theorem vF{x y z:Nat}(hx:x<18446744073709551616)(hy:y<18446744073709551616):lnB x y z=lnB y x z:=by
 unfold lnB;rw[thB_12 (qZ hx) (qZ hy)]
theorem vG{x y z:Nat}(hx:x<18446744073709551616)(hy:y<18446744073709551616)(hz:z<18446744073709551616):lnB x y z=lnB x z y:=by
 unfold lnB;rw[thB_23 (qZ hx) (qZ hy) (qZ hz)]
theorem lnB_cn{x y z:Nat}(hx:x<18446744073709551616):lnB (canonB (negB x)) y z=lnB x y z:=by unfold lnB;rw[Eg (bC hx),sqB_neg hx]
end
section
open Tf Ieee
theorem mv_dbl{r:Nat}(h:4503599627370496<=r):mv (r+4503599627370496)=2*mv r:=by
 unfold mv mag
 have e:(2:Nat) ^ 52=4503599627370496:=by decide
 rw[if_neg (by omega),if_neg (by omega),e]
 have h1:(r+4503599627370496)%4503599627370496=r%4503599627370496:=by omega
 have h2:(r+4503599627370496)/4503599627370496 - 1=(r/4503599627370496 - 1)+1:=by omega
 rw[h1,h2,Nat.pow_add,Nat.pow_one,<- Nat.mul_assoc,Nat.mul_comm]
theorem rung_dbl{d V:Nat}(h0:V≠0)(h:52+d<=V.log2):rung 52 d (V*2)=rung 52 d V+4503599627370496:=by
 unfold rung
 have hl:(V*2).log2=V.log2+1:=by
  have:=eP V 1 h0
  rwa [Nat.pow_one]at this
 have e:(2:Nat) ^ 52=4503599627370496:=by decide
 rw[hl,show V.log2+1 - (52+d)=(V.log2 - (52+d))+1 by omega,show(V.log2 - (52+d))+1+d=(V.log2 - (52+d)+d)+1 by omega]
 rw[Nat.pow_succ 2 (V.log2 - (52+d)+d),nG _ _ 2 (by omega),e]
 omega
theorem xH{d V:Nat}(h:52+d<=V.log2)(h0:V≠0):4503599627370496<=rung 52 d V:=by
 have e:mag 52 4503599627370496=2 ^ 52:=by decide
 refine pO (by omega) ?_
 rw[e,<- Nat.pow_add]
 exact Nat.le_trans (Nat.pow_le_pow_right (by omega) h) (Nat.log2_self_le h0)
end
section
open Tf Ieee
theorem mul_w{x y:Nat}(hx:x<18446744073709551616)(hy:y<18446744073709551616)(fx:mg x<9218868437227405312)(fy:mg y<9218868437227405312):
  mlB x y=if(ng x ^^ ng y)then 9223372036854775808+min (rung 52 1074 (mv (mg x)*mv (mg y))) 9218868437227405312 else min (rung 52 1074 (mv (mg x)*mv (mg y))) 9218868437227405312:=
 cZ (tL x y hx hy fx fy)
def wd(s:Bool)(r:Nat):Nat:=if s then 9223372036854775808+r else r
end
section
open Tf Ieee
def sgn(x:Nat):Bool:=x/9223372036854775808%2==1
theorem iQ{x:Nat}(h1:4503599627370496<=mg x)(h2:mg x<9218868437227405312):
  double.read x=.number (sgn x) (4503599627370496+mg x%4503599627370496) (double.leastPlace+((mg x/4503599627370496 - 1:Nat):Int)):=by
 unfold Format.read
 simp only[d_sw,d_bin,bW]
 have hmg:x%9223372036854775808=mg x:=rfl
 rw[hmg,if_neg (by omega),if_pos h2]
 rfl
theorem Eh{x:Nat}(h:mg x=0):double.read x=.number (sgn x) 0 double.leastPlace:=by
 unfold Format.read
 simp only[d_sw,d_bin,bW]
 have hmg:x%9223372036854775808=mg x:=rfl
 rw[hmg,if_pos (by omega),h]
 rfl
theorem rA{x:Nat}(hx:x<18446744073709551616):sgn x=ng x:=by
 unfold sgn ng
 by_cases c:9223372036854775808<=x
 ·rw[show x/9223372036854775808=1 by omega,decide_eq_true c];rfl
 ·rw[show x/9223372036854775808=0 by omega,decide_eq_false c];rfl
theorem Aj(n:Nat): ∀t r,r*r<=n->n<(r+2 ^ t)*(r+2 ^ t)->Datum.rootFrom n t r*Datum.rootFrom n t r<=n/\n<(Datum.rootFrom n t r+1)*(Datum.rootFrom n t r+1):=by
 intro t
 induction t with
 | zero=>intro r h1 h2;exact⟨h1,h2⟩
 | succ t ih=>
  intro r h1 h2
  unfold Datum.rootFrom
  have e:1 <<< t=2 ^ t:=by rw[Nat.shiftLeft_eq,Nat.one_mul]
  simp only[e]
  by_cases c:(r+2 ^ t)*(r+2 ^ t)<=n
  ·rw[if_pos c]
   refine ih _ c ?_
   rw[show r+2 ^ t+2 ^ t=r+2 ^ (t+1)by rw[Nat.pow_succ];omega]
   exact h2
  ·rw[if_neg c]
   exact ih _ h1 (by omega)
def isq(n:Nat):Nat:=Datum.rootFrom n (n.log2/2+1) 0
theorem xI(n:Nat):isq n*isq n<=n/\n<(isq n+1)*(isq n+1):=by
 refine Aj n _ 0 (by omega) ?_
 rw[Nat.zero_add,<- Nat.pow_add]
 by_cases h:n=0
 ·rw[h];exact Nat.two_pow_pos _
 ·exact Nat.lt_of_lt_of_le Nat.lt_log2_self (Nat.pow_le_pow_right (by omega) (by omega))
def rtM(m:Nat)(i:Int):Nat:=(108 - m.log2)+((i - ((108 - m.log2:Nat):Int))%2).toNat
def rtW(m s:Nat):Nat:=2*isq (m <<< s)+(isq (m <<< s)*isq (m <<< s) != m <<< s).toNat
theorem root_eq{m:Nat}(i:Int)(h:m≠0):Datum.root 54 (.number false m i)=some (.number false (rtW m (rtM m i)) ((i - (rtM m i:Nat))/2 - 1)):=by
 unfold Datum.root
 dsimp only
 rw[if_neg h]
 rfl
theorem sqrt_eq{T:Nat}(hT:T<18446744073709551616)(hn:ng T=false)(h1:4503599627370496<=mg T)(h2:mg T<9218868437227405312):
  double.sqrt T=some (double.nearest false (rtW (4503599627370496+mg T%4503599627370496) (rtM (4503599627370496+mg T%4503599627370496) (double.leastPlace+((mg T/4503599627370496 - 1:Nat):Int))))
   ((double.leastPlace+((mg T/4503599627370496 - 1:Nat):Int) - (rtM (4503599627370496+mg T%4503599627370496) (double.leastPlace+((mg T/4503599627370496 - 1:Nat):Int)):Nat))/2 - 1)):=by
 show((double.read T).root 54).map double.write=_
 rw[iQ h1 h2,rA hT,hn,root_eq _ (by omega)]
 rfl
theorem xJ(q:Nat)(h:q<4503599627370496):(4503599627370496+q).log2=52:=by
 refine kJ (k:=52) ?_ ?_
 ·have e:(2:Nat) ^ 52=4503599627370496:=by decide
  omega
 ·have e:(2:Nat) ^ (52+1)=9007199254740992:=by decide
  omega
theorem rtM_val{m:Nat}(i:Int)(h:m.log2=52):56<=rtM m i/\rtM m i<=57/\rtM m (i+2)=rtM m i/\(i - (rtM m i:Nat))%2=0:=by
 unfold rtM
 rw[h]
 omega
theorem rtW_val{m s:Nat}(h1:4503599627370496<=m)(h2:m<9007199254740992)(hs:56<=s/\s<=57):18014398509481984<=rtW m s/\rtW m s<144115188075855872:=by
 obtain⟨a,b⟩:=xI (m <<< s)
 have e:m <<< s=m*2 ^ s:=Nat.shiftLeft_eq ..
 have hc:(isq (m <<< s)*isq (m <<< s) != m <<< s).toNat<=1:=by cases(isq (m <<< s)*isq (m <<< s) != m <<< s)<;>decide
 unfold rtW
 generalize(isq (m <<< s)*isq (m <<< s) != m <<< s).toNat=c at*
 generalize isq (m <<< s)=q at*
 rw[e]at a b
 have lo:4503599627370496*2 ^ 56<=m*2 ^ s:=Nat.mul_le_mul h1 (Nat.pow_le_pow_right (by omega) hs.1)
 have hi:m*2 ^ s<=9007199254740992*2 ^ 57:=Nat.mul_le_mul (by omega) (Nat.pow_le_pow_right (by omega) hs.2)
 generalize m*2 ^ s=n at*
 have k1:9007199254740992<=q:=by
  rcases Nat.lt_or_ge q 9007199254740992 with k | k
  ·have:(q+1)*(q+1)<=9007199254740992*9007199254740992:=Nat.mul_le_mul (by omega) (by omega)
   omega
  ·exact k
 have k2:q<72057594037927935:=by
  rcases Nat.lt_or_ge q 72057594037927935 with k | k
  ·exact k
  ·have:72057594037927935*72057594037927935<=q*q:=Nat.mul_le_mul k k
   omega
 omega
def Er16:Nat:=1548
theorem mv_E16:mv 6976075822796898304=2 ^ (52+Er16):=jD Er16 _ (by decide)
theorem le_E16{W d:Nat}(hW:W<=2 ^ 57)(hd:d<=1531):W*2 ^ d<=mv 6976075822796898304:=by
 have hE:57+d<=52+Er16:=by
  have:Er16=1548:=rfl
  omega
 rw[mv_E16]
 refine Nat.le_trans (Nat.mul_le_mul_right _ hW) ?_
 rw[<- Nat.pow_add]
 exact Nat.pow_le_pow_right (by omega) hE
theorem rung_E16{V:Nat}(h:V<=mv 6976075822796898304):rung 52 0 V<=6976075822796898304:=by
 refine Cr (by omega) ?_
 rw[Nat.pow_zero,Nat.mul_one]
 exact h
end
section
open Tf Ieee
def stW(n:Nat):Nat:=2*isq n+(isq n*isq n != n).toNat
theorem mL{r:Nat}(h:4503599627370496<=r):mv r=(4503599627370496+r%4503599627370496)*2 ^ (r/4503599627370496 - 1):=by
 unfold mv mag
 have e:(2:Nat) ^ 52=4503599627370496:=by decide
 rw[if_neg (by omega),e]
end
section
open Go.RowKit Tf
theorem aJ(b:Nat)(w:World):(callFunc 23 #[.float .f64 b]).run prog w=.ok (.value (.int .u64 b)) w:=by
 rw[run_callFunc_extern (e:=Extern.MathFloatBits.float64bits) func23 (by kernel_rfl) (by kernel_rfl) (by kernel_rfl) (by kernel_rfl)]
 rfl
theorem aK(n:Int)(w:World):(callFunc 139 #[.int .u64 n]).run prog w=.ok (.value (.float .f64 n.toNat)) w:=by
 rw[run_callFunc_extern (e:=Extern.MathFloatBits.float64frombits) func139 (by kernel_rfl) (by kernel_rfl) (by kernel_rfl) (by kernel_rfl)]
 rfl
theorem aN(a b:Nat):(FloatKind.f64.format.order a b==some Ordering.eq)=feq a b:=rfl
theorem aO(a b:Nat):(FloatKind.f64.format.order a b != some Ordering.eq)= !feq a b:=rfl
theorem aP(a b:Nat):(FloatKind.f64.format.order a b==some Ordering.lt)=flt a b:=rfl
theorem aQ(a b:Nat):(FloatKind.f64.format.order a b==some Ordering.gt)=fgt a b:=rfl
attribute [local go_sem] aJ aK aN aO aP aQ
theorem dR{k:IntKind}{a b:Int}(h:a=b):Ending.returned (.int k a)=.returned (.int k b):=by rw[h]
theorem ret_bool{a b:Bool}(h:a=b):Ending.returned (.bool a)=.returned (.bool b):=by rw[h]
theorem gY{a b:Nat}(h:a=b):Ending.returned (.float .f64 a)=.returned (.float .f64 b):=by rw[h]
theorem gZ(x:Nat)(w:World)(hx:x<18446744073709551616):
  Calls prog 138 #[.float .f64 x] w fun e w'=>e=.returned (.int .u64 (mg x:Nat))/\w'=w:=by
 go_enter func138,ntmps138
 go_wp2
 go_ret
 exact⟨dR (oU x hx),rfl⟩
theorem tM(x:Nat)(w:World)(hx:x<18446744073709551616):
  Calls prog 189 #[.float .f64 x] w fun e w'=>e=.returned (.int .u64 (placeB x:Nat))/\w'=w:=by
 have hs:=and_sign x hx
 cases hn:ng x
 ·rw[hn]at hs
  have hl:=dZ hn
  have ho:Hid (bits .or .u64 (x:Int) 9223372036854775808=((x+9223372036854775808:Nat):Int)):=or_sign x hl
  have hp:Hid (placeB x=x+9223372036854775808):=by unfold placeB;rw[hn];rfl
  go_enter func189,ntmps189
  go_wp2
  go_ret
  exact⟨dR (by rw[ho.out,hp.out]),rfl⟩
 ·rw[hn]at hs
  have ho:Hid (bits .xor .u64 IntKind.u64.max (x:Int)=((18446744073709551615 - x:Nat):Int)):=not_all x hx
  have hp:Hid (placeB x=18446744073709551615 - x):=by unfold placeB;rw[hn];rfl
  go_enter func189,ntmps189
  go_wp2
  go_ret
  exact⟨dR (by rw[hp.out];exact ho.out),rfl⟩
theorem bR(x:Nat)(w:World)(hx:x<18446744073709551616):
  Calls prog 100 #[.float .f64 x] w fun e w'=>e=.returned (.bool (isN x))/\w'=w:=by
 go_enter func100,ntmps100
 go_wp2_with (go_at_call 138;refine(gZ _ _ hx).mono ?_;rintro e w' ⟨rfl,rfl⟩)
 go_ret
 exact⟨ret_bool (by unfold isN;exact decide_eq_decide.2 (by omega)),rfl⟩
theorem dD(w:World):
  Calls prog 101 #[] w fun e w'=>e=.returned (.float .f64 quiet)/\w'=w:=by
 go_enter func101,ntmps101
 go_wp2
 go_ret
 exact⟨rfl,rfl⟩
theorem feq_zero(x:Nat)(hx:x<18446744073709551616):feq x 0=decide (mg x=0):=by
 have h:=gQ x 0 hx (by omega)
 have e:rk 0=0:=by decide
 have n:isN 0=false:=by decide
 rw[h,e,n]
 cases hN:isN x
 ·unfold rk
  cases ng x<;>simp
 ·have:=bJ.1 hN
  have: ¬mg x=0:=by omega
  simp[this]
theorem dA(x m:Nat)(w:World)(hx:x<18446744073709551616)(hm:Hid (mg x=m)):
  Calls prog 138 #[.float .f64 x] w fun e w'=>e=.returned (.int .u64 (m:Nat))/\w'=w:=by
 have:=gZ x w hx
 rwa [hm.out]at this
theorem class_at(x m:Nat)(c:Int)(w:World)(hx:x<18446744073709551616)(hm:Hid (mg x=m))(hc:Hid ((if m=0 then 0 else if m<4503599627370496 then 1 else if m<9218868437227405312 then 2 else if m=9218868437227405312 then 3 else 4)=c)):
  Calls prog 194 #[.float .f64 x] w fun e w'=>e=.returned (.int .i64 c)/\w'=w:=by
 by_cases c0:m=0
 ·subst c0
  go_enter func194,ntmps194
  go_wp2_with (go_at_call 138;refine(dA x _ _ hx hm).mono ?_;rintro e w' ⟨rfl,rfl⟩)
  go_ret
  exact⟨dR hc.out,rfl⟩
 ·have e0:((m:Int)==0)=false:=by simp;omega
  by_cases c1:m<4503599627370496
  ·have h:=hc.out
   rw[if_neg c0,if_pos c1]at h
   subst h
   have e1:decide ((m:Int)<4503599627370496)=true:=by simp;omega
   clear hc c0 c1
   go_enter func194,ntmps194
   go_wp2_with (go_at_call 138;refine(dA x _ _ hx hm).mono ?_;rintro e w' ⟨rfl,rfl⟩)
   go_ret
   exact⟨rfl,rfl⟩
  ·by_cases c2:m<9218868437227405312
   ·have h:=hc.out
    rw[if_neg c0,if_neg c1,if_pos c2]at h
    subst h
    have e1:decide ((m:Int)<4503599627370496)=false:=by simp;omega
    have e2:decide ((m:Int)<9218868437227405312)=true:=by simp;omega
    clear hc c0 c1 c2
    go_enter func194,ntmps194
    go_wp2_with (go_at_call 138;refine(dA x _ _ hx hm).mono ?_;rintro e w' ⟨rfl,rfl⟩)
    go_ret
    exact⟨rfl,rfl⟩
   ·by_cases c3:m=9218868437227405312
    ·have h:=hc.out
     rw[if_neg c0,if_neg c1,if_neg c2,if_pos c3]at h
     subst h
     clear hc
     subst c3
     go_enter func194,ntmps194
     go_wp2_with (go_at_call 138;refine(dA x _ _ hx hm).mono ?_;rintro e w' ⟨rfl,rfl⟩)
     go_ret
     exact⟨rfl,rfl⟩
    ·have e3:((m:Int)==9218868437227405312)=false:=by simp;omega
     have h:=hc.out
     rw[if_neg c0,if_neg c1,if_neg c2,if_neg c3]at h
     subst h
     have e1:decide ((m:Int)<4503599627370496)=false:=by simp;omega
     have e2:decide ((m:Int)<9218868437227405312)=false:=by simp;omega
     clear hc c0 c1 c2 c3
     go_enter func194,ntmps194
     go_wp2_with (go_at_call 138;refine(dA x _ _ hx hm).mono ?_;rintro e w' ⟨rfl,rfl⟩)
     go_ret
     exact⟨rfl,rfl⟩
theorem tN(x:Nat)(w:World)(hx:x<18446744073709551616):
  Calls prog 194 #[.float .f64 x] w fun e w'=>e=.returned (.int .i64 (classB x))/\w'=w:=
 class_at x (mg x) (classB x) w hx rfl rfl
theorem bN(x:Nat)(w:World)(hx:x<18446744073709551616):
  Calls prog 63 #[.float .f64 x] w fun e w'=>e=.returned (.float .f64 (canonB x))/\w'=w:=by
 have hc:Hid (canonB x=if isN x then quiet else if mg x=0 then 0 else x):=rfl
 have hz:=feq_zero x hx
 cases hN:isN x
 ·have HN:=hid hN
  by_cases c:mg x=0
  ·have H:Hid (mg x=0):=c
   rw[c]at hz;simp only[decide_true]at hz
   clear c
   go_enter func63,ntmps63
   go_wp2_with (first | (go_at_call 100;refine(bR _ _ hx).mono ?_;rintro e w' ⟨rfl,rfl⟩) | (go_at_call 101;refine(dD _).mono ?_;rintro e w' ⟨rfl,rfl⟩))
   go_ret
   exact⟨gY (by rw[hc.out,HN.out,H.out];rfl),rfl⟩
  ·simp only[c,decide_false]at hz
   go_enter func63,ntmps63
   go_wp2_with (first | (go_at_call 100;refine(bR _ _ hx).mono ?_;rintro e w' ⟨rfl,rfl⟩) | (go_at_call 101;refine(dD _).mono ?_;rintro e w' ⟨rfl,rfl⟩))
   go_ret
   exact⟨gY (by rw[hc.out,HN.out,if_neg c];rfl),rfl⟩
 ·have HN:=hid hN
  go_enter func63,ntmps63
  go_wp2_with (first | (go_at_call 100;refine(bR _ _ hx).mono ?_;rintro e w' ⟨rfl,rfl⟩) | (go_at_call 101;refine(dD _).mono ?_;rintro e w' ⟨rfl,rfl⟩))
  go_ret
  exact⟨gY (by rw[hc.out,HN.out];rfl),rfl⟩
end
section
open Go.RowKit Tf
attribute [local go_sem] aJ aK aN aO aP aQ
theorem xor_lt(x:Nat)(h:x<2 ^ 63):x ^^^ 2 ^ 63=x+2 ^ 63:=by
 apply Nat.eq_of_testBit_eq
 intro i
 rw[Nat.testBit_xor,Nat.testBit_two_pow,Nat.add_comm x]
 by_cases c:i=63
 ·subst c
  rw[Nat.testBit_two_pow_add_eq]
  have:x.testBit 63=false:=Nat.testBit_lt_two_pow h
  simp[this]
 ·by_cases c2:i<63
  ·rw[Nat.testBit_two_pow_add_gt c2]
   have: ¬63=i:=by omega
   simp[this]
  ·have h1:x.testBit i=false:=Nat.testBit_lt_two_pow (Nat.lt_of_lt_of_le h (Nat.pow_le_pow_right (by omega) (by omega)))
   have h2:(2 ^ 63+x).testBit i=false:=Nat.testBit_lt_two_pow (Nat.lt_of_lt_of_le (show 2 ^ 63+x<2 ^ 64 by omega) (Nat.pow_le_pow_right (by omega) (by omega)))
   have: ¬63=i:=by omega
   rw[h1,h2];simp[this]
theorem bF(x:Nat)(hx:x<18446744073709551616):Op.negFloat .f64 x=negB x:=by
 unfold Op.negFloat negB
 rw[show FloatKind.f64.format.exponentBits+FloatKind.f64.format.fractionBits=63 from rfl]
 cases h:ng x
 ·have:=dZ h
  rw[xor_lt x (by omega)];simp only[Bool.false_eq_true,if_false]
 ·have:=eU h
  have e:=xor_lt (x - 9223372036854775808) (by omega)
  rw[show x - 9223372036854775808+2 ^ 63=x by omega]at e
  have e2:x ^^^ 2 ^ 63=x - 9223372036854775808:=by
   rw(occs:=.pos [1]) [<- e]
   rw[Nat.xor_assoc,Nat.xor_self,Nat.xor_zero]
  rw[e2];simp only[if_true]
theorem aV(b:Nat):Op.unary .neg (.float .f64 b)=pure (.float .f64 (Op.negFloat .f64 b)):=rfl
attribute [local go_sem] aV
end
section
open Go.RowKit Tf
attribute [local go_sem] aJ aK aN aO aP aQ aV
theorem order_at(a b p q:Nat)(w:World)(ha:a<18446744073709551616)(hb:b<18446744073709551616)(hp:Hid (placeB a=p))(hq:Hid (placeB b=q)):
  Calls prog 159 #[.float .f64 a,.float .f64 b] w fun e w'=>e=.returned (.int .i64 (if p<q then -1 else if q<p then 1 else 0))/\w'=w:=by
 have pa: ∀w,Calls prog 189 #[.float .f64 a] w fun e w'=>e=.returned (.int .u64 (p:Nat))/\w'=w:=by
  intro w;rw[<- hp.out];exact tM a w ha
 have pb: ∀w,Calls prog 189 #[.float .f64 b] w fun e w'=>e=.returned (.int .u64 (q:Nat))/\w'=w:=by
  intro w;rw[<- hq.out];exact tM b w hb
 have PA:=hid pa
 have PB:=hid pb
 clear pa pb
 by_cases c1:p<q
 ·rw[if_pos c1]
  go_enter func159,ntmps159
  go_wp2_with fail
  refine(PA.out _).mono ?_
  rintro e w' ⟨rfl,rfl⟩
  go_wp2_with fail
  refine(PB.out _).mono ?_
  rintro e w' ⟨rfl,rfl⟩
  go_wp2
  go_ret
  exact⟨rfl,rfl⟩
 ·rw[if_neg c1]
  by_cases c2:q<p
  ·rw[if_pos c2]
   go_enter func159,ntmps159
   go_wp2_with fail
   refine(PA.out _).mono ?_
   rintro e w' ⟨rfl,rfl⟩
   go_wp2_with fail
   refine(PB.out _).mono ?_
   rintro e w' ⟨rfl,rfl⟩
   go_wp2
   go_ret
   exact⟨rfl,rfl⟩
  ·rw[if_neg c2]
   go_enter func159,ntmps159
   go_wp2_with fail
   refine(PA.out _).mono ?_
   rintro e w' ⟨rfl,rfl⟩
   go_wp2_with fail
   refine(PB.out _).mono ?_
   rintro e w' ⟨rfl,rfl⟩
   go_wp2
   go_ret
   exact⟨rfl,rfl⟩
theorem Ei(a b:Nat)(w:World)(ha:a<18446744073709551616)(hb:b<18446744073709551616):
  Calls prog 159 #[.float .f64 a,.float .f64 b] w fun e w'=>e=.returned (.int .i64 (orderB a b))/\w'=w:=
 order_at a b (placeB a) (placeB b) w ha hb rfl rfl
theorem gP(a b:Nat)(o:Int)(w:World)(ha:a<18446744073709551616)(hb:b<18446744073709551616)(ho:Hid (orderB a b=o)):
  Calls prog 159 #[.float .f64 a,.float .f64 b] w fun e w'=>e=.returned (.int .i64 o)/\w'=w:=by
 rw[<- ho.out];exact Ei a b w ha hb
theorem Ej(a b:Nat):orderB a b<0 ↔ placeB a<placeB b:=by
 unfold orderB;split
 ·simp_all
 ·split<;>simp_all
theorem tP(a b:Nat):0<orderB a b ↔ placeB b<placeB a:=by
 unfold orderB;split
 ·simp;omega
 ·split<;>simp_all
theorem Cz(a b:Nat)(w:World)(ha:a<18446744073709551616)(hb:b<18446744073709551616):
  Calls prog 176 #[.float .f64 a,.float .f64 b] w fun e w'=>e=.returned (.float .f64 (maxB a b))/\w'=w:=by
 obtain⟨r,hr⟩:=aB (maxB a b)
 obtain⟨o,ho⟩:=aB (orderB a b)
 have h1:=Ej a b
 rw[ho]at h1
 have HO:Hid (orderB a b=o):=ho
 have HR:Hid (r=if isN a||isN b then quiet else if o<0 then b else a):=by
  show r=_
  rw[<- hr];unfold maxB;simp only[h1]
 rw[hr]
 clear hr ho h1
 cases nA:isN a
 ·cases nB:isN b
  ·have h:=HR.out
   rw[nA,nB]at h
   simp only[Bool.or_self,Bool.false_eq_true,if_false]at h
   by_cases c:o<0
   ·have e1:decide (o<0)=true:=by simp;omega
    rw[if_pos c]at h
    rw[h]
    clear c HR h
    go_enter func176,ntmps176
    go_wp2_with fail
    refine(bR a _ ha).mono ?_
    rintro e w' ⟨rfl,rfl⟩
    go_wp2_with fail
    refine(bR b _ hb).mono ?_
    rintro e w' ⟨rfl,rfl⟩
    go_wp2_with fail
    refine(gP a b o _ ha hb HO).mono ?_
    rintro e w' ⟨rfl,rfl⟩
    go_wp2
    go_ret
    exact⟨rfl,rfl⟩
   ·have e1:decide (o<0)=false:=by simp;omega
    rw[if_neg c]at h
    rw[h]
    clear c HR h
    go_enter func176,ntmps176
    go_wp2_with fail
    refine(bR a _ ha).mono ?_
    rintro e w' ⟨rfl,rfl⟩
    go_wp2_with fail
    refine(bR b _ hb).mono ?_
    rintro e w' ⟨rfl,rfl⟩
    go_wp2_with fail
    refine(gP a b o _ ha hb HO).mono ?_
    rintro e w' ⟨rfl,rfl⟩
    go_wp2
    go_ret
    exact⟨rfl,rfl⟩
  ·have h:=HR.out
   rw[nA,nB]at h
   simp only[Bool.or_true,if_true]at h
   rw[h]
   clear HR h
   go_enter func176,ntmps176
   go_wp2_with fail
   refine(bR a _ ha).mono ?_
   rintro e w' ⟨rfl,rfl⟩
   go_wp2_with fail
   refine(bR b _ hb).mono ?_
   rintro e w' ⟨rfl,rfl⟩
   go_wp2_with fail
   refine(dD _).mono ?_
   rintro e w' ⟨rfl,rfl⟩
   go_wp2
   go_ret
   exact⟨rfl,rfl⟩
 ·have h:=HR.out
  rw[nA]at h
  simp only[Bool.true_or,if_true]at h
  rw[h]
  clear HR h
  go_enter func176,ntmps176
  go_wp2_with fail
  refine(bR a _ ha).mono ?_
  rintro e w' ⟨rfl,rfl⟩
  go_wp2_with fail
  refine(dD _).mono ?_
  rintro e w' ⟨rfl,rfl⟩
  go_wp2
  go_ret
  exact⟨rfl,rfl⟩
theorem CI(a b:Nat)(w:World)(ha:a<18446744073709551616)(hb:b<18446744073709551616):
  Calls prog 151 #[.float .f64 a,.float .f64 b] w fun e w'=>e=.returned (.float .f64 (minB a b))/\w'=w:=by
 obtain⟨r,hr⟩:=aB (minB a b)
 obtain⟨o,ho⟩:=aB (orderB a b)
 have h1:=tP a b
 rw[ho]at h1
 have HO:Hid (orderB a b=o):=ho
 have HR:Hid (r=if isN a||isN b then quiet else if 0<o then b else a):=by
  show r=_
  rw[<- hr];unfold minB;simp only[h1]
 rw[hr]
 clear hr ho h1
 cases nA:isN a
 ·cases nB:isN b
  ·have h:=HR.out
   rw[nA,nB]at h
   simp only[Bool.or_self,Bool.false_eq_true,if_false]at h
   by_cases c:0<o
   ·have e1:decide (0<o)=true:=by simp;omega
    rw[if_pos c]at h
    rw[h]
    clear c HR h
    go_enter func151,ntmps151
    go_wp2_with fail
    refine(bR a _ ha).mono ?_
    rintro e w' ⟨rfl,rfl⟩
    go_wp2_with fail
    refine(bR b _ hb).mono ?_
    rintro e w' ⟨rfl,rfl⟩
    go_wp2_with fail
    refine(gP a b o _ ha hb HO).mono ?_
    rintro e w' ⟨rfl,rfl⟩
    go_wp2
    go_ret
    exact⟨rfl,rfl⟩
   ·have e1:decide (0<o)=false:=by simp;omega
    rw[if_neg c]at h
    rw[h]
    clear c HR h
    go_enter func151,ntmps151
    go_wp2_with fail
    refine(bR a _ ha).mono ?_
    rintro e w' ⟨rfl,rfl⟩
    go_wp2_with fail
    refine(bR b _ hb).mono ?_
    rintro e w' ⟨rfl,rfl⟩
    go_wp2_with fail
    refine(gP a b o _ ha hb HO).mono ?_
    rintro e w' ⟨rfl,rfl⟩
    go_wp2
    go_ret
    exact⟨rfl,rfl⟩
  ·have h:=HR.out
   rw[nA,nB]at h
   simp only[Bool.or_true,if_true]at h
   rw[h]
   clear HR h
   go_enter func151,ntmps151
   go_wp2_with fail
   refine(bR a _ ha).mono ?_
   rintro e w' ⟨rfl,rfl⟩
   go_wp2_with fail
   refine(bR b _ hb).mono ?_
   rintro e w' ⟨rfl,rfl⟩
   go_wp2_with fail
   refine(dD _).mono ?_
   rintro e w' ⟨rfl,rfl⟩
   go_wp2
   go_ret
   exact⟨rfl,rfl⟩
 ·have h:=HR.out
  rw[nA]at h
  simp only[Bool.true_or,if_true]at h
  rw[h]
  clear HR h
  go_enter func151,ntmps151
  go_wp2_with fail
  refine(bR a _ ha).mono ?_
  rintro e w' ⟨rfl,rfl⟩
  go_wp2_with fail
  refine(dD _).mono ?_
  rintro e w' ⟨rfl,rfl⟩
  go_wp2
  go_ret
  exact⟨rfl,rfl⟩
def nanOf(w:World)(x y:Nat):Nat:=(Question.nanBits .f64 x y).cut (w.tape w.drawn (.nanBits .f64 x y))
theorem fW(w:World)(x y:Nat):nanOf w x y<18446744073709551616:=by
 unfold nanOf Question.cut
 simp only[]
 omega
theorem dS(w:World)(x y:Nat):isN (nanOf w x y)=true:=by
 rw[bJ]
 unfold nanOf Question.cut mg
 simp only[]
 generalize w.tape w.drawn (Question.nanBits FloatKind.f64 x y)=t
 have hb:t/2%(2 ^ 52 - 1)<2 ^ 52 - 1:=Nat.mod_lt _ (by omega)
 generalize t/2%(2 ^ 52 - 1)=b at*
 have ha:t%2=0\/t%2=1:=by omega
 rcases ha with h | h<;>rw[h]<;>omega
theorem oW{P:Program}(w:World)(t:TypeId)(x y:Nat)(h:Ieee.double.sub x y=none):
  (binOp .sub t (.float .f64 x) (.float .f64 y)).run P w=.ok (.float .f64 (nanOf w x y)) w.drew:=by
 have h':FloatKind.f64.format.sub x y=none:=h
 simp[binOp,Op.floatArith,h',nanOf,Question.forced]
end
section
open Go.RowKit Tf
attribute [local go_sem] aJ aK aN aO aP aQ
theorem jV{P:Program}(w:World)(t:TypeId)(x y:Nat)(h:Ieee.double.add x y=none):
  (binOp .add t (.float .f64 x) (.float .f64 y)).run P w=.ok (.float .f64 (nanOf w x y)) w.drew:=by
 have h':FloatKind.f64.format.add x y=none:=h
 simp[binOp,Op.floatArith,h',nanOf,Question.forced]
theorem xK{P:Program}(w:World)(t:TypeId)(x y:Nat)(h:Ieee.double.mul x y=none):
  (binOp .mul t (.float .f64 x) (.float .f64 y)).run P w=.ok (.float .f64 (nanOf w x y)) w.drew:=by
 have h':FloatKind.f64.format.mul x y=none:=h
 simp[binOp,Op.floatArith,h',nanOf,Question.forced]
theorem vH(x:Nat)(w:World)(hx:x<18446744073709551616):
  Calls prog 162 #[.float .f64 x] w fun e w'=>e=.returned (.float .f64 (mg x))/\w'=w:=by
 go_enter func162,ntmps162
 go_wp2
 go_ret
 refine⟨gY ?_,rfl⟩
 rw[oU x hx];rfl
theorem jW(m:Nat)(h:m<9223372036854775808):rk m=m:=by
 unfold rk;rw[bK h,if_neg (by decide),aZ h]
end
section
open Go.RowKit Tf
attribute [local go_sem] aJ aK aN aO aP aQ aV
theorem xL(x:Nat)(r:Nat)(w:World)(hx:x<18446744073709551616)(hr:canonB x=r):
  Calls prog 63 #[.float .f64 x] w fun e w'=>e=.returned (.float .f64 r)/\w'=w:=by
 subst hr;exact bN x w hx
end
section
open Go.RowKit Tf
attribute [local go_sem] aJ aK aN aO aP aQ aV
theorem add_any{P:Program}(w:World)(s q x y:Nat)(h:IsQ s q)(k:IsQ x y): ∃r n,(∀t,(binOp .add t (.float .f64 s) (.float .f64 x)).run P w=.ok (.float .f64 r) (w.drewN n))/\IsQ r (plB q y):=by
 cases e:Ieee.double.add s x with
 | none=>exact⟨nanOf w s x,1,fun t=>jV w t s x e,h.nan k e (fW _ _ _) (dS _ _ _)⟩
 | some r=>exact⟨r,0,fun t=>run_float_arith w .add t .f64 s x r e,h.add k e⟩
theorem Ek(x:Nat)(hx:x<18446744073709551616):feq x x= !isN x:=by
 rw[gQ x x hx hx]
 cases isN x<;>simp
theorem tQ(x q:Nat)(w:World)(h:IsQ x q):
  Calls prog 141 #[.float .f64 x] w fun e w'=>e=.returned (.float .f64 q)/\w'=w:=by
 obtain⟨h1,h2⟩:=h
 have C:=hid (fun w=>xL x _ w h1 rfl)
 have hf:=Ek x h1
 cases hN:isN x
 ·rw[hN]at hf
  rw[fT hN]at h2
  subst h2
  clear hN h1
  go_enter func141,ntmps141
  go_wp2
  go_ret
  exact⟨rfl,rfl⟩
 ·rw[hN]at hf
  have hc:canonB x=q:=by rw[<- h2,qB_N hN];unfold canonB;rw[hN];rfl
  rw[hc]at C
  clear hN h1 h2 hc
  go_enter func141,ntmps141
  go_wp2_with fail
  refine(C.out _).mono ?_
  rintro e w' ⟨rfl,rfl⟩
  go_wp2
  go_ret
  exact⟨rfl,rfl⟩
def IsFl(w:World)(a0:Option Addr)(len:Nat)(xs:Nat->Nat):Prop:= ∀k,k<len->xs k<18446744073709551616/\ ∃b o,a0=some ⟨b,o,none⟩/\b<w.heap.size/\w.cell? ⟨b,o+k,none⟩=some (.float .f64 (xs k))
theorem IsFl.below{w w':World}{a0:Option Addr}{len:Nat}{xs:Nat->Nat}(h:IsFl w a0 len xs)(hb:Below w.heap.size w w'):IsFl w' a0 len xs:=by
 intro k hk
 obtain⟨h1,b,o,h2,h3,h4⟩:=h k hk
 exact⟨h1,b,o,h2,Nat.lt_of_lt_of_le h3 hb.size,by rw[hb.cell (p:=⟨b,o+k,none⟩) h3];exact h4⟩
theorem xM(a0:Option Addr)(cap:Nat)(w:World):
  Calls prog 104 #[.slice a0 0 cap] w fun e w'=>e=.returned (.float .f64 0)/\w'=w:=by
 go_enter func104,ntmps104
 go_wp2
 go_ret
 exact⟨rfl,rfl⟩
theorem Ak(b o cap x q:Nat)(w:World)(_hcap:(1:Int)<=cap)(_hl:(cap:Int)<=9223372036854775807)(h0:w.cell? ⟨b,o,none⟩=some (.float .f64 x))(hx:Hid (IsQ x q)):
  Calls prog 104 #[.slice (some ⟨b,o,none⟩) 1 cap] w fun e w'=>e=.returned (.float .f64 q)/\ ∃k,w'=w.drewN k:=by
 have C:=hid (fun w=>tQ x q w hx.out)
 clear hx
 by_cases hc:cap=1
 ·go_enter func104,ntmps104
  go_wp2
  go_loopw [3,15] (fun sv iv wr=>sv=.float .f64 x/\iv=.int .i64 0/\wr=w) (fun _ _ _=>0)
  case atStart=>exact⟨rfl,rfl,rfl⟩
  case round=>
   obtain⟨rfl,rfl,rfl⟩:=hrel
   go_wp2_with fail
   refine(C.out _).mono ?_
   rintro e w' ⟨rfl,rfl⟩
   go_wp2
   go_ret
   exact⟨rfl,0,rfl⟩
 ·go_enter func104,ntmps104
  go_wp2
  go_loopw [3,15] (fun sv iv wr=>sv=.float .f64 x/\iv=.int .i64 0/\wr=w) (fun _ _ _=>0)
  case atStart=>exact⟨rfl,rfl,rfl⟩
  case round=>
   obtain⟨rfl,rfl,rfl⟩:=hrel
   go_wp2_with fail
   refine(C.out _).mono ?_
   rintro e w' ⟨rfl,rfl⟩
   go_wp2
   go_ret
   exact⟨rfl,0,rfl⟩
theorem xN(b o n cap:Nat)(xs:Nat->Nat)(w:World)(hn:1<=n)(hcap:(n:Int)+1<=cap)(hl:(cap:Int)<=9223372036854775807)(h:Hid (IsFl w (some ⟨b,o,none⟩) (n+1) xs)):
  Calls prog 104 #[.slice (some ⟨b,o,none⟩) (n+1:Nat) cap] w fun e w'=>e=.returned (.float .f64 (lfF xs n))/\ ∃k,w'=w.drewN k:=by
 have hc1: ¬cap=1:=by omega
 have cells: ∀k,k<n+1-> ∀j,(w.drewN j).cell? ⟨b,o+k,none⟩=some (.float .f64 (xs k)):=by
  intro k hk j
  obtain⟨_,b',o',e,_,h3⟩:=h.out k hk
  cases e;exact h3
 have h0:w.cell? ⟨b,o,none⟩=some (.float .f64 (xs 0)):=cells 0 (by omega) 0
 have HC:=hid cells
 obtain⟨x0,hx0⟩:=aB (xs 0)
 rw[hx0]at h0
 have HX:=hid hx0
 have C:=hid (fun x q w=>tQ x q w)
 clear cells hx0
 go_enter func104,ntmps104
 go_wp2
 go_loopw [3,15] (fun sv iv wr=> ∃k s j:Nat,k<=n/\sv=.float .f64 s/\iv=.int .i64 (k:Nat)/\wr=w.drewN j/\Hid (IsQ s (lfF xs k))) (fun _ iv _=>n - (intOf iv).toNat)
 case atStart=>exact⟨0,x0,0,by omega,rfl,rfl,rfl,by rw[<- HX.out];exact IsQ.self (h.out 0 (by omega)).1⟩
 case round=>
  obtain⟨k,s,j,hk,rfl,rfl,rfl,hq⟩:=hrel
  by_cases hlt:k<n
  ·have cn:=HC.out (k+1) (by omega) j
   have cn':(w.drewN j).cell? ⟨b,o+1+k,none⟩=some (.float .f64 (xs (k+1))):=by rw[show o+1+k=o+(k+1)by omega];exact cn
   obtain⟨r,m,hr,hrq⟩:=add_any (P:=prog) (w.drewN j) s _ (xs (k+1)) _ hq.out (IsQ.self (h.out (k+1) (by omega)).1)
   rw[Af]at hrq
   obtain⟨x,hx⟩:=aB (xs (k+1))
   rw[hx]at cn cn' hr
   have HQ:=hid hrq
   have HL:=hid hlt
   have kl:((k:Nat):Int)<n:=by omega
   clear hx hrq hlt hq hk
   go_wp2
   refine⟨⟨k+1,r,_,HL.out,rfl,by simp,rfl,HQ.out⟩,by have:=HL.out;simp[intOf];omega⟩
  ·have e:k=n:=by omega
   subst e
   have kl:decide (((k:Nat):Int)<(k:Nat))=false:=by simp
   have C':=hid (fun w=>C.out s (lfF xs k) w hq.out)
   clear C hq hlt hk
   go_wp2_with fail
   refine(C'.out _).mono ?_
   rintro e w' ⟨rfl,rfl⟩
   go_wp2
   go_ret
   exact⟨rfl,_,rfl⟩
theorem El(a0:Option Addr)(len cap:Nat)(xs:Nat->Nat)(w:World)(hcap:len<=cap)(hl:(cap:Int)<=9223372036854775807)(h:IsFl w a0 len xs):
  Calls prog 104 #[.slice a0 len cap] w fun e w'=>e=.returned (.float .f64 (leftB xs len))/\ ∃k,w'=w.drewN k:=by
 by_cases h0:len=0
 ·subst h0
  exact(xM a0 cap w).mono fun e w' ⟨he,hw⟩=>⟨he,0,hw⟩
 ·obtain⟨x1,b,o,rfl,_,x3⟩:=h 0 (by omega)
  have e:leftB xs len=lfF xs (len - 1):=by unfold leftB;rw[if_neg h0]
  rw[e]
  by_cases h1:len=1
  ·subst h1
   exact Ak b o cap (xs 0) _ w (by omega) hl x3 (IsQ.self x1)
  ·have:=xN b o (len - 1) cap xs w (by omega) (by omega) hl (by rw[show len - 1+1=len by omega];exact h)
   rw[show len - 1+1=len by omega]at this
   exact this
end
section
open Go.RowKit Tf
attribute [local go_sem] aJ aK aN aO aP aQ aV
theorem fl_new(w:World)(T:TypeId)(c:Array Value)(xs:Nat->Nat)(n:Nat)(h: ∀k,k<n->xs k<18446744073709551616/\c[k]? =some (.float .f64 (xs k))):IsFl (w.alloc (.cells c T)) (some ⟨w.heap.size,0,none⟩) n xs:=by
 intro k hk
 refine⟨(h k hk).1,w.heap.size,0,rfl,by simp,?_⟩
 rw[Nat.zero_add]
 have:=(h k hk).2
 simp[this]
end
section
open Go.RowKit Tf
attribute [local go_sem] aJ aK aN aO aP aQ aV
theorem xO(x:Nat):placeB (mg x)=mg x+9223372036854775808:=by
 unfold placeB;rw[bK (qS x)];rfl
theorem order_mg(a b:Nat):orderB (mg a) (mg b)=if mg a<mg b then -1 else if mg b<mg a then 1 else 0:=by
 unfold orderB
 rw[xO,xO]
 by_cases h1:mg a<mg b
 ·rw[if_pos (by omega),if_pos h1]
 ·rw[if_neg (by omega),if_neg h1]
  by_cases h2:mg b<mg a
  ·rw[if_pos (by omega),if_pos h2]
  ·rw[if_neg (by omega),if_neg h2]
theorem key_lt(a b:Nat)(ha:a<18446744073709551616)(hb:b<18446744073709551616):key b<key a ↔ mg b<mg a\/(mg a=mg b/\placeB b<placeB a):=by
 have h1:=jC a ha
 have h2:=jC b hb
 have h3:=qS a
 have h4:=qS b
 unfold key placeB
 revert h1 h2
 cases ng a<;>cases ng b<;>simp<;>omega
theorem En(a b:Nat)(r:Bool)(w:World)(ha:a<18446744073709551616)(hb:b<18446744073709551616)(hr:decide (key b<key a)=r):
  Calls prog 140 #[.float .f64 a,.float .f64 b] w fun e w'=>e=.returned (.bool r)/\w'=w:=by
 have A:=hid (fun w=>vH a w ha)
 have B:=hid (fun w=>vH b w hb)
 have h3:=qS a
 have h4:=qS b
 have O:=hid (fun o w h=>gP (mg a) (mg b) o w (by omega) (by omega) h)
 have O2:=hid (fun w=>gP a b _ w ha hb rfl)
 have hk:=key_lt a b ha hb
 have ho:=order_mg a b
 by_cases c1:mg a<mg b
 ·rw[if_pos c1]at ho
  have O':=hid (fun w=>O.out _ w ho)
  have e:r=false:=by rw[<- hr];exact decide_eq_false (fun x=>by have:=hk.1 x;omega)
  subst e
  clear O O2 hk hr ho c1 h3 h4 ha hb
  generalize mg a=ma at*
  generalize mg b=mb at*
  go_enter func140,ntmps140
  go_wp2_with fail
  refine(A.out _).mono ?_
  rintro e w' ⟨rfl,rfl⟩
  go_wp2_with fail
  refine(B.out _).mono ?_
  rintro e w' ⟨rfl,rfl⟩
  go_wp2_with fail
  refine(O'.out _).mono ?_
  rintro e w' ⟨rfl,rfl⟩
  go_wp2
  go_ret
  exact⟨rfl,rfl⟩
 by_cases c2:mg b<mg a
 ·rw[if_neg c1,if_pos c2]at ho
  have O':=hid (fun w=>O.out _ w ho)
  have e:r=true:=by rw[<- hr];exact decide_eq_true (hk.2 (.inl c2))
  subst e
  clear O O2 hk hr ho c1 c2 h3 h4 ha hb
  generalize mg a=ma at*
  generalize mg b=mb at*
  go_enter func140,ntmps140
  go_wp2_with fail
  refine(A.out _).mono ?_
  rintro e w' ⟨rfl,rfl⟩
  go_wp2_with fail
  refine(B.out _).mono ?_
  rintro e w' ⟨rfl,rfl⟩
  go_wp2_with fail
  refine(O'.out _).mono ?_
  rintro e w' ⟨rfl,rfl⟩
  go_wp2
  go_ret
  exact⟨rfl,rfl⟩
 ·rw[if_neg c1,if_neg c2]at ho
  have O':=hid (fun w=>O.out _ w ho)
  obtain⟨o,ho2⟩:=aB (orderB a b)
  have e:decide (0<o)=r:=by
   rw[<- hr,<- ho2]
   refine decide_eq_decide.2 ?_
   rw[tP,hk]
   constructor
   ·intro h;exact .inr ⟨by omega,h⟩
   ·rintro(h | h)
    ·omega
    ·exact h.2
  rw[ho2]at O2
  clear O hk hr ho c1 c2 h3 h4 ha hb ho2
  generalize mg a=ma at*
  generalize mg b=mb at*
  go_enter func140,ntmps140
  go_wp2_with fail
  refine(A.out _).mono ?_
  rintro e w' ⟨rfl,rfl⟩
  go_wp2_with fail
  refine(B.out _).mono ?_
  rintro e w' ⟨rfl,rfl⟩
  go_wp2_with fail
  refine(O'.out _).mono ?_
  rintro e w' ⟨rfl,rfl⟩
  go_wp2_with fail
  refine(O2.out _).mono ?_
  rintro e w' ⟨rfl,rfl⟩
  go_wp2
  go_ret
  exact⟨by first | rfl | (rw[<- e];try rfl) | skip,rfl⟩
theorem nP(a b:Nat)(w:World)(ha:a<18446744073709551616)(hb:b<18446744073709551616):
  Calls prog 103 #[.float .f64 a,.float .f64 b] w fun e w'=>e=.returned (.tuple #[.float .f64 (loB a b),.float .f64 (hiB a b)])/\w'=w:=by
 have B:=hid (fun w=>En a b _ w ha hb rfl)
 unfold loB hiB
 by_cases c:key b<key a
 ·rw[if_pos c,if_pos c]
  rw[decide_eq_true c]at B
  clear c
  go_enter func103,ntmps103
  go_wp2_with fail
  refine(B.out _).mono ?_
  rintro e w' ⟨rfl,rfl⟩
  go_wp2
  go_ret2
  exact⟨rfl,rfl⟩
 ·rw[if_neg c,if_neg c]
  rw[decide_eq_false c]at B
  clear c
  go_enter func103,ntmps103
  go_wp2_with fail
  refine(B.out _).mono ?_
  rintro e w' ⟨rfl,rfl⟩
  go_wp2
  go_ret2
  exact⟨rfl,rfl⟩
theorem lo_lt{a b:Nat}(ha:a<18446744073709551616)(hb:b<18446744073709551616):loB a b<18446744073709551616:=by unfold loB;split<;>assumption
theorem hi_lt{a b:Nat}(ha:a<18446744073709551616)(hb:b<18446744073709551616):hiB a b<18446744073709551616:=by unfold hiB;split<;>assumption
theorem three_go(a b c a1 b1 b2 c2 a3 b3 r:Nat)(w:World)
  (L1:Hid (∀w,Calls prog 103 #[.float .f64 a,.float .f64 b] w fun e w'=>e=.returned (.tuple #[.float .f64 a1,.float .f64 b1])/\w'=w))
  (L2:Hid (∀w,Calls prog 103 #[.float .f64 b1,.float .f64 c] w fun e w'=>e=.returned (.tuple #[.float .f64 b2,.float .f64 c2])/\w'=w))
  (L3:Hid (∀w,Calls prog 103 #[.float .f64 a1,.float .f64 b2] w fun e w'=>e=.returned (.tuple #[.float .f64 a3,.float .f64 b3])/\w'=w))
  (T:Hid (Calls prog 104 #[.slice (some ⟨w.heap.size,0,none⟩) 3 3] (w.alloc (.cells #[.float .f64 a3,.float .f64 b3,.float .f64 c2] 35)) fun e w'=>e=.returned (.float .f64 r)/\Hid (Below w.heap.size w w'))):
  Calls prog 65 #[.float .f64 a,.float .f64 b,.float .f64 c] w fun e w'=>e=.returned (.float .f64 r)/\Hid (Below w.heap.size w w'):=by
 go_enter func65,ntmps65
 go_wp2_with fail
 refine(L1.out _).mono ?_
 rintro e w' ⟨rfl,rfl⟩
 go_wp2_with fail
 refine(L2.out _).mono ?_
 rintro e w' ⟨rfl,rfl⟩
 go_wp2_with fail
 refine(L3.out _).mono ?_
 rintro e w' ⟨rfl,rfl⟩
 go_wp2_with fail
 refine T.out.mono ?_
 rintro e w' ⟨rfl,hb⟩
 go_wp2
 go_ret
 exact⟨rfl,hb⟩
theorem three_at(a b c:Nat)(w:World)(ha:a<18446744073709551616)(hb:b<18446744073709551616)(hc:c<18446744073709551616):
  Calls prog 65 #[.float .f64 a,.float .f64 b,.float .f64 c] w fun e w'=>e=.returned (.float .f64 (thB a b c))/\Hid (Below w.heap.size w w'):=by
 have l1:=lo_lt ha hb
 have l2:=hi_lt ha hb
 have l3:=lo_lt l2 hc
 have l4:=hi_lt l2 hc
 refine three_go a b c _ _ _ _ _ _ _ w (fun w=>nP a b w ha hb) (fun w=>nP _ c w l2 hc) (fun w=>nP _ _ w l1 l3) ?_
 have l5:=lo_lt l1 l3
 have l6:=hi_lt l1 l3
 unfold thB
 generalize loB (loB a b) (loB (hiB a b) c)=u at*
 generalize hiB (loB a b) (loB (hiB a b) c)=v at*
 generalize hiB (hiB a b) c=z at*
 have hf:IsFl (w.alloc (.cells #[.float .f64 u,.float .f64 v,.float .f64 z] 35)) (some ⟨w.heap.size,0,none⟩) 3 (fun j=>if j=0 then u else if j=1 then v else z):=by
  refine fl_new w _ _ _ 3 (fun k hk=> ?_)
  rcases(show k=0\/k=1\/k=2 by omega)with rfl | rfl | rfl
  ·exact⟨l5,rfl⟩
  ·exact⟨l6,rfl⟩
  ·exact⟨l4,rfl⟩
 refine(El _ 3 3 _ _ (Nat.le_refl _) (by decide) hf).mono ?_
 rintro e w' ⟨he,k,rfl⟩
 refine⟨?_,below_drewN ((Below.refl _ _).alloc (Nat.le_refl _) _) k⟩
 rw[he]
 have:leftB (fun j=>if j=0 then u else if j=1 then v else z) 3=plB (plB (qB u) v) z:=rfl
 rw[this,Ae]
end
section
open Go.RowKit Tf
attribute [local go_sem] aJ aK aN aO aP aQ aV
theorem Eo(v:Int):canonB (rn false v)=rn false v:=jS false v
theorem Al(a b:Nat)(ha:a<18446744073709551616)(hb:b<18446744073709551616):canonB (addB a b)=addB a b:=by
 rcases kP a b ha hb with⟨h1,h2⟩ | h | ⟨s,h⟩
 ·rw[dM a b ha hb h1 h2,Eo]
 ·rw[aX h];decide
 ·rw[bE h,gR,gR]
end
section
open Go.RowKit Tf
theorem aD{P:Program}{w:World}{a:Addr}{m:Mode}(k:FloatKind)(x:Nat):(store a (.float k x) m).run P w=stored P w a (.float k x) m:=run_store P w a _ m rfl
attribute [local go_sem] aJ aK aN aO aP aQ aV aD
theorem nQ(a b:Nat):Ieee.double.mul (qB a) b=Ieee.double.mul a b:=by
 cases h:isN a
 ·rw[fT h]
 ·rw[fM a b (.inl h),fM _ _ (.inl (by rw[gA];exact h))]
theorem nR(a b:Nat):Ieee.double.mul a (qB b)=Ieee.double.mul a b:=by rw[Go.Proofs.YtmhnilnaffjhmaaGreatDoor.mul_comm,nQ,Go.Proofs.YtmhnilnaffjhmaaGreatDoor.mul_comm]
theorem fN{P:Program}(w:World)(s q x y:Nat)(h:IsQ s q)(k:IsQ x y): ∃r n,(∀t,(binOp .mul t (.float .f64 s) (.float .f64 x)).run P w=.ok (.float .f64 r) (w.drewN n))/\IsQ r (mlB q y):=by
 have e0:mlB q y=mlB s x:=by unfold mlB;rw[<- h.2,<- k.2,nQ,nR]
 rw[e0]
 cases e:Ieee.double.mul s x with
 | none=>exact⟨nanOf w s x,1,fun t=>xK w t s x e,fW _ _ _,by rw[eA e];exact qB_N (dS _ _ _)⟩
 | some r=>exact⟨r,0,fun t=>run_float_arith w .mul t .f64 s x r e,(iO e h.1 k.1).1,by rw[cZ e];exact fT (iO e h.1 k.1).2⟩
theorem addB_q{a b c d:Nat}(hb:b<18446744073709551616)(hd:d<18446744073709551616)(h:qB a=qB c)(k:qB b=qB d):addB a (negB b)=addB c (negB d):=by
 cases h1:isN a
 ·have h2:isN c=false:=by rw[<- gA,<- h,gA];exact h1
  rw[fT h1,fT h2]at h
  subst h
  cases h3:isN b
  ·have h4:isN d=false:=by rw[<- gA,<- k,gA];exact h3
   rw[fT h3,fT h4]at k
   rw[k]
  ·have h4:isN d=true:=by rw[<- gA,<- k,gA];exact h3
   rw[aX (bI _ _ (.inr (by rw[fV hb];exact h3))),aX (bI _ _ (.inr (by rw[fV hd];exact h4)))]
 ·have h2:isN c=true:=by rw[<- gA,<- h,gA];exact h1
  rw[aX (bI _ _ (.inl h1)),aX (bI _ _ (.inl h2))]
def IsC(s q:Nat):Prop:=s<18446744073709551616/\canonB s=q
theorem mM{P:Program}(w:World)(s q x y:Nat)(h:IsQ s q)(k:IsQ x y): ∃r n,(∀t,(binOp .sub t (.float .f64 s) (.float .f64 x)).run P w=.ok (.float .f64 r) (w.drewN n))/\IsC r (sbB q y):=by
 have e0:sbB q y=addB s (negB x):=addB_q k.lt k.1 (by rw[<- h.2,qB_qB]) (by rw[<- k.2,qB_qB])
 rw[e0]
 have ea:=pS s x k.1
 cases e:Ieee.double.sub s x with
 | none=>
  refine⟨nanOf w s x,1,fun t=>oW w t s x e,fW _ _ _,?_⟩
  rw[aX (by rw[<- ea];exact e)]
  unfold canonB;rw[if_pos (dS _ _ _)]
 | some r=>
  rw[e]at ea
  exact⟨r,0,fun t=>run_float_arith w .sub t .f64 s x r e,(kS h.1 (bC k.1) ea.symm).1,by rw[bE ea.symm]⟩
theorem xP{P:Program}(w:World)(t:TypeId)(x y:Nat)(h:Ieee.double.div x y=none):
  (binOp .quo t (.float .f64 x) (.float .f64 y)).run P w=.ok (.float .f64 (nanOf w x y)) w.drew:=by
 have h':FloatKind.f64.format.div x y=none:=h
 simp[binOp,Op.floatArith,h',nanOf,Question.forced]
theorem div_lt{x y r:Nat}(h:Ieee.double.div x y=some r):r<18446744073709551616:=Ieee.Format.div_lt Ieee.double h
theorem gJ{P:Program}(w:World)(s x:Nat): ∃r n,(∀t,(binOp .quo t (.float .f64 s) (.float .f64 x)).run P w=.ok (.float .f64 r) (w.drewN n))/\IsC r (dvB s x):=by
 cases e:Ieee.double.div s x with
 | none=>exact⟨nanOf w s x,1,fun t=>xP w t s x e,fW _ _ _,by rw[gS e];unfold canonB;rw[if_pos (dS _ _ _)]⟩
 | some r=>exact⟨r,0,fun t=>run_float_arith w .quo t .f64 s x r e,div_lt e,by rw[eV e]⟩
theorem sqrt_lt{x r:Nat}(h:Ieee.double.sqrt x=some r):r<18446744073709551616:=Ieee.Format.sqrt_lt Ieee.double h
theorem run_sqrt(x:Nat)(w:World): ∃r n,(callFunc 102 #[.float .f64 x]).run prog w=.ok (.value (.float .f64 r)) (w.drewN n)/\IsC r (rtB x):=by
 have e0:Extern.MathSqrt.sqrt #[.float .f64 x]=(match FloatKind.f64.format.sqrt x with | some r=>pure (.float .f64 r) | none=>do pure (.float .f64 (<- choose (.nanBits .f64 x x)))):=rfl
 rw[run_callFunc_extern (e:=Extern.MathSqrt.sqrt) func102 (by kernel_rfl) (by kernel_rfl) (by kernel_rfl) (by kernel_rfl),e0]
 cases e:Ieee.double.sqrt x with
 | none=>
  refine⟨nanOf w x x,1,?_,fW _ _ _,by rw[jU e];unfold canonB;rw[if_pos (dS _ _ _)]⟩
  have h':FloatKind.f64.format.sqrt x=none:=e
  rw[h']
  simp[nanOf,Question.forced]
  rfl
 | some r=>
  refine⟨r,0,?_,sqrt_lt e,by rw[iP e]⟩
  have h':FloatKind.f64.format.sqrt x=some r:=e
  rw[h']
  simp
  rfl
theorem nS(x:Nat)(w:World)(hx:x<18446744073709551616):
  Calls prog 66 #[.float .f64 x] w fun e w'=> ∃r n,e=.returned (.float .f64 r)/\w'=w.drewN n/\IsQ r (sqB x):=by
 obtain⟨r,n,hr,hq⟩:=fN (P:=prog) w x _ x _ (IsQ.self hx) (IsQ.self hx)
 have HQ:Hid (IsQ r (sqB x)):=by unfold sqB mlB;rw[<- nQ,<- nR];exact hq
 clear hq hx
 go_enter func66,ntmps66
 go_wp2
 go_ret
 exact⟨r,n,rfl,rfl,HQ.out⟩
theorem vJ(x y u v:Nat)(w:World)(hx:x<18446744073709551616)(hy:y<18446744073709551616)(hu:u<18446744073709551616)(hv:v<18446744073709551616):
  Calls prog 68 #[.float .f64 x,.float .f64 y,.float .f64 u,.float .f64 v] w fun e w'=> ∃r n,e=.returned (.float .f64 r)/\w'=w.drewN n/\IsC r (sbB (mlB x v) (mlB y u)):=by
 obtain⟨p,n,hp,pq⟩:=fN (P:=prog) w x _ v _ (IsQ.self hx) (IsQ.self hv)
 obtain⟨q,m,hq,qq⟩:=fN (P:=prog) (w.drewN n) y _ u _ (IsQ.self hy) (IsQ.self hu)
 obtain⟨r,l,hr,rr⟩:=mM (P:=prog) (w.drewN (n+m)) p _ q _ pq qq
 rw[World.drewN_drewN]at hq hr
 have HQ:Hid (IsC r (sbB (mlB x v) (mlB y u))):=by
  have e1:mlB x v=mlB (qB x) (qB v):=by unfold mlB;rw[nQ,nR]
  have e2:mlB y u=mlB (qB y) (qB u):=by unfold mlB;rw[nQ,nR]
  rw[e1,e2];exact rr
 clear pq qq rr hx hy hu hv
 go_enter func68,ntmps68
 go_wp2
 go_ret
 exact⟨r,_,rfl,rfl,HQ.out⟩
theorem sqrt_at(x:Nat)(w:World):
  Calls prog 64 #[.float .f64 x] w fun e w'=> ∃r n,e=.returned (.float .f64 r)/\w'=w.drewN n/\IsC r (rtB x):=by
 obtain⟨r,n,hr,hq⟩:=run_sqrt x w
 have HQ:=hid hq
 clear hq
 go_enter func64,ntmps64
 go_wp2
 go_ret
 exact⟨r,n,rfl,rfl,HQ.out⟩
theorem nU(x y z a b c:Nat)(w:World)(hx:IsC x a)(hy:IsC y b)(hz:IsC z c):
  Calls prog 67 #[.float .f64 x,.float .f64 y,.float .f64 z] w fun e w'=>e=.returned (.agg #[.float .f64 a,.float .f64 b,.float .f64 c])/\Below w.heap.size w w':=by
 obtain⟨x1,x2⟩:=hx
 obtain⟨y1,y2⟩:=hy
 obtain⟨z1,z2⟩:=hz
 have CX:Hid (∀w,Calls prog 63 #[.float .f64 x] w fun e w'=>e=.returned (.float .f64 a)/\w'=w):=fun w=>by rw[<- x2];exact bN x w x1
 have CY:Hid (∀w,Calls prog 63 #[.float .f64 y] w fun e w'=>e=.returned (.float .f64 b)/\w'=w):=fun w=>by rw[<- y2];exact bN y w y1
 have CZ:Hid (∀w,Calls prog 63 #[.float .f64 z] w fun e w'=>e=.returned (.float .f64 c)/\w'=w):=fun w=>by rw[<- z2];exact bN z w z1
 have A0:=hid (bl1 w (.cells #[.float .f64 0,.float .f64 0,.float .f64 0] 79))
 have r0:=heap_alloc_new w (.cells #[.float .f64 0,.float .f64 0,.float .f64 0] 79)
 have R0:=hid r0
 clear x1 x2 y1 y2 z1 z2 r0
 go_enter func67,ntmps67
 go_wp2_with fail
 refine(CX.out _).mono ?_
 rintro e W ⟨rfl,hW⟩
 have r1:W.heap[w.heap.size]? =some (.cells #[.float .f64 0,.float .f64 0,.float .f64 0] 79):=by rw[hW];exact R0.out
 have A1:Hid (Ab w W):=by rw[hW];exact A0.out
 obtain⟨⟨o0,o1,o2⟩,o3,o4,o5⟩:=rowfacts r1
 have R1:=hid r1
 clear hW r1 A0 R0
 go_wp2_with fail
 refine(CY.out _).mono ?_
 rintro e W ⟨rfl,rfl⟩
 go_wp2_with fail
 refine(CZ.out _).mono ?_
 rintro e W ⟨rfl,rfl⟩
 go_wp2
 refine bodyPost_ret ?_ rfl ⟨rfl,?_⟩
 ·exact results_cell_row results67 _ _ w.heap.size _ _ (0,0) _ rfl (lF R1.out) underlying79 rfl (by kernel_rfl)
 ·exact((Ab.setk A1.out (Nat.le_refl _) _).setk (Nat.le_refl _) _).setk (Nat.le_refl _) _
end
end Go.Proofs.YtmhnilnaffjhmaaGreatDoor
