/-
  Some of the texts of this proof, one behind the other.
-/
import Derived.WalkKit
import Derived.WalkSpells
import Derived.WalkLawsBesides
import Derived.Test.YtlmfpikhlcnjjaaGreatDoorRows
import Derived.Deep.Draws
import Derived.Test.YtlmfpikhlcnjjaaGreatDoorSk01
set_option maxRecDepth 100000
set_option maxHeartbeats 400000000
namespace Go.Proofs.YtlmfpikhlcnjjaaGreatDoor
open _root_.Go.Proofs.Tryz
namespace Tf
open Ieee
theorem mA(m c:Nat)(hm:m≠0):(m*2 ^ c).log2=m.log2+c:=by
 have h1:=Nat.log2_self_le hm
 have h2:m<2 ^ (m.log2+1):=Nat.lt_log2_self
 have hc:=aQ c
 refine rC ?_ ?_
 ·rw[Nat.pow_add];exact Nat.mul_le_mul_right _ h1
 ·rw[show m.log2+c+1=(m.log2+1)+c from by omega,Nat.pow_add]
  exact(Nat.mul_lt_mul_right hc).2 h2
theorem shl(m c:Nat):m <<< c=m*2 ^ c:=Nat.shiftLeft_eq ..
theorem dE(f:Format)(neg:Bool)(m c:Nat)(place:Int):f.nearest neg (m*2 ^ c) place=f.nearest neg m (place+c):=by
 by_cases hm:m=0
 ·subst hm;simp[Format.nearest]
 ·have hc:=aQ c
  have hmc:m*2 ^ c≠0:=Nat.mul_ne_zero hm (by omega)
  unfold Format.nearest
  rw[if_neg hm,if_neg hmc,mA m c hm]
  have el:max (place+((m.log2+c:Nat):Int) - f.fractionBits) f.leastPlace=max (place+c+(m.log2:Nat) - f.fractionBits) f.leastPlace:=by
   congr 1;omega
  simp only[el,jG,shl]
  generalize max (place+(c:Int)+(m.log2:Nat) - (f.fractionBits:Int)) f.leastPlace=last
  congr 3
  by_cases h1:0<=place - last
  ·have a1:(last - place).toNat=0:=by omega
   have a2:(last - (place+c)).toNat=0:=by omega
   have a3:(place+c - last).toNat=c+(place - last).toNat:=by omega
   rw[a1,a2,a3,Nat.pow_zero,lY,lY,Nat.pow_add,Nat.mul_assoc]
  ·have b1:(place - last).toNat=0:=by omega
   rw[b1,Nat.pow_zero,Nat.mul_one]
   by_cases h2:0<=place+c - last
   ·have a2:(last - (place+c)).toNat=0:=by omega
    have a3:c=(place+c - last).toNat+(last - place).toNat:=by omega
    rw[a2,Nat.pow_zero,lY]
    rw(occs:=.pos [1]) [a3]
    rw[Nat.pow_add,<- Nat.mul_assoc,rne_mul _ _ (aQ _)]
   ·have a2:(place+c - last).toNat=0:=by omega
    have a3:(last - place).toNat=(last - (place+c)).toNat+c:=by omega
    rw[a2,Nat.pow_zero,Nat.mul_one,a3,Nat.pow_add,sI _ _ _ hc]
theorem dN(f:Format)(neg:Bool)(m d:Nat):f.nearest neg m (f.leastPlace - d)=f.word neg (min (rung f.fractionBits d m) f.infRung):=by
 unfold Format.nearest
 by_cases hm:m=0
 ·subst hm
  rw[if_pos rfl]
  have:rung f.fractionBits d 0=0:=by
   unfold rung
   simp[rne,Nat.zero_mod,Nat.zero_div]
  rw[this,Nat.zero_min]
 ·rw[if_neg hm]
  have el:max (f.leastPlace - (d:Int)+(m.log2:Nat) - (f.fractionBits:Int)) f.leastPlace=f.leastPlace+((m.log2 - (f.fractionBits+d):Nat):Int):=by
   omega
  simp only[el,jG,shl]
  have a1:(f.leastPlace - (d:Int) - (f.leastPlace+((m.log2 - (f.fractionBits+d):Nat):Int))).toNat=0:=by omega
  have a2:(f.leastPlace+((m.log2 - (f.fractionBits+d):Nat):Int) - (f.leastPlace - (d:Int))).toNat=m.log2 - (f.fractionBits+d)+d:=by omega
  have a3:(f.leastPlace+((m.log2 - (f.fractionBits+d):Nat):Int) - f.leastPlace).toNat=m.log2 - (f.fractionBits+d):=by omega
  rw[a1,a2,a3,Nat.pow_zero,Nat.mul_one]
  rfl
def sg(f:Format)(x:Nat):Bool:=x/f.signWeight%2==1
def rg(f:Format)(x:Nat):Nat:=x%f.signWeight
def sval(f:Format)(x:Nat):Int:=if sg f x then -(mag f.fractionBits (rg f x):Int)else(mag f.fractionBits (rg f x):Int)
theorem bC(f:Format)(x:Nat)(h:rg f x<f.infRung): ∃m a:Nat,f.read x=.number (sg f x) m (f.leastPlace+a)/\m*2 ^ a=mag f.fractionBits (rg f x):=by
 unfold Format.read
 simp only[]
 change rg f x<f.infRung at h
 unfold mag
 by_cases c:rg f x<f.binade
 ·refine⟨rg f x,0,?_,?_⟩
  ·rw[if_pos (show x%f.signWeight<f.binade from c)];simp[sg,rg]
  ·rw[if_pos (show rg f x<2 ^ f.fractionBits from c)];omega
 ·refine⟨f.binade+rg f x%f.binade,rg f x/f.binade - 1,?_,?_⟩
  ·rw[if_neg (show¬x%f.signWeight<f.binade from c),if_pos (show x%f.signWeight<f.infRung from h)];rfl
  ·rw[if_neg (show¬rg f x<2 ^ f.fractionBits from c)];rfl
theorem bD(f:Format)(x:Nat)(he:f.binade<=f.infRung)(h:rg f x=f.infRung):f.read x=.infinity (sg f x):=by
 unfold Format.read
 simp only[]
 unfold rg at h
 rw[if_neg (by omega),if_neg (by omega),if_pos h];rfl
theorem cD(f:Format)(x:Nat)(he:f.binade<=f.infRung)(h:f.infRung<rg f x):f.read x=.nan (sg f x) (rg f x - f.infRung):=by
 unfold Format.read
 simp only[]
 unfold rg at h
 rw[if_neg (by omega),if_neg (by omega),if_neg (by omega)];rfl
def nan(f:Format)(x:Nat):Prop:=f.infRung<rg f x
theorem jJ(f:Format)(x y:Nat)(he:f.binade<=f.infRung)(h:f.infRung<rg f x):f.order x y=none:=by
 unfold Format.order;rw[cD f x he h];rfl
theorem iK(f:Format)(x y:Nat)(he:f.binade<=f.infRung)(h:f.infRung<rg f y):f.order x y=none:=by
 unfold Format.order;rw[cD f y he h];cases f.read x<;>rfl
theorem pT(s:Bool)(m a:Nat)(c:Nat):Ieee.signed s m a*(2 ^ c:Nat)=Ieee.signed s (m*2 ^ a) c:=by
 unfold Ieee.signed
 simp only[shl]
 cases s
 ·simp
 ·simp[Int.neg_mul]
theorem eM(s:Bool)(m a b:Nat)(h:b<=a):Ieee.signed s m (a - b)*((2 ^ b:Nat):Int)=if s then -((m*2 ^ a:Nat):Int)else((m*2 ^ a:Nat):Int):=by
 rw[pT]
 unfold Ieee.signed
 simp only[shl]
 have e:m*2 ^ (a - b)*2 ^ b=m*2 ^ a:=by
  rw[Nat.mul_assoc,<- Nat.pow_add,Nat.sub_add_cancel h]
 rw[e]
theorem nL(a b c:Int)(hc:0<c):compare (a*c) (b*c)=compare a b:=by
 have h1:a*c<b*c ↔ a<b:=Int.mul_lt_mul_right hc
 have h2:b*c<a*c ↔ b<a:=Int.mul_lt_mul_right hc
 have h3:a*c=b*c ↔ a=b:=by omega
 simp only[compare,compareOfLessAndEq,h1,h3]
theorem sL(f:Format)(x y:Nat)(hx:rg f x<f.infRung)(hy:rg f y<f.infRung):f.order x y=some (compare (sval f x) (sval f y)):=by
 obtain⟨m,a,e1,v1⟩:=bC f x hx
 obtain⟨n,b,e2,v2⟩:=bC f y hy
 unfold Format.order
 rw[e1,e2]
 simp only[Datum.order]
 have eb:min (f.leastPlace+(a:Int)) (f.leastPlace+(b:Int))=f.leastPlace+((min a b:Nat):Int):=by omega
 rw[eb]
 have t1:(f.leastPlace+(a:Int) - (f.leastPlace+((min a b:Nat):Int))).toNat=a - min a b:=by omega
 have t2:(f.leastPlace+(b:Int) - (f.leastPlace+((min a b:Nat):Int))).toNat=b - min a b:=by omega
 rw[t1,t2]
 rw[<- nL _ _ ((2 ^ (min a b):Nat):Int) (by exact_mod_cast aQ _)]
 rw[eM _ _ _ _ (Nat.min_le_left a b),eM _ _ _ _ (Nat.min_le_right a b),v1,v2]
 rfl
def rnd(f:Format)(z:Bool)(v:Int):Nat:=f.word (if v=0 then z else decide (v<0)) (min (rung f.fractionBits 0 v.natAbs) f.infRung)
theorem sum_fin(f:Format)(s t:Bool)(m n a b:Nat):
  ((Datum.number s m (f.leastPlace+a)).sum (.number t n (f.leastPlace+b))).map f.write
   =some (rnd f (s&&t) ((if s then -((m*2 ^ a:Nat):Int)else((m*2 ^ a:Nat):Int))+(if t then -((n*2 ^ b:Nat):Int)else((n*2 ^ b:Nat):Int)))):=by
 simp only[Datum.sum,Option.map,Format.write]
 have eb:min (f.leastPlace+(a:Int)) (f.leastPlace+(b:Int))=f.leastPlace+((min a b:Nat):Int):=by omega
 rw[eb]
 have t1:(f.leastPlace+(a:Int) - (f.leastPlace+((min a b:Nat):Int))).toNat=a - min a b:=by omega
 have t2:(f.leastPlace+(b:Int) - (f.leastPlace+((min a b:Nat):Int))).toNat=b - min a b:=by omega
 rw[t1,t2]
 have hv:(Ieee.signed s m (a - min a b)+Ieee.signed t n (b - min a b))*((2 ^ (min a b):Nat):Int)=(if s then -((m*2 ^ a:Nat):Int)else((m*2 ^ a:Nat):Int))+(if t then -((n*2 ^ b:Nat):Int)else((n*2 ^ b:Nat):Int)):=by
  rw[Int.add_mul,eM _ _ _ _ (Nat.min_le_left a b),eM _ _ _ _ (Nat.min_le_right a b)]
 rw[<- hv]
 generalize Ieee.signed s m (a - min a b)+Ieee.signed t n (b - min a b)=total
 generalize min a b=c
 have hc:(0:Int)<((2 ^ c:Nat):Int):=by exact_mod_cast aQ c
 unfold rnd
 have n1:(total*((2 ^ c:Nat):Int)).natAbs=total.natAbs*2 ^ c:=by rw[Int.natAbs_mul,Int.natAbs_natCast]
 have n2:total*((2 ^ c:Nat):Int)=0 ↔ total=0:=by
  rw[Int.mul_eq_zero];omega
 have n3:total*((2 ^ c:Nat):Int)<0 ↔ total<0:=by
  have:total*((2 ^ c:Nat):Int)<0*((2 ^ c:Nat):Int) ↔ total<0:=Int.mul_lt_mul_right hc
  rw[Int.zero_mul]at this;exact this
 rw[n1]
 simp only[n2,n3]
 rw[<- dE]
 have:=dN f (if total=0 then s&&t else decide (total<0)) (total.natAbs*2 ^ c) 0
 rw[show f.leastPlace - ((0:Nat):Int)=f.leastPlace from by omega]at this
 rw[this]
theorem add_fin(f:Format)(x y:Nat)(hx:rg f x<f.infRung)(hy:rg f y<f.infRung):f.add x y=some (rnd f (sg f x&&sg f y) (sval f x+sval f y)):=by
 obtain⟨m,a,e1,v1⟩:=bC f x hx
 obtain⟨n,b,e2,v2⟩:=bC f y hy
 unfold Format.add
 rw[e1,e2,sum_fin,v1,v2]
 rfl
theorem mul_fin(f:Format)(x y d:Nat)(hd:f.leastPlace= -(d:Int))(hx:rg f x<f.infRung)(hy:rg f y<f.infRung):
  f.mul x y=some (f.word (sg f x ^^ sg f y) (min (rung f.fractionBits d (mag f.fractionBits (rg f x)*mag f.fractionBits (rg f y))) f.infRung)):=by
 obtain⟨m,a,e1,v1⟩:=bC f x hx
 obtain⟨n,b,e2,v2⟩:=bC f y hy
 unfold Format.mul
 rw[e1,e2]
 simp only[Datum.product,Option.map,Format.write]
 rw[<- dN,<- v1,<- v2]
 have e:m*2 ^ a*(n*2 ^ b)=m*n*2 ^ (a+b):=by
  rw[Nat.pow_add];simp only[Nat.mul_assoc,Nat.mul_left_comm]
 rw[e,dE]
 congr 2
 omega
end Tf
namespace Tf
open Ieee
theorem d_sw:double.signWeight=9223372036854775808:=by decide
theorem aY:double.infRung=9218868437227405312:=by decide
theorem d_bin:double.binade=4503599627370496:=by decide
theorem cY:double.binade<=double.infRung:=by decide
theorem d_lp:double.leastPlace= -((1074:Nat):Int):=by decide
theorem d_fb:double.fractionBits=52:=rfl
theorem dP(neg:Bool)(r:Nat):double.word neg r=if neg then 9223372036854775808+r else r:=by
 unfold Format.word;rw[d_sw]
def mg(x:Nat):Nat:=x%9223372036854775808
def ng(x:Nat):Bool:=decide (9223372036854775808<=x)
def isN(x:Nat):Bool:=decide (9218868437227405312<mg x)
def rk(x:Nat):Int:=if ng x then -(mg x:Int)else(mg x:Int)
def mv(r:Nat):Nat:=mag 52 r
def sv(x:Nat):Int:=if ng x then -(mv (mg x):Int)else(mv (mg x):Int)
theorem kW(x:Nat):mg x<9223372036854775808:=by unfold mg;omega
theorem bI(x:Nat):rg double x=mg x:=by unfold rg mg;rw[d_sw]
theorem cV(x:Nat)(hx:x<18446744073709551616):sg double x=ng x:=by
 unfold sg ng;rw[d_sw]
 by_cases h:9223372036854775808<=x
 ·have:x/9223372036854775808=1:=by omega
  rw[this];simp[h]
 ·have:x/9223372036854775808=0:=by omega
  rw[this];simp[h]
theorem mB(x:Nat)(hx:x<18446744073709551616):sval double x=sv x:=by
 unfold sval sv mv;rw[bI,cV x hx,d_fb]
theorem bZ{x:Nat}:isN x=false ↔ mg x<=9218868437227405312:=by unfold isN;simp
theorem aW{x:Nat}:isN x=true ↔ 9218868437227405312<mg x:=by unfold isN;simp
theorem eO(x y:Nat):sv x<sv y ↔ rk x<rk y:=by
 unfold sv rk mv
 have a:= @dM 52 (mg x) (mg y)
 have b:= @dM 52 (mg y) (mg x)
 have c:= @dM 52 0 (mg x)
 have d:= @dM 52 0 (mg y)
 rw[eF]at c d
 by_cases h1:ng x=true<;>by_cases h2:ng y=true<;>simp only[h1,h2,if_true]<;>simp<;>omega
theorem gO(a b c d:Int)(h1:a<b ↔ c<d)(h2:b<a ↔ d<c):compare a b=compare c d:=by
 have h3:a=b ↔ c=d:=by omega
 simp only[compare,compareOfLessAndEq,h1,h3]
theorem rD{a b:Int}(h:a<b):compare a b=.lt:=by simp[compare,compareOfLessAndEq,h]
theorem rE{a b:Int}(h:b<a):compare a b=.gt:=by
 have h1: ¬a<b:=by omega
 have h2: ¬a=b:=by omega
 simp[compare,compareOfLessAndEq,h1,h2]
theorem jK(x y:Nat)(hx:x<18446744073709551616)(hy:y<18446744073709551616)(nx:isN x=false)(ny:isN y=false):
  double.order x y=some (compare (rk x) (rk y)):=by
 rw[bZ]at nx ny
 have ex:=bI x
 have ey:=bI y
 have ei:=aY
 by_cases fx:mg x<9218868437227405312
 ·by_cases fy:mg y<9218868437227405312
  ·rw[sL double x y (by omega) (by omega),mB x hx,mB y hy]
   rw[gO _ _ _ _ (eO x y) (eO y x)]
  ·obtain⟨m,a,e1,v1⟩:=bC double x (by omega)
   unfold Format.order
   rw[e1,bD double y cY (by omega),cV y hy]
   have hr:mg y=9218868437227405312:=by omega
   unfold Datum.order rk
   rw[hr]
   cases h:ng y
   ·have:(if ng x=true then -(mg x:Int)else(mg x:Int))<((9218868437227405312:Nat):Int):=by split<;>omega
    simp only[Bool.false_eq_true,if_false];rw[rD this]
   ·have: -((9218868437227405312:Nat):Int)<(if ng x=true then -(mg x:Int)else(mg x:Int)):=by split<;>omega
    simp only[if_true];rw[rE this]
 ·have hr:mg x=9218868437227405312:=by omega
  by_cases fy:mg y<9218868437227405312
  ·obtain⟨m,a,e1,v1⟩:=bC double y (by omega)
   unfold Format.order
   rw[e1,bD double x cY (by omega),cV x hx]
   unfold Datum.order rk
   rw[hr]
   cases h:ng x
   ·have:(if ng y=true then -(mg y:Int)else(mg y:Int))<((9218868437227405312:Nat):Int):=by split<;>omega
    simp only[Bool.false_eq_true,if_false];rw[rE this]
   ·have: -((9218868437227405312:Nat):Int)<(if ng y=true then -(mg y:Int)else(mg y:Int)):=by split<;>omega
    simp only[if_true];rw[rD this]
  ·have hr2:mg y=9218868437227405312:=by omega
   unfold Format.order
   rw[bD double x cY (by omega),bD double y cY (by omega),cV x hx,cV y hy]
   unfold Datum.order rk
   rw[hr,hr2]
   cases ng x<;>cases ng y<;>decide
theorem cQ(x y:Nat)(h:isN x=true\/isN y=true):double.order x y=none:=by
 rw[aW,aW]at h
 have ex:=bI x
 have ey:=bI y
 have ei:=aY
 rcases h with h | h
 ·exact jJ double x y cY (by omega)
 ·exact iK double x y cY (by omega)
def feq(x y:Nat):Bool:=double.order x y==some .eq
def flt(x y:Nat):Bool:=double.order x y==some .lt
def fgt(x y:Nat):Bool:=double.order x y==some .gt
theorem cmp_eq(a b:Int):(some (compare a b)==some Ordering.eq)=decide (a=b):=by
 by_cases h:a=b
 ·subst h;simp[compare,compareOfLessAndEq]
 ·by_cases h':a<b<;>simp[compare,compareOfLessAndEq,h,h']
theorem cmp_lt(a b:Int):(some (compare a b)==some Ordering.lt)=decide (a<b):=by
 by_cases h':a<b
 ·simp[compare,compareOfLessAndEq,h']
 ·by_cases h:a=b<;>simp[compare,compareOfLessAndEq,h,h']
theorem cmp_gt(a b:Int):(some (compare a b)==some Ordering.gt)=decide (b<a):=by
 by_cases h':a<b
 ·have: ¬b<a:=by omega
  simp[compare,compareOfLessAndEq,h',this]
 ·by_cases h:a=b
  ·subst h;simp[compare,compareOfLessAndEq]
  ·have:b<a:=by omega
   simp[compare,compareOfLessAndEq,h,h',this]
theorem mC(x y:Nat)(hx:x<18446744073709551616)(hy:y<18446744073709551616):feq x y=(!isN x&& !isN y&&decide (rk x=rk y)):=by
 unfold feq
 cases nx:isN x
 ·cases ny:isN y
  ·rw[jK x y hx hy nx ny,cmp_eq];simp
  ·rw[cQ x y (.inr ny)];simp
 ·rw[cQ x y (.inl nx)];simp
theorem flt_rk(x y:Nat)(hx:x<18446744073709551616)(hy:y<18446744073709551616):flt x y=(!isN x&& !isN y&&decide (rk x<rk y)):=by
 unfold flt
 cases nx:isN x
 ·cases ny:isN y
  ·rw[jK x y hx hy nx ny,cmp_lt];simp
  ·rw[cQ x y (.inr ny)];simp
 ·rw[cQ x y (.inl nx)];simp
theorem fgt_rk(x y:Nat)(hx:x<18446744073709551616)(hy:y<18446744073709551616):fgt x y=(!isN x&& !isN y&&decide (rk y<rk x)):=by
 unfold fgt
 cases nx:isN x
 ·cases ny:isN y
  ·rw[jK x y hx hy nx ny,cmp_gt];simp
  ·rw[cQ x y (.inr ny)];simp
 ·rw[cQ x y (.inl nx)];simp
end Tf
namespace Tf
open Ieee
def rn(z:Bool)(v:Int):Nat:=
 if(if v=0 then z else decide (v<0))then 9223372036854775808+min (rung 52 0 v.natAbs) 9218868437227405312 else min (rung 52 0 v.natAbs) 9218868437227405312
theorem rnd_d(z:Bool)(v:Int):rnd double z v=rn z v:=by
 unfold rnd rn;rw[dP,aY];rfl
theorem rn_lt(z:Bool)(v:Int):rn z v<18446744073709551616:=by
 unfold rn
 generalize(if v=0 then z else decide (v<0))=c
 cases c<;>simp<;>omega
theorem add_d(x y:Nat)(hx:x<18446744073709551616)(hy:y<18446744073709551616)(fx:mg x<9218868437227405312)(fy:mg y<9218868437227405312):
  double.add x y=some (rn (ng x&&ng y) (sv x+sv y)):=by
 have ei:=aY
 rw[add_fin double x y (by rw[bI];omega) (by rw[bI];omega),rnd_d,cV x hx,cV y hy,mB x hx,mB y hy]
theorem mul_d(x y:Nat)(hx:x<18446744073709551616)(hy:y<18446744073709551616)(fx:mg x<9218868437227405312)(fy:mg y<9218868437227405312):
  double.mul x y=some (if(ng x ^^ ng y)then 9223372036854775808+min (rung 52 1074 (mv (mg x)*mv (mg y))) 9218868437227405312 else min (rung 52 1074 (mv (mg x)*mv (mg y))) 9218868437227405312):=by
 have ei:=aY
 rw[mul_fin double x y 1074 d_lp (by rw[bI];omega) (by rw[bI];omega),cV x hx,cV y hy,bI,bI,dP,aY]
 rfl
theorem mv_zero:mv 0=0:=eF 52
theorem mv_lt{r r':Nat}:mv r<mv r' ↔ r<r':=dM
theorem mv_le{r r':Nat}:mv r<=mv r' ↔ r<=r':=mag_le
theorem rF(r:Nat):rung 52 0 (mv r)=r:=sJ 52 r (by omega)
theorem mD(z:Bool):rn z 0=if z then 9223372036854775808 else 0:=by
 unfold rn
 have:rung 52 0 0=0:=by have:=rF 0;rwa [mv_zero]at this
 simp[this]
theorem fN{x:Nat}(h:x<9223372036854775808):mg x=x:=by unfold mg;omega
theorem fO{x:Nat}(h:9223372036854775808<=x)(h':x<18446744073709551616):mg x=x - 9223372036854775808:=by unfold mg;omega
theorem fP{x:Nat}(h:x<9223372036854775808):ng x=false:=by unfold ng;simp;omega
theorem jL{x:Nat}(h:9223372036854775808<=x):ng x=true:=by unfold ng;simp;omega
theorem dH{x:Nat}(h:ng x=false):x<9223372036854775808:=by unfold ng at h;simp at h;omega
theorem fQ{x:Nat}(h:ng x=true):9223372036854775808<=x:=by unfold ng at h;simp at h;omega
theorem mE(x:Nat)(hx:x<18446744073709551616):x=if ng x then 9223372036854775808+mg x else mg x:=by
 cases h:ng x
 ·have:=dH h;simp[fN this]
 ·have:=fQ h;simp[fO this hx];omega
end Tf
section
open Go.RowKit Tf
theorem iB(x:Nat)(hx:x<18446744073709551616):bits .andNot .u64 (x:Int) 9223372036854775808=((mg x:Nat):Int):=by
 unfold mg
 have h0:(0:Int)<=x:=by omega
 have h1:(x:Int)<18446744073709551616:=by omega
 rw[show((x%9223372036854775808:Nat):Int)=(x:Int)%9223372036854775808 from by omega]
 generalize(x:Int)=z at*
 go_bits2
theorem and_sign(x:Nat)(hx:x<18446744073709551616):(bits .and .u64 (x:Int) 9223372036854775808 != 0)=ng x:=by
 unfold ng
 have h0:(0:Int)<=x:=by omega
 have h1:(x:Int)<18446744073709551616:=by omega
 have e:bits .and .u64 (x:Int) 9223372036854775808=(x:Int) - (x:Int)%9223372036854775808:=by
  generalize(x:Int)=z at*
  go_bits2
 rw[e]
 by_cases h:9223372036854775808<=x
 ·simp only[h,decide_true,bne_iff_ne];omega
 ·simp only[h,decide_false,bne_eq_false_iff_eq];omega
theorem or_sign(x:Nat)(hx:x<9223372036854775808):bits .or .u64 (x:Int) 9223372036854775808=((x+9223372036854775808:Nat):Int):=by
 have h0:(0:Int)<=x:=by omega
 have h1:(x:Int)<9223372036854775808:=by omega
 rw[show((x+9223372036854775808:Nat):Int)=(x:Int)+9223372036854775808 from by omega]
 generalize(x:Int)=z at*
 go_bits2
theorem not_all(x:Nat)(hx:x<18446744073709551616):bits .xor .u64 IntKind.u64.max (x:Int)=((18446744073709551615 - x:Nat):Int):=by
 show IntKind.u64.wrap ((BitVec.ofInt 64 IntKind.u64.max ^^^ BitVec.ofInt 64 (x:Int)).toNat:Int)=_
 have h1:BitVec.ofInt 64 IntKind.u64.max=BitVec.allOnes 64:=by decide
 rw[h1,BitVec.allOnes_xor,BitVec.toNat_not,ofInt_u64 x (by omega)]
 simp[IntKind.wrap,IntKind.bits,IntKind.signed]
 omega
/-! The answers, as functions of the bits. -/
def quiet:Nat:=9221120237041090561
def canonB(x:Nat):Nat:=if isN x then quiet else if mg x=0 then 0 else x
def negB(x:Nat):Nat:=if ng x then x - 9223372036854775808 else x+9223372036854775808
def placeB(x:Nat):Nat:=if ng x then 18446744073709551615 - x else x+9223372036854775808
def orderB(a b:Nat):Int:=if placeB a<placeB b then -1 else if placeB b<placeB a then 1 else 0
def fin(x:Nat):Bool:=decide (mg x<9218868437227405312)
theorem quiet_lt:quiet<18446744073709551616:=by decide
end
section
open Tf
def R(v:Int):Int:=if v<0 then -(min (rung 52 0 v.natAbs) 9218868437227405312:Nat)else(min (rung 52 0 v.natAbs) 9218868437227405312:Nat)
theorem rn_mg(z:Bool)(v:Int):mg (rn z v)=min (rung 52 0 v.natAbs) 9218868437227405312:=by
 unfold rn
 generalize(if v=0 then z else decide (v<0))=c
 cases c
 ·simp only[Bool.false_eq_true,if_false];rw[fN (by omega)]
 ·simp only[if_true];rw[fO (by omega) (by omega)];omega
theorem pU(z:Bool)(v:Int):isN (rn z v)=false:=bZ.2 (by rw[rn_mg];omega)
end
namespace Tf
open Ieee
theorem rep(p m c:Nat)(h:m<=2 ^ (p+1)): ∃r,mag p r=m*2 ^ c:=by
 have hp:=aQ p
 have hp1:2 ^ (p+1)=2*2 ^ p:=by rw[Nat.pow_succ];omega
 by_cases h1:m*2 ^ c<2 ^ p
 ·refine⟨m*2 ^ c,?_⟩
  unfold mag;rw[if_pos h1]
 ·by_cases h2:m=2 ^ (p+1)
  ·refine⟨(c+2)*2 ^ p,?_⟩
   unfold mag
   have: ¬(c+2)*2 ^ p<2 ^ p:=by
    have:1*2 ^ p<=(c+2)*2 ^ p:=Nat.mul_le_mul_right _ (by omega)
    omega
   rw[if_neg this,Nat.mul_mod_left,Nat.mul_div_cancel _ hp,Nat.add_zero,h2,<- Nat.pow_add,<- Nat.pow_add]
   congr 1;omega
  ·have hm0:m≠0:=by intro h0;subst h0;rw[Nat.zero_mul]at h1;omega
   have hl1:=Nat.log2_self_le hm0
   have hl2:m<2 ^ (m.log2+1):=Nat.lt_log2_self
   have hlp:m.log2<=p:=jH (show m<2 ^ (p+1)by omega)
   have hlc:p<=m.log2+c:=by
    by_cases c':p<=m.log2+c
    ·exact c'
    ·exfalso
     have:m*2 ^ c<2 ^ (m.log2+1)*2 ^ c:=(Nat.mul_lt_mul_right (aQ c)).2 hl2
     rw[<- Nat.pow_add]at this
     have h3:2 ^ (m.log2+1+c)<=2 ^ p:=Nat.pow_le_pow_right (by omega) (by omega)
     omega
   obtain⟨k,hk⟩: ∃k,m.log2+c=p+k:=⟨m.log2+c - p,by omega⟩
   have hM1:2 ^ p<=m*2 ^ (p - m.log2):=by
    have:2 ^ p=2 ^ m.log2*2 ^ (p - m.log2):=by rw[<- Nat.pow_add];congr 1;omega
    rw[this];exact Nat.mul_le_mul_right _ hl1
   have hM2:m*2 ^ (p - m.log2)<2*2 ^ p:=by
    have:2*2 ^ p=2 ^ (m.log2+1)*2 ^ (p - m.log2):=by rw[<- hp1,<- Nat.pow_add];congr 1;omega
    rw[this];exact(Nat.mul_lt_mul_right (aQ _)).2 hl2
   have hMk:m*2 ^ (p - m.log2)*2 ^ k=m*2 ^ c:=by
    rw[Nat.mul_assoc,<- Nat.pow_add];congr 2;omega
   generalize m*2 ^ (p - m.log2)=M at*
   refine⟨(M - 2 ^ p)+2 ^ p*(k+1),?_⟩
   unfold mag
   have hge: ¬(M - 2 ^ p)+2 ^ p*(k+1)<2 ^ p:=by
    have:2 ^ p*1<=2 ^ p*(k+1):=Nat.mul_le_mul_left _ (by omega)
    omega
   rw[if_neg hge,Nat.add_mul_mod_self_left,Nat.add_mul_div_left _ _ hp,Nat.mod_eq_of_lt (show M - 2 ^ p<2 ^ p by omega),Nat.div_eq_of_lt (show M - 2 ^ p<2 ^ p by omega)]
   rw[show 2 ^ p+(M - 2 ^ p)=M by omega,show 0+(k+1) - 1=k by omega,hMk]
def cutq(way:Toward)(neg:Bool)(n g:Nat):Nat:=
 n/g+(match way with
  | .even=>decide (g<2*(n%g)\/(g=2*(n%g)/\n/g%2=1))
  | .down=>neg&&decide (n%g≠0)
  | .up=> !neg&&decide (n%g≠0)
  | .zero=>false).toNat
theorem sM(neg:Bool)(n g:Nat):cutq .even neg n g=rne n g:=by
 unfold cutq rne
 by_cases h:g<2*(n%g)\/(g=2*(n%g)/\n/g%2=1)
 ·rw[if_pos h,decide_eq_true h];rfl
 ·rw[if_neg h,decide_eq_false h];rfl
theorem sN(neg:Bool)(n g:Nat):cutq .zero neg n g=n/g:=rfl
theorem cut_gen(way:Toward)(neg:Bool)(n d:Nat):way.cut neg n d=cutq way neg n (2 ^ d):=by
 cases way
 ·rw[jG,sM]
 all_goals
  unfold Toward.cut cutq
  try simp only[Bool.toNat_false,Nat.add_zero]
  simp only[rB]
  by_cases h:d<=n.log2+2
  ·rw[Nat.min_eq_left h]
   try simp[bne,BEq.beq]
  ·rw[Nat.min_eq_right (by omega)]
   have h1:n<2 ^ (n.log2+1):=Nat.lt_log2_self
   have h2:2 ^ (n.log2+2)=2*2 ^ (n.log2+1):=by rw[Nat.pow_succ];omega
   have h3:2 ^ (n.log2+2)<=2 ^ d:=Nat.pow_le_pow_right (by omega) (by omega)
   have q1:n/2 ^ (n.log2+2)=0:=Nat.div_eq_of_lt (by omega)
   have q2:n/2 ^ d=0:=Nat.div_eq_of_lt (by omega)
   have r1:n%2 ^ (n.log2+2)=n:=Nat.mod_eq_of_lt (by omega)
   have r2:n%2 ^ d=n:=Nat.mod_eq_of_lt (by omega)
   rw[q1,q2]
   try rw[r1,r2]
   try simp[bne,BEq.beq]
theorem jM(way:Toward)(neg:Bool)(q g:Nat)(hg:0<g):cutq way neg (q*g) g=q:=by
 unfold cutq
 rw[Nat.mul_mod_left,Nat.mul_div_cancel _ hg]
 have: ¬(g<2*0\/g=2*0/\q%2=1):=by omega
 cases way
 ·rw[decide_eq_false this];rfl
 all_goals simp
theorem pV(way:Toward)(neg:Bool)(n g c:Nat)(hc:0<c):cutq way neg (n*c) (g*c)=cutq way neg n g:=by
 unfold cutq
 rw[Nat.mul_div_mul_right _ _ hc,Nat.mul_mod_mul_right]
 have e1:(g*c<2*(n%g*c)) ↔ g<2*(n%g):=by
  rw[<- Nat.mul_assoc];exact Nat.mul_lt_mul_right hc
 have e2:(g*c=2*(n%g*c)) ↔ g=2*(n%g):=by
  rw[<- Nat.mul_assoc];exact Nat.mul_left_inj (by omega)
 have e3:(n%g*c≠0) ↔ n%g≠0:=by
  rw[Ne,Nat.mul_eq_zero];omega
 simp only[e1,e2,e3]
theorem cutq_le(way:Toward)(neg:Bool)(n g:Nat):cutq way neg n g<=n/g+1:=by
 unfold cutq
 generalize(match way with
  | .even=>decide (g<2*(n%g)\/(g=2*(n%g)/\n/g%2=1))
  | .down=>neg&&decide (n%g≠0)
  | .up=> !neg&&decide (n%g≠0)
  | .zero=>false)=b
 cases b<;>simp
theorem fR(f:Format)(way:Toward)(x d:Nat)(hd:f.leastPlace= -(d:Int))(hx:rg f x<f.infRung):
  (f.read x).integral way=.number (sg f x) (cutq way (sg f x) (mag f.fractionBits (rg f x)) (2 ^ d)) 0:=by
 obtain⟨m,a,e,v⟩:=bC f x hx
 rw[e,<- v]
 simp only[Datum.integral,cut_gen,shl]
 congr 1
 rw[hd]
 by_cases c:d<=a
 ·have h1:(-(d:Int)+(a:Int)).toNat=a - d:=by omega
  have h2:(-(-(d:Int)+(a:Int))).toNat=0:=by omega
  rw[h1,h2]
  have:m*2 ^ a=m*2 ^ (a - d)*2 ^ d:=by rw[Nat.mul_assoc,<- Nat.pow_add];congr 2;omega
  rw[this,jM _ _ _ _ (aQ d),Nat.pow_zero]
  have:=jM way (sg f x) (m*2 ^ (a - d)) 1 (by omega)
  rwa [Nat.mul_one]at this
 ·have h1:(-(d:Int)+(a:Int)).toNat=0:=by omega
  have h2:(-(-(d:Int)+(a:Int))).toNat=d - a:=by omega
  rw[h1,h2,Nat.pow_zero,Nat.mul_one]
  have:2 ^ d=2 ^ (d - a)*2 ^ a:=by rw[<- Nat.pow_add];congr 1;omega
  rw[this,pV _ _ _ _ _ (aQ a)]
theorem jN(f:Format)(neg:Bool)(q d:Nat)(place:Int)(hp:place=f.leastPlace+d):f.nearest neg q place=f.word neg (min (rung f.fractionBits 0 (q*2 ^ d)) f.infRung):=by
 have:=dN f neg (q*2 ^ d) 0
 rw[show f.leastPlace - ((0:Nat):Int)=f.leastPlace from by omega,dE]at this
 rw[hp,this]
def one:Nat:=mv 4607182418800017408
theorem mv_exp(e f:Nat)(h:f<2 ^ 52):mv ((e+1)*2 ^ 52+f)=(2 ^ 52+f)*2 ^ e:=by
 have hp:=aQ 52
 unfold mv mag
 rw[if_neg (by omega),Nat.add_comm ((e+1)*2 ^ 52) f,Nat.add_mul_mod_self_right,Nat.add_mul_div_right _ _ hp,Nat.mod_eq_of_lt h,Nat.div_eq_of_lt h]
 congr 2;omega
theorem jO(e r:Nat)(h:r=(e+1)*2 ^ 52):mv r=2 ^ (52+e):=by
 have:=mv_exp e 0 (aQ 52)
 simp only[Nat.add_zero]at this
 rwa [<- h,<- Nat.pow_add]at this
def K:Nat:=1074
theorem K_eq:K=1074:=rfl
theorem lp_K:double.leastPlace= -(K:Int):=by rw[K_eq];decide
theorem dQ:one=2 ^ K:=by
 have h:=jO (K - 52) 4607182418800017408 (by rw[K_eq])
 have e:52+(K - 52)=K:=by rw[K_eq]
 rw[e]at h;exact h
theorem one_pos:0<one:=by rw[dQ];exact aQ _
theorem eG(k r:Nat)(h:r=(k+1023)*2 ^ 52):mv r=2 ^ k*one:=by
 have hK:=K_eq
 have e:52+(k+(K - 52))=k+K:=by omega
 have e2:k+1023=k+(K - 52)+1:=by omega
 rw[e2]at h
 have:=jO (k+(K - 52)) r h
 rw[this,e,Nat.pow_add,dQ]
theorem nM(r:Nat)(h:4841369599423283200<=r): ∃q,mv r=q*one:=by
 have hK:=K_eq
 refine⟨(2 ^ 52+r%2 ^ 52)*2 ^ (r/2 ^ 52 - (K+1)),?_⟩
 unfold mv mag
 have h1: ¬r<2 ^ 52:=by omega
 have h2:1075<=r/2 ^ 52:=(Nat.le_div_iff_mul_le (aQ 52)).2 (by omega)
 rw[if_neg h1,dQ,Nat.mul_assoc,<- Nat.pow_add]
 congr 2;omega
theorem rep_one(q:Nat)(h:q<=9007199254740992): ∃r,mv r=q*one/\r<=4845873199050653696:=by
 obtain⟨r,hr⟩:=rep 52 q K (by omega)
 rw[<- dQ]at hr
 refine⟨r,hr,?_⟩
 have e:mv 4845873199050653696=2 ^ 53*one:=eG 53 _ (by decide)
 have:mv r<=mv 4845873199050653696:=by
  show mag 52 r<=_
  rw[hr,e];exact Nat.mul_le_mul_right _ (by omega)
 exact mv_le.1 this
theorem pW(way:Toward)(x:Nat)(hx:x<18446744073709551616)(fx:mg x<9218868437227405312):
  ∃r,r<9218868437227405312/\mv r=cutq way (ng x) (mv (mg x)) one*one/\double.write ((double.read x).integral way)=if ng x then 9223372036854775808+r else r:=by
 have ei:=aY
 have h1: ∃r,r<9218868437227405312/\mv r=cutq way (ng x) (mv (mg x)) one*one:=by
  by_cases c:4841369599423283200<=mg x
  ·obtain⟨q,hq⟩:=nM (mg x) c
   refine⟨mg x,fx,?_⟩
   rw[hq,jM _ _ _ _ one_pos]
  ·have e:mv 4841369599423283200=2 ^ 52*one:=eG 52 _ (by decide)
   have hl:mv (mg x)<2 ^ 52*one:=by rw[<- e];exact mv_lt.2 (by omega)
   have hq:mv (mg x)/one<2 ^ 52:=(Nat.div_lt_iff_lt_mul one_pos).2 hl
   have hc:=cutq_le way (ng x) (mv (mg x)) one
   obtain⟨r,e',hr⟩:=rep_one (cutq way (ng x) (mv (mg x)) one) (by omega)
   exact⟨r,by omega,e'⟩
 obtain⟨r,hr,e⟩:=h1
 refine⟨r,hr,e,?_⟩
 rw[fR double way x K lp_K (by rw[bI];omega),cV x hx,bI]
 simp only[Format.write]
 rw[jN double _ _ K 0 (by rw[lp_K];omega),<- dQ,aY,dP,d_fb]
 have:cutq way (ng x) (mag 52 (mg x)) one*one=mv r:=e.symm
 rw[this,rF,Nat.min_eq_left (by omega)]
theorem toInt_d(x:Nat)(hx:x<18446744073709551616)(fx:mg x<9218868437227405312):
  (double.read x).toInt .zero=some (if ng x then -((mv (mg x)/one:Nat):Int)else((mv (mg x)/one:Nat):Int)):=by
 have ei:=aY
 unfold Datum.toInt
 rw[fR double .zero x K lp_K (by rw[bI];omega),cV x hx,bI,d_fb,sN,<- dQ]
 simp only[Ieee.signed,shl,Nat.pow_zero,Nat.mul_one]
 rfl
theorem ofInt_d(n:Int):double.write (.number (n<0) n.natAbs 0)=rn false (n*one):=by
 simp only[Format.write]
 rw[jN double _ _ K 0 (by rw[lp_K];omega),<- dQ,aY,dP,d_fb]
 unfold rn
 have h1:(n*(one:Int)).natAbs=n.natAbs*one:=by rw[Int.natAbs_mul,Int.natAbs_natCast]
 have hp:(0:Int)<one:=by exact_mod_cast one_pos
 have h2:(if n*(one:Int)=0 then false else decide (n*(one:Int)<0))=decide (n<0):=by
  by_cases c:n=0
  ·subst c;simp
  ·have c': ¬n*(one:Int)=0:=by rw[Int.mul_eq_zero];omega
   rw[if_neg c']
   have:n*(one:Int)<0 ↔ n<0:=by
    have:n*(one:Int)<0*(one:Int) ↔ n<0:=Int.mul_lt_mul_right hp
    rwa [Int.zero_mul]at this
   exact decide_eq_decide.2 this
 rw[h1,h2]
end Tf
section
open Tf
def infW(s:Bool):Nat:=if s then 18442240474082181120 else 9218868437227405312
theorem mF(s:Bool):infW s<18446744073709551616:=by cases s<;>decide
theorem infW_mg(s:Bool):mg (infW s)=9218868437227405312:=by cases s<;>decide
theorem pX(s:Bool):canonB (infW s)=infW s:=by cases s<;>decide
section ops
open Ieee
theorem gP(s:Bool):double.write (.infinity s)=infW s:=by cases s<;>decide
theorem bV(x y:Nat)(h:isN x=true\/isN y=true):double.add x y=none:=by
 rw[aW,aW]at h
 have ei:=aY
 unfold Format.add
 rcases h with h | h
 ·rw[cD double x cY (by rw[bI];omega)];rfl
 ·rw[cD double y cY (by rw[bI];omega)];cases double.read x<;>rfl
theorem fS(x y:Nat)(h:isN x=true\/isN y=true):double.mul x y=none:=by
 rw[aW,aW]at h
 have ei:=aY
 unfold Format.mul
 rcases h with h | h
 ·rw[cD double x cY (by rw[bI];omega)];rfl
 ·rw[cD double y cY (by rw[bI];omega)];cases double.read x<;>rfl
theorem add_if(x y:Nat)(hx:x<18446744073709551616)(fx:mg x=9218868437227405312)(fy:mg y<9218868437227405312):double.add x y=some (infW (ng x)):=by
 have ei:=aY
 obtain⟨m,a,e,_⟩:=bC double y (by rw[bI];omega)
 unfold Format.add
 rw[bD double x cY (by rw[bI];omega),e,cV x hx]
 simp only[Datum.sum,Option.map,gP]
theorem add_fi(x y:Nat)(hy:y<18446744073709551616)(fx:mg x<9218868437227405312)(fy:mg y=9218868437227405312):double.add x y=some (infW (ng y)):=by
 have ei:=aY
 obtain⟨m,a,e,_⟩:=bC double x (by rw[bI];omega)
 unfold Format.add
 rw[bD double y cY (by rw[bI];omega),e,cV y hy]
 simp only[Datum.sum,Option.map,gP]
theorem add_ii(x y:Nat)(hx:x<18446744073709551616)(hy:y<18446744073709551616)(fx:mg x=9218868437227405312)(fy:mg y=9218868437227405312):
  double.add x y=if ng x=ng y then some (infW (ng x))else none:=by
 have ei:=aY
 unfold Format.add
 rw[bD double x cY (by rw[bI];omega),bD double y cY (by rw[bI];omega),cV x hx,cV y hy]
 simp only[Datum.sum]
 by_cases c:ng x=ng y
 ·rw[if_pos c,if_pos c];simp only[Option.map,gP]
 ·rw[if_neg c,if_neg c];rfl
theorem nN(x:Nat)(fx:mg x<9218868437227405312): ∃m a,double.read x=.number (sg double x) m a/\(m=0 ↔ mg x=0):=by
 have ei:=aY
 obtain⟨m,a,e,v⟩:=bC double x (by rw[bI];omega)
 refine⟨m,_,e,?_⟩
 rw[bI]at v
 have hp:=aQ a
 constructor
 ·intro h
  subst h
  rw[Nat.zero_mul]at v
  have:mag 52 (mg x)=mag 52 0:=by rw[eF];exact v.symm
  exact mag_inj.1 this
 ·intro h
  have hv:m*2 ^ a=0:=by
   rw[v,h];exact eF _
  rcases Nat.mul_eq_zero.1 hv with h1 | h1
  ·exact h1
  ·omega
theorem mul_if(x y:Nat)(hx:x<18446744073709551616)(hy:y<18446744073709551616)(fx:mg x=9218868437227405312)(fy:mg y<9218868437227405312):
  double.mul x y=if mg y=0 then none else some (infW (ng x ^^ ng y)):=by
 have ei:=aY
 obtain⟨m,a,e,hz⟩:=nN y fy
 unfold Format.mul
 rw[bD double x cY (by rw[bI];omega),e,cV x hx,cV y hy]
 simp only[Datum.product]
 by_cases c:mg y=0
 ·rw[if_pos c,if_pos (hz.2 c)];rfl
 ·rw[if_neg c,if_neg (fun h=>c (hz.1 h))];simp only[Option.map,gP]
theorem mul_fi(x y:Nat)(hx:x<18446744073709551616)(hy:y<18446744073709551616)(fx:mg x<9218868437227405312)(fy:mg y=9218868437227405312):
  double.mul x y=if mg x=0 then none else some (infW (ng x ^^ ng y)):=by
 have ei:=aY
 obtain⟨m,a,e,hz⟩:=nN x fx
 unfold Format.mul
 rw[bD double y cY (by rw[bI];omega),e,cV x hx,cV y hy]
 simp only[Datum.product]
 by_cases c:mg x=0
 ·rw[if_pos c,if_pos (hz.2 c)];rfl
 ·rw[if_neg c,if_neg (fun h=>c (hz.1 h))]
  simp only[Option.map,gP]
  cases ng x<;>cases ng y<;>rfl
theorem mul_ii(x y:Nat)(hx:x<18446744073709551616)(hy:y<18446744073709551616)(fx:mg x=9218868437227405312)(fy:mg y=9218868437227405312):
  double.mul x y=some (infW (ng x ^^ ng y)):=by
 have ei:=aY
 unfold Format.mul
 rw[bD double x cY (by rw[bI];omega),bD double y cY (by rw[bI];omega),cV x hx,cV y hy]
 simp only[Datum.product,Option.map,gP]
end ops
theorem rn_ne(z z':Bool)(v:Int)(h:v≠0):rn z v=rn z' v:=by
 unfold rn;rw[if_neg h,if_neg h]
theorem nP(z:Bool)(v:Int):canonB (rn z v)=rn false v:=by
 unfold canonB
 rw[pU,if_neg (by decide)]
 by_cases c:v=0
 ·subst c
  have:mg (rn z 0)=0:=by rw[mD];cases z<;>decide
  rw[if_pos this,mD];rfl
 ·have hm:mg (rn z v)≠0:=by
   rw[rn_mg]
   have h1:1<=rung 52 0 v.natAbs:=by
    have e1:mag 52 1=1:=by decide
    exact rung_ge (by omega) (by rw[Nat.pow_zero,Nat.mul_one,e1];omega)
   generalize rung 52 0 v.natAbs=r at*
   omega
  rw[if_neg hm]
  exact rn_ne z false v c
theorem rn_negv(v:Int):canonB (negB (rn false v))=rn false (-v):=by
 by_cases c:v=0
 ·subst c;rw[Int.neg_zero,mD];decide
 ·have e:negB (rn false v)=rn false (-v):=by
   unfold rn negB
   rw[if_neg c,if_neg (show¬ -v=0 by omega),Int.natAbs_neg]
   have hl:min (rung 52 0 v.natAbs) 9218868437227405312<9223372036854775808:=by
    generalize rung 52 0 v.natAbs=r
    omega
   generalize min (rung 52 0 v.natAbs) 9218868437227405312=r at*
   by_cases c2:v<0
   ·have d2:decide (-v<0)=false:=decide_eq_false (by omega)
    rw[decide_eq_true c2,d2]
    simp only[if_true,Bool.false_eq_true,if_false]
    rw[jL (by omega),if_pos rfl];omega
   ·have d2:decide (-v<0)=true:=decide_eq_true (by omega)
    rw[decide_eq_false c2,d2]
    simp only[if_true,Bool.false_eq_true,if_false]
    rw[fP (by omega),if_neg (by decide)];omega
  rw[e,nP]
def addB(a b:Nat):Nat:=match Ieee.double.add a b with | some r=>canonB r | none=>quiet
theorem gQ{a b r:Nat}(h:Ieee.double.add a b=some r):addB a b=canonB r:=by unfold addB;rw[h]
theorem cS{a b:Nat}(h:Ieee.double.add a b=none):addB a b=quiet:=by unfold addB;rw[h]
theorem addB_fin(a b:Nat)(ha:a<18446744073709551616)(hb:b<18446744073709551616)(fa:mg a<9218868437227405312)(fb:mg b<9218868437227405312):addB a b=rn false (sv a+sv b):=by
 rw[gQ (add_d a b ha hb fa fb),nP]
theorem three(x:Nat):mg x<9218868437227405312\/mg x=9218868437227405312\/isN x=true:=by
 rw[aW];omega
theorem kX(a b:Nat)(ha:a<18446744073709551616)(hb:b<18446744073709551616):
  (mg a<9218868437227405312/\mg b<9218868437227405312)\/Ieee.double.add a b=none\/ ∃s,Ieee.double.add a b=some (infW s):=by
 rcases three a with h1 | h1 | h1
 ·rcases three b with h2 | h2 | h2
  ·exact .inl ⟨h1,h2⟩
  ·exact .inr (.inr ⟨_,add_fi a b hb h1 h2⟩)
  ·exact .inr (.inl (bV a b (.inr h2)))
 ·rcases three b with h2 | h2 | h2
  ·exact .inr (.inr ⟨_,add_if a b ha h1 h2⟩)
  ·rw[add_ii a b ha hb h1 h2]
   by_cases c:ng a=ng b
   ·rw[if_pos c];exact .inr (.inr ⟨_,rfl⟩)
   ·rw[if_neg c];exact .inr (.inl rfl)
  ·exact .inr (.inl (bV a b (.inr h2)))
 ·exact .inr (.inl (bV a b (.inl h1)))
theorem sO(a b:Nat)(ha:a<18446744073709551616)(hb:b<18446744073709551616):
  (mg a<9218868437227405312/\mg b<9218868437227405312)\/Ieee.double.mul a b=none\/ ∃s,Ieee.double.mul a b=some (infW s):=by
 rcases three a with h1 | h1 | h1
 ·rcases three b with h2 | h2 | h2
  ·exact .inl ⟨h1,h2⟩
  ·rw[mul_fi a b ha hb h1 h2]
   by_cases c:mg a=0
   ·rw[if_pos c];exact .inr (.inl rfl)
   ·rw[if_neg c];exact .inr (.inr ⟨_,rfl⟩)
  ·exact .inr (.inl (fS a b (.inr h2)))
 ·rcases three b with h2 | h2 | h2
  ·rw[mul_if a b ha hb h1 h2]
   by_cases c:mg b=0
   ·rw[if_pos c];exact .inr (.inl rfl)
   ·rw[if_neg c];exact .inr (.inr ⟨_,rfl⟩)
  ·exact .inr (.inr ⟨_,mul_ii a b ha hb h1 h2⟩)
  ·exact .inr (.inl (fS a b (.inr h2)))
 ·exact .inr (.inl (fS a b (.inl h1)))
theorem addB_lt(a b:Nat)(ha:a<18446744073709551616)(hb:b<18446744073709551616):addB a b<18446744073709551616:=by
 rcases kX a b ha hb with⟨h1,h2⟩ | h | ⟨s,h⟩
 ·rw[addB_fin a b ha hb h1 h2];exact rn_lt _ _
 ·rw[cS h];decide
 ·rw[gQ h,pX];exact mF s
end
section
open Tf
def qB(x:Nat):Nat:=if isN x=true then quiet else x
def plB(a b:Nat):Nat:=match Ieee.double.add a b with | some r=>r | none=>quiet
theorem plB_some{a b r:Nat}(h:Ieee.double.add a b=some r):plB a b=r:=by unfold plB;rw[h]
theorem nQ{a b:Nat}(h:Ieee.double.add a b=none):plB a b=quiet:=by unfold plB;rw[h]
theorem fT:isN quiet=true:=by decide
theorem cK{x:Nat}(h:isN x=false):qB x=x:=by unfold qB;rw[h];rfl
theorem qB_N{x:Nat}(h:isN x=true):qB x=quiet:=by unfold qB;rw[h];rfl
theorem qB_lt{x:Nat}(h:x<18446744073709551616):qB x<18446744073709551616:=by
 unfold qB;split
 ·exact quiet_lt
 ·exact h
theorem cH(x:Nat):isN (qB x)=isN x:=by
 cases h:isN x
 ·rw[cK h,h]
 ·rw[qB_N h,fT]
theorem qB_qB(x:Nat):qB (qB x)=qB x:=by
 cases h:isN x
 ·rw[cK h,cK h]
 ·rw[qB_N h];decide
theorem gR{a b r:Nat}(ha:a<18446744073709551616)(hb:b<18446744073709551616)(h:Ieee.double.add a b=some r):r<18446744073709551616/\isN r=false:=by
 rcases kX a b ha hb with⟨h1,h2⟩ | h' | ⟨s,h'⟩
 ·rw[add_d a b ha hb h1 h2]at h;obtain rfl:=Option.some.inj h;exact⟨rn_lt _ _,pU _ _⟩
 ·rw[h']at h;cases h
 ·rw[h']at h;obtain rfl:=Option.some.inj h;exact⟨mF s,by cases s<;>decide⟩
theorem add_ql(a b:Nat):Ieee.double.add (qB a) b=Ieee.double.add a b:=by
 cases h:isN a
 ·rw[cK h]
 ·rw[qB_N h,bV a b (.inl h),bV quiet b (.inl fT)]
theorem add_qr(a b:Nat):Ieee.double.add a (qB b)=Ieee.double.add a b:=by
 cases h:isN b
 ·rw[cK h]
 ·rw[qB_N h,bV a b (.inr h),bV a quiet (.inr fT)]
theorem pY(a b:Nat):plB (qB a) b=plB a b:=by unfold plB;rw[add_ql]
theorem pZ(a b:Nat):plB a (qB b)=plB a b:=by unfold plB;rw[add_qr]
def IsQ(s q:Nat):Prop:=s<18446744073709551616/\qB s=q
theorem IsQ.self{x:Nat}(h:x<18446744073709551616):IsQ x (qB x):=⟨h,rfl⟩
theorem IsQ.lt{s q:Nat}(h:IsQ s q):q<18446744073709551616:=by rw[<- h.2];exact qB_lt h.1
theorem IsQ.add{s q x y r:Nat}(h:IsQ s q)(k:IsQ x y)(e:Ieee.double.add s x=some r):IsQ r (plB q y):=by
 refine⟨(gR h.1 k.1 e).1,?_⟩
 rw[<- h.2,<- k.2,pY,pZ,plB_some e,cK (gR h.1 k.1 e).2]
theorem IsQ.nan{s q x y n:Nat}(h:IsQ s q)(k:IsQ x y)(e:Ieee.double.add s x=none)(n1:n<18446744073709551616)(n2:isN n=true):IsQ n (plB q y):=by
 refine⟨n1,?_⟩
 rw[<- h.2,<- k.2,pY,pZ,nQ e,qB_N n2]
def lfF(xs:Nat->Nat):Nat->Nat
 | 0=>qB (xs 0)
 | k+1=>plB (lfF xs k) (xs (k+1))
def leftB(xs:Nat->Nat)(n:Nat):Nat:=if n=0 then 0 else lfF xs (n - 1)
def key(x:Nat):Nat:=2*mg x+(if ng x then 0 else 1)
def loB(a b:Nat):Nat:=if key b<key a then b else a
def hiB(a b:Nat):Nat:=if key b<key a then a else b
def thB(a b c:Nat):Nat:=plB (plB (loB (loB a b) (loB (hiB a b) c)) (hiB (loB a b) (loB (hiB a b) c))) (hiB (hiB a b) c)
end
section
open Tf Ieee
theorem th_perm(a b c:Nat): ∃u v z,thB a b c=plB (plB u v) z/\((u=a/\v=b/\z=c)\/(u=a/\v=c/\z=b)\/(u=b/\v=a/\z=c)\/(u=b/\v=c/\z=a)\/(u=c/\v=a/\z=b)\/(u=c/\v=b/\z=a)):=by
 unfold thB
 by_cases k1:key b<key a
 ·have lk1:loB a b=b:=by unfold loB;rw[if_pos k1]
  have gk1:hiB a b=a:=by unfold hiB;rw[if_pos k1]
  rw[lk1,gk1]
  by_cases k2:key c<key a
  ·have lk2:loB a c=c:=by unfold loB;rw[if_pos k2]
   have gk2:hiB a c=a:=by unfold hiB;rw[if_pos k2]
   rw[lk2,gk2]
   by_cases k3:key c<key b
   ·have lk3:loB b c=c:=by unfold loB;rw[if_pos k3]
    have gk3:hiB b c=b:=by unfold hiB;rw[if_pos k3]
    rw[lk3,gk3]
    exact⟨_,_,_,rfl,by simp⟩
   ·have lk3:loB b c=b:=by unfold loB;rw[if_neg k3]
    have gk3:hiB b c=c:=by unfold hiB;rw[if_neg k3]
    rw[lk3,gk3]
    exact⟨_,_,_,rfl,by simp⟩
  ·have lk2:loB a c=a:=by unfold loB;rw[if_neg k2]
   have gk2:hiB a c=c:=by unfold hiB;rw[if_neg k2]
   rw[lk2,gk2]
   by_cases k3:key a<key b
   ·have lk3:loB b a=a:=by unfold loB;rw[if_pos k3]
    have gk3:hiB b a=b:=by unfold hiB;rw[if_pos k3]
    rw[lk3,gk3]
    exact⟨_,_,_,rfl,by simp⟩
   ·have lk3:loB b a=b:=by unfold loB;rw[if_neg k3]
    have gk3:hiB b a=a:=by unfold hiB;rw[if_neg k3]
    rw[lk3,gk3]
    exact⟨_,_,_,rfl,by simp⟩
 ·have lk1:loB a b=a:=by unfold loB;rw[if_neg k1]
  have gk1:hiB a b=b:=by unfold hiB;rw[if_neg k1]
  rw[lk1,gk1]
  by_cases k2:key c<key b
  ·have lk2:loB b c=c:=by unfold loB;rw[if_pos k2]
   have gk2:hiB b c=b:=by unfold hiB;rw[if_pos k2]
   rw[lk2,gk2]
   by_cases k3:key c<key a
   ·have lk3:loB a c=c:=by unfold loB;rw[if_pos k3]
    have gk3:hiB a c=a:=by unfold hiB;rw[if_pos k3]
    rw[lk3,gk3]
    exact⟨_,_,_,rfl,by simp⟩
   ·have lk3:loB a c=a:=by unfold loB;rw[if_neg k3]
    have gk3:hiB a c=c:=by unfold hiB;rw[if_neg k3]
    rw[lk3,gk3]
    exact⟨_,_,_,rfl,by simp⟩
  ·have lk2:loB b c=b:=by unfold loB;rw[if_neg k2]
   have gk2:hiB b c=c:=by unfold hiB;rw[if_neg k2]
   rw[lk2,gk2]
   by_cases k3:key b<key a
   ·have lk3:loB a b=b:=by unfold loB;rw[if_pos k3]
    have gk3:hiB a b=a:=by unfold hiB;rw[if_pos k3]
    rw[lk3,gk3]
    exact⟨_,_,_,rfl,by simp⟩
   ·have lk3:loB a b=a:=by unfold loB;rw[if_neg k3]
    have gk3:hiB a b=b:=by unfold hiB;rw[if_neg k3]
    rw[lk3,gk3]
    exact⟨_,_,_,rfl,by simp⟩
theorem dI{x:Nat}(hx:x<18446744073709551616):negB x<18446744073709551616:=by
 unfold negB
 cases h:ng x
 ·have:=dH h;simp;omega
 ·simp;omega
theorem iP{x:Nat}(hx:x<18446744073709551616):mg (negB x)=mg x:=by
 unfold negB
 cases h:ng x
 ·have:=dH h;simp[mg]
 ·have:=fQ h;simp[mg];omega
theorem fU{x:Nat}(hx:x<18446744073709551616):isN (negB x)=isN x:=by unfold isN;rw[iP hx]
theorem nR(x:Nat)(hx:x<18446744073709551616):double.read (negB x)=(double.read x).opposite:=by
 have h1:negB x%9223372036854775808=x%9223372036854775808:=iP hx
 have h2:(negB x/9223372036854775808%2==1)= !(x/9223372036854775808%2==1):=by
  unfold negB
  cases k:ng x
  ·have:=dH k
   rw[show x/9223372036854775808=0 by omega]
   simp only[Bool.false_eq_true,if_false]
   rw[show(x+9223372036854775808)/9223372036854775808=1 by omega]
   rfl
  ·have:=fQ k
   rw[show x/9223372036854775808=1 by omega]
   simp only[if_true]
   rw[show(x - 9223372036854775808)/9223372036854775808=0 by omega]
   rfl
 unfold Format.read
 simp only[d_sw]
 rw[h1,h2]
 generalize x%9223372036854775808=r
 generalize(x/9223372036854775808%2==1)=s
 by_cases a:r<double.binade
 ·rw[if_pos a,if_pos a];rfl
 ·rw[if_neg a,if_neg a]
  by_cases b:r<double.infRung
  ·rw[if_pos b,if_pos b];rfl
  ·rw[if_neg b,if_neg b]
   by_cases c:r=double.infRung
   ·rw[if_pos c,if_pos c];rfl
   ·rw[if_neg c,if_neg c];rfl
theorem sub_add(a b:Nat)(hb:b<18446744073709551616):double.sub a b=double.add a (negB b):=by
 unfold Format.sub Format.add;rw[nR b hb]
theorem mul_comm(a b:Nat):double.mul a b=double.mul b a:=by
 unfold Format.mul
 cases double.read a<;>cases double.read b<;>simp[Datum.product,Bool.xor_comm,Nat.mul_comm,Int.add_comm]
def sbB(a b:Nat):Nat:=addB a (negB b)
theorem aV{a b:Nat}(ha:a<18446744073709551616)(hb:b<18446744073709551616):sbB a b<18446744073709551616:=addB_lt a _ ha (dI hb)
def mlB(a b:Nat):Nat:=match Ieee.double.mul a b with | some r=>r | none=>quiet
theorem nS{a b r:Nat}(h:Ieee.double.mul a b=some r):mlB a b=r:=by unfold mlB;rw[h]
theorem nT{a b:Nat}(h:Ieee.double.mul a b=none):mlB a b=quiet:=by unfold mlB;rw[h]
theorem jP{a b r:Nat}(h:Ieee.double.mul a b=some r)(ha:a<18446744073709551616)(hb:b<18446744073709551616):r<18446744073709551616/\isN r=false:=by
 rcases sO a b ha hb with⟨h1,h2⟩ | h' | ⟨s,h'⟩
 ·have e:=mul_d a b ha hb h1 h2
  rw[h]at e
  injection e with e
  generalize rung 52 1074 (mv (mg a)*mv (mg b))=q at e
  have hm:min q 9218868437227405312<=9218868437227405312:=Nat.min_le_right _ _
  generalize min q 9218868437227405312=z at e hm
  rw[bZ]
  subst e
  cases(ng a ^^ ng b)
  ·simp only[Bool.false_eq_true,if_false];exact⟨by omega,by unfold mg;omega⟩
  ·simp only[if_true];exact⟨by omega,by unfold mg;omega⟩
 ·rw[h]at h';cases h'
 ·rw[h]at h'
  injection h' with h'
  subst h'
  exact⟨mF s,by rw[bZ,infW_mg];omega⟩
theorem gS{a b:Nat}(ha:a<18446744073709551616)(hb:b<18446744073709551616):mlB a b<18446744073709551616:=by
 cases h:Ieee.double.mul a b with
 | none=>rw[nT h];decide
 | some r=>rw[nS h];exact(jP h ha hb).1
def sqB(x:Nat):Nat:=mlB x x
theorem fV{a b:Nat}(h:isN a=true\/isN b=true):plB a b=quiet:=nQ (bV a b h)
theorem eP{a b c:Nat}(h:isN a=true\/isN b=true\/isN c=true):thB a b c=quiet:=by
 obtain⟨u,v,z,e,hp⟩:=th_perm a b c
 rw[e]
 have hn:isN u=true\/isN v=true\/isN z=true:=by
  rcases hp with⟨rfl,rfl,rfl⟩ | ⟨rfl,rfl,rfl⟩ | ⟨rfl,rfl,rfl⟩ | ⟨rfl,rfl,rfl⟩ | ⟨rfl,rfl,rfl⟩ | ⟨rfl,rfl,rfl⟩<;>rcases h with h | h | h<;>simp[h]
 rcases hn with k | k | k
 ·rw[fV (.inl k)];exact fV (.inl fT)
 ·rw[fV (.inr k)];exact fV (.inl fT)
 ·exact fV (.inr k)
theorem thB_q(a b c:Nat):thB a b c=thB (qB a) (qB b) (qB c):=by
 cases h1:isN a
 ·cases h2:isN b
  ·cases h3:isN c
   ·rw[cK h1,cK h2,cK h3]
   ·rw[eP (.inr (.inr h3)),eP (.inr (.inr (by rw[cH];exact h3)))]
  ·rw[eP (.inr (.inl h2)),eP (.inr (.inl (by rw[cH];exact h2)))]
 ·rw[eP (.inl h1),eP (.inl (by rw[cH];exact h1))]
def rtB(x:Nat):Nat:=match Ieee.double.sqrt x with | some r=>canonB r | none=>quiet
def dvB(a b:Nat):Nat:=match Ieee.double.div a b with | some r=>canonB r | none=>quiet
theorem nU{x r:Nat}(h:Ieee.double.sqrt x=some r):rtB x=canonB r:=by unfold rtB;rw[h]
theorem nV{x:Nat}(h:Ieee.double.sqrt x=none):rtB x=quiet:=by unfold rtB;rw[h]
theorem fW{a b r:Nat}(h:Ieee.double.div a b=some r):dvB a b=canonB r:=by unfold dvB;rw[h]
theorem jQ{a b:Nat}(h:Ieee.double.div a b=none):dvB a b=quiet:=by unfold dvB;rw[h]
theorem jR{x:Nat}(hx:x<18446744073709551616):canonB x<18446744073709551616:=by
 unfold canonB;split
 ·decide
 ·split
  ·decide
  ·exact hx
def lnB(x y z:Nat):Nat:=rtB (thB (sqB x) (sqB y) (sqB z))
end
section
open Tf Ieee
def sgn(x:Nat):Bool:=x/9223372036854775808%2==1
theorem sP{x:Nat}(h:mg x=0):double.read x=.number (sgn x) 0 double.leastPlace:=by
 unfold Format.read
 simp only[d_sw,d_bin,aY]
 have hmg:x%9223372036854775808=mg x:=rfl
 rw[hmg,if_pos (by omega),h]
 rfl
end
section
open Go.RowKit Tf
theorem aF(b:Nat)(w:World):(callFunc 19 #[.float .f64 b]).run prog w=.ok (.value (.int .u64 b)) w:=by
 rw[run_callFunc_extern (e:=Extern.MathFloatBits.float64bits) func19 (by kernel_rfl) (by kernel_rfl) (by kernel_rfl) (by kernel_rfl)]
 rfl
theorem aG(n:Int)(w:World):(callFunc 56 #[.int .u64 n]).run prog w=.ok (.value (.float .f64 n.toNat)) w:=by
 rw[run_callFunc_extern (e:=Extern.MathFloatBits.float64frombits) func56 (by kernel_rfl) (by kernel_rfl) (by kernel_rfl) (by kernel_rfl)]
 rfl
theorem aI(a b:Nat):(FloatKind.f64.format.order a b==some Ordering.eq)=feq a b:=rfl
theorem aJ(a b:Nat):(FloatKind.f64.format.order a b != some Ordering.eq)= !feq a b:=rfl
theorem aK(a b:Nat):(FloatKind.f64.format.order a b==some Ordering.lt)=flt a b:=rfl
theorem aL(a b:Nat):(FloatKind.f64.format.order a b==some Ordering.gt)=fgt a b:=rfl
attribute [local go_sem] aF aG aI aJ aK aL
theorem mG{k:IntKind}{a b:Int}(h:a=b):Ending.returned (.int k a)=.returned (.int k b):=by rw[h]
theorem nW{a b:Bool}(h:a=b):Ending.returned (.bool a)=.returned (.bool b):=by rw[h]
theorem iQ{a b:Nat}(h:a=b):Ending.returned (.float .f64 a)=.returned (.float .f64 b):=by rw[h]
theorem fX(x:Nat)(w:World)(hx:x<18446744073709551616):
  Calls prog 116 #[.float .f64 x] w fun e w'=>e=.returned (.int .u64 (mg x:Nat))/\w'=w:=by
 go_enter func116,ntmps116
 go_wp2
 go_ret
 exact⟨mG (iB x hx),rfl⟩
theorem kY(x:Nat)(w:World)(hx:x<18446744073709551616):
  Calls prog 122 #[.float .f64 x] w fun e w'=>e=.returned (.int .u64 (placeB x:Nat))/\w'=w:=by
 have hs:=and_sign x hx
 cases hn:ng x
 ·rw[hn]at hs
  have hl:=dH hn
  have ho:Hid (bits .or .u64 (x:Int) 9223372036854775808=((x+9223372036854775808:Nat):Int)):=or_sign x hl
  have hp:Hid (placeB x=x+9223372036854775808):=by unfold placeB;rw[hn];rfl
  go_enter func122,ntmps122
  go_wp2
  go_ret
  exact⟨mG (by rw[ho.out,hp.out]),rfl⟩
 ·rw[hn]at hs
  have ho:Hid (bits .xor .u64 IntKind.u64.max (x:Int)=((18446744073709551615 - x:Nat):Int)):=not_all x hx
  have hp:Hid (placeB x=18446744073709551615 - x):=by unfold placeB;rw[hn];rfl
  go_enter func122,ntmps122
  go_wp2
  go_ret
  exact⟨mG (by rw[hp.out];exact ho.out),rfl⟩
theorem gU(x:Nat)(w:World)(hx:x<18446744073709551616):
  Calls prog 107 #[.float .f64 x] w fun e w'=>e=.returned (.bool (isN x))/\w'=w:=by
 go_enter func107,ntmps107
 go_wp2_with (go_at_call 116;refine(fX _ _ hx).mono ?_;rintro e w' ⟨rfl,rfl⟩)
 go_ret
 exact⟨nW (by unfold isN;exact decide_eq_decide.2 (by omega)),rfl⟩
theorem dR(w:World):
  Calls prog 108 #[] w fun e w'=>e=.returned (.float .f64 quiet)/\w'=w:=by
 go_enter func108,ntmps108
 go_wp2
 go_ret
 exact⟨rfl,rfl⟩
theorem feq_zero(x:Nat)(hx:x<18446744073709551616):feq x 0=decide (mg x=0):=by
 have h:=mC x 0 hx (by omega)
 have e:rk 0=0:=by decide
 have n:isN 0=false:=by decide
 rw[h,e,n]
 cases hN:isN x
 ·unfold rk
  cases ng x<;>simp
 ·have:=aW.1 hN
  have: ¬mg x=0:=by omega
  simp[this]
theorem bW(x:Nat)(w:World)(hx:x<18446744073709551616):
  Calls prog 93 #[.float .f64 x] w fun e w'=>e=.returned (.float .f64 (canonB x))/\w'=w:=by
 have hc:Hid (canonB x=if isN x then quiet else if mg x=0 then 0 else x):=rfl
 have hz:=feq_zero x hx
 cases hN:isN x
 ·have HN:=hid hN
  by_cases c:mg x=0
  ·have H:Hid (mg x=0):=c
   rw[c]at hz;simp only[decide_true]at hz
   clear c
   go_enter func93,ntmps93
   go_wp2_with (first | (go_at_call 107;refine(gU _ _ hx).mono ?_;rintro e w' ⟨rfl,rfl⟩) | (go_at_call 108;refine(dR _).mono ?_;rintro e w' ⟨rfl,rfl⟩))
   go_ret
   exact⟨iQ (by rw[hc.out,HN.out,H.out];rfl),rfl⟩
  ·simp only[c,decide_false]at hz
   go_enter func93,ntmps93
   go_wp2_with (first | (go_at_call 107;refine(gU _ _ hx).mono ?_;rintro e w' ⟨rfl,rfl⟩) | (go_at_call 108;refine(dR _).mono ?_;rintro e w' ⟨rfl,rfl⟩))
   go_ret
   exact⟨iQ (by rw[hc.out,HN.out,if_neg c];rfl),rfl⟩
 ·have HN:=hid hN
  go_enter func93,ntmps93
  go_wp2_with (first | (go_at_call 107;refine(gU _ _ hx).mono ?_;rintro e w' ⟨rfl,rfl⟩) | (go_at_call 108;refine(dR _).mono ?_;rintro e w' ⟨rfl,rfl⟩))
  go_ret
  exact⟨iQ (by rw[hc.out,HN.out];rfl),rfl⟩
end
section
open Go.RowKit Tf
attribute [local go_sem] aF aG aI aJ aK aL
theorem xor_lt(x:Nat)(h:x<2 ^ 63):x ^^^ 2 ^ 63=x+2 ^ 63:=by
 apply Nat.eq_of_testBit_eq
 intro i
 rw[Nat.testBit_xor,Nat.testBit_two_pow,Nat.add_comm x]
 by_cases c:i=63
 ·subst c
  rw[Nat.testBit_two_pow_add_eq]
  have:x.testBit 63=false:=Nat.testBit_lt_two_pow h
  simp[this]
 ·by_cases c2:i<63
  ·rw[Nat.testBit_two_pow_add_gt c2]
   have: ¬63=i:=by omega
   simp[this]
  ·have h1:x.testBit i=false:=Nat.testBit_lt_two_pow (Nat.lt_of_lt_of_le h (Nat.pow_le_pow_right (by omega) (by omega)))
   have h2:(2 ^ 63+x).testBit i=false:=Nat.testBit_lt_two_pow (Nat.lt_of_lt_of_le (show 2 ^ 63+x<2 ^ 64 by omega) (Nat.pow_le_pow_right (by omega) (by omega)))
   have: ¬63=i:=by omega
   rw[h1,h2];simp[this]
theorem iC(x:Nat)(hx:x<18446744073709551616):Op.negFloat .f64 x=negB x:=by
 unfold Op.negFloat negB
 rw[show FloatKind.f64.format.exponentBits+FloatKind.f64.format.fractionBits=63 from rfl]
 cases h:ng x
 ·have:=dH h
  rw[xor_lt x (by omega)];simp only[Bool.false_eq_true,if_false]
 ·have:=fQ h
  have e:=xor_lt (x - 9223372036854775808) (by omega)
  rw[show x - 9223372036854775808+2 ^ 63=x by omega]at e
  have e2:x ^^^ 2 ^ 63=x - 9223372036854775808:=by
   rw(occs:=.pos [1]) [<- e]
   rw[Nat.xor_assoc,Nat.xor_self,Nat.xor_zero]
  rw[e2];simp only[if_true]
theorem aM(b:Nat):Op.unary .neg (.float .f64 b)=pure (.float .f64 (Op.negFloat .f64 b)):=rfl
attribute [local go_sem] aM
end
section
open Go.RowKit Tf
attribute [local go_sem] aF aG aI aJ aK aL aM
def sameB(a b:Nat):Bool:=decide (a=b)
theorem nX(a b:Nat)(w:World):
  Calls prog 62 #[.float .f64 a,.float .f64 b] w fun e w'=>e=.returned (.bool (sameB a b))/\w'=w:=by
 go_enter func62,ntmps62
 go_wp2
 go_ret
 refine⟨nW ?_,rfl⟩
 unfold sameB
 by_cases h:a=b
 ·subst h;simp
 ·have: ¬(a:Int)=(b:Int):=by omega
  simp only[h,decide_false,beq_eq_false_iff_ne,ne_eq,this,not_false_eq_true]
theorem order_at(a b p q:Nat)(w:World)(ha:a<18446744073709551616)(hb:b<18446744073709551616)(hp:Hid (placeB a=p))(hq:Hid (placeB b=q)):
  Calls prog 120 #[.float .f64 a,.float .f64 b] w fun e w'=>e=.returned (.int .i64 (if p<q then -1 else if q<p then 1 else 0))/\w'=w:=by
 have pa: ∀w,Calls prog 122 #[.float .f64 a] w fun e w'=>e=.returned (.int .u64 (p:Nat))/\w'=w:=by
  intro w;rw[<- hp.out];exact kY a w ha
 have pb: ∀w,Calls prog 122 #[.float .f64 b] w fun e w'=>e=.returned (.int .u64 (q:Nat))/\w'=w:=by
  intro w;rw[<- hq.out];exact kY b w hb
 have PA:=hid pa
 have PB:=hid pb
 clear pa pb
 by_cases c1:p<q
 ·rw[if_pos c1]
  go_enter func120,ntmps120
  go_wp2_with fail
  refine(PA.out _).mono ?_
  rintro e w' ⟨rfl,rfl⟩
  go_wp2_with fail
  refine(PB.out _).mono ?_
  rintro e w' ⟨rfl,rfl⟩
  go_wp2
  go_ret
  exact⟨rfl,rfl⟩
 ·rw[if_neg c1]
  by_cases c2:q<p
  ·rw[if_pos c2]
   go_enter func120,ntmps120
   go_wp2_with fail
   refine(PA.out _).mono ?_
   rintro e w' ⟨rfl,rfl⟩
   go_wp2_with fail
   refine(PB.out _).mono ?_
   rintro e w' ⟨rfl,rfl⟩
   go_wp2
   go_ret
   exact⟨rfl,rfl⟩
  ·rw[if_neg c2]
   go_enter func120,ntmps120
   go_wp2_with fail
   refine(PA.out _).mono ?_
   rintro e w' ⟨rfl,rfl⟩
   go_wp2_with fail
   refine(PB.out _).mono ?_
   rintro e w' ⟨rfl,rfl⟩
   go_wp2
   go_ret
   exact⟨rfl,rfl⟩
theorem sQ(a b:Nat)(w:World)(ha:a<18446744073709551616)(hb:b<18446744073709551616):
  Calls prog 120 #[.float .f64 a,.float .f64 b] w fun e w'=>e=.returned (.int .i64 (orderB a b))/\w'=w:=
 order_at a b (placeB a) (placeB b) w ha hb rfl rfl
theorem kZ(a b:Nat)(o:Int)(w:World)(ha:a<18446744073709551616)(hb:b<18446744073709551616)(ho:Hid (orderB a b=o)):
  Calls prog 120 #[.float .f64 a,.float .f64 b] w fun e w'=>e=.returned (.int .i64 o)/\w'=w:=by
 rw[<- ho.out];exact sQ a b w ha hb
theorem sR(a b:Nat):0<orderB a b ↔ placeB b<placeB a:=by
 unfold orderB;split
 ·simp;omega
 ·split<;>simp_all
def nanOf(w:World)(x y:Nat):Nat:=(Question.nanBits .f64 x y).cut (w.tape w.drawn (.nanBits .f64 x y))
theorem eH(w:World)(x y:Nat):nanOf w x y<18446744073709551616:=by
 unfold nanOf Question.cut
 simp only[]
 omega
theorem dJ(w:World)(x y:Nat):isN (nanOf w x y)=true:=by
 rw[aW]
 unfold nanOf Question.cut mg
 simp only[]
 generalize w.tape w.drawn (Question.nanBits FloatKind.f64 x y)=t
 have hb:t/2%(2 ^ 52 - 1)<2 ^ 52 - 1:=Nat.mod_lt _ (by omega)
 generalize t/2%(2 ^ 52 - 1)=b at*
 have ha:t%2=0\/t%2=1:=by omega
 rcases ha with h | h<;>rw[h]<;>omega
theorem nY{P:Program}(w:World)(t:TypeId)(x y:Nat)(h:Ieee.double.sub x y=none):
  (binOp .sub t (.float .f64 x) (.float .f64 y)).run P w=.ok (.float .f64 (nanOf w x y)) w.drew:=by
 have h':FloatKind.f64.format.sub x y=none:=h
 simp[binOp,Op.floatArith,h',nanOf,Question.forced]
end
section
open Go.RowKit Tf
attribute [local go_sem] aF aG aI aJ aK aL
theorem nZ{P:Program}(w:World)(t:TypeId)(x y:Nat)(h:Ieee.double.add x y=none):
  (binOp .add t (.float .f64 x) (.float .f64 y)).run P w=.ok (.float .f64 (nanOf w x y)) w.drew:=by
 have h':FloatKind.f64.format.add x y=none:=h
 simp[binOp,Op.floatArith,h',nanOf,Question.forced]
theorem oA{P:Program}(w:World)(t:TypeId)(x y:Nat)(h:Ieee.double.mul x y=none):
  (binOp .mul t (.float .f64 x) (.float .f64 y)).run P w=.ok (.float .f64 (nanOf w x y)) w.drew:=by
 have h':FloatKind.f64.format.mul x y=none:=h
 simp[binOp,Op.floatArith,h',nanOf,Question.forced]
theorem rG(x:Nat)(w:World)(hx:x<18446744073709551616):
  Calls prog 121 #[.float .f64 x] w fun e w'=>e=.returned (.float .f64 (mg x))/\w'=w:=by
 go_enter func121,ntmps121
 go_wp2
 go_ret
 refine⟨iQ ?_,rfl⟩
 rw[iB x hx];rfl
end
section
open Go.RowKit Tf
attribute [local go_sem] aF aG aI aJ aK aL aM
theorem oB(x:Nat)(r:Nat)(w:World)(hx:x<18446744073709551616)(hr:canonB x=r):
  Calls prog 93 #[.float .f64 x] w fun e w'=>e=.returned (.float .f64 r)/\w'=w:=by
 subst hr;exact bW x w hx
end
end Go.Proofs.YtlmfpikhlcnjjaaGreatDoor
