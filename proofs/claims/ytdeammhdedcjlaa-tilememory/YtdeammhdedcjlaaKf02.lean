/-
  Some of the texts of this proof, one behind the other.
-/
import Derived.KernelRfl
import Derived.Deep.Draws
import Derived.Test.YtdeammhdedcjlaaRows
import Derived.WalkKit
import Derived.Below
import Derived.BigQuiet
import Derived.Deep.QuietTactic
import Derived.Deep.RegionHeld3
import Derived.Deep.RegionWith
import Derived.Deep.Cut
import Derived.Deep.CutRange
import Derived.Laws.StructEq
import Derived.Deep.Quiet
import Derived.Deep.MidRow
import Derived.Test.YtdeammhdedcjlaaKf01
set_option maxRecDepth 100000
set_option maxHeartbeats 400000000
namespace Go.Proofs.Ytdeammhdedcjlaa
open _root_.Go.Proofs.Try
namespace Cu
abbrev P3:=Int × Int × Int
def cC:Nat->P3
 | 0=>(1,0,0) | 1=>(0,1,0) | 2=>(-1,0,0) | 3=>(0,-1,0) | 4=>(0,0,1) | _=>(0,0,-1)
def cR:Nat->P3
 | 0=>(0,1,0) | 1=>(-1,0,0) | 2=>(0,-1,0) | 3=>(1,0,0) | 4=>(0,1,0) | _=>(0,1,0)
def cU:Nat->P3
 | 0=>(0,0,1) | 1=>(0,0,1) | 2=>(0,0,1) | 3=>(0,0,1) | 4=>(-1,0,0) | _=>(1,0,0)
def pl(p q:P3):P3:=(p.1+q.1,p.2.1+q.2.1,p.2.2+q.2.2)
def sc(k:Int)(p:P3):P3:=(k*p.1,k*p.2.1,k*p.2.2)
def wy(f s:Nat):P3:=match s with
 | 0=>cR f | 1=>cU f | 2=>sc (-1) (cR f) | _=>sc (-1) (cU f)
def md(n f i j:Nat):P3:=pl (sc n (cC f)) (pl (sc (2*i+1 - n) (cR f)) (sc (2*j+1 - n) (cU f)))
theorem six{f:Nat}(h:f<6):f=0\/f=1\/f=2\/f=3\/f=4\/f=5:=by omega
end Cu
namespace Cu
def lf(n s i j:Nat):Nat:=match s with | 0=>j | 1=>n - 1 - i | 2=>n - 1 - j | _=>i
def ms(n f s a b:Nat):P3:=pl (sc n (cC f)) (pl (sc (2*a+1 - n) (wy f s)) (sc (2*b+1 - n) (wy f ((s+1)%4))))
end Cu
namespace Cu
def nm(n f i j:Nat):Nat:=(f*n+j)*n+i
def cf(n c:Nat):Nat:=c/n/n
def ci(n c:Nat):Nat:=c%n
def cj(n c:Nat):Nat:=c/n%n
theorem nm_lt{n f i j:Nat}(hf:f<6)(hi:i<n)(hj:j<n):nm n f i j<6*n*n:=by
 unfold nm
 have a:f*n+j<6*n:=by
  have:f*n+n<=6*n:=by
   have:=Nat.mul_le_mul_right n (show f+1<=6 by omega)
   rwa [Nat.add_mul,Nat.one_mul]at this
  omega
 have b:(f*n+j)*n+n<=6*n*n:=by
  have:=Nat.mul_le_mul_right n (show f*n+j+1<=6*n by omega)
  rwa [Nat.add_mul (f*n+j) 1 n,Nat.one_mul]at this
 omega
theorem dec_lt{n c:Nat}(hn:1<=n)(hc:c<6*n*n):cf n c<6/\ci n c<n/\cj n c<n/\nm n (cf n c) (ci n c) (cj n c)=c:=by
 refine⟨?_,Nat.mod_lt _ (by omega),Nat.mod_lt _ (by omega),?_⟩
 ·unfold cf
  rw[Nat.div_div_eq_div_mul]
  refine Nat.div_lt_of_lt_mul ?_
  rw[Nat.mul_comm (n*n) 6,<- Nat.mul_assoc]
  exact hc
 ·unfold nm cf ci cj
  have h1:c/n/n*n+c/n%n=c/n:=by rw[Nat.mul_comm];exact Nat.div_add_mod _ _
  rw[h1,Nat.mul_comm]
  exact Nat.div_add_mod _ _
end Cu
section
open Tf Ieee Cu
def cn(x:Nat):Nat:=canonB (negB x)
theorem dW{x:Nat}(_:x<18446744073709551616):(isN x=true/\canonB x=quiet)\/(mg x=0/\canonB x=0)\/(isN x=false/\mg x≠0/\canonB x=x):=by
 unfold canonB
 cases h:isN x
 ·by_cases c:mg x=0
  ·exact .inr (.inl ⟨c,by simp[c]⟩)
  ·exact .inr (.inr ⟨rfl,c,by simp[c]⟩)
 ·exact .inl ⟨rfl,by simp⟩
theorem lR{x:Nat}(hx:x<18446744073709551616):cn (canonB x)=cn x:=by
 have h1:=fF hx
 have h2:=gH hx
 rcases dW hx with⟨h,e⟩ | ⟨h,e⟩ | ⟨h,k,e⟩
 ·rw[e];unfold cn canonB;rw[h1,h,if_pos rfl];decide
 ·rw[e];unfold cn
  have:canonB (negB x)=0:=by
   rcases dW (dA hx)with⟨a,b⟩ | ⟨a,b⟩ | ⟨a,a',b⟩
   ·rw[h1]at a;unfold isN at a;rw[h]at a;simp at a
   ·exact b
   ·rw[h2]at a';exact absurd h a'
  rw[this];decide
 ·rw[e]
theorem lS(s:Bool)(m:Nat)(p:Int):double.nearest (!s) m p=negB (double.nearest s m p):=by
 have hw: ∀(s:Bool) r,r<9223372036854775808->double.word (!s) r=negB (double.word s r):=by
  intro s r hr
  rw[cX,cX]
  cases s
  ·simp only[Bool.not_false,if_true,Bool.false_eq_true,if_false]
   unfold negB;rw[bI hr];simp;omega
  ·simp only[Bool.not_true,if_true,Bool.false_eq_true,if_false]
   unfold negB;rw[eZ (by omega)];simp
 unfold Format.nearest
 by_cases c:m=0
 ·rw[if_pos c,if_pos c];exact hw s 0 (by omega)
 ·rw[if_neg c,if_neg c]
  have hm: ∀x,min x double.infRung<9223372036854775808:=fun x=>by
   have:=Nat.min_le_right x double.infRung
   rw[aP]at this ⊢;omega
  exact hw s _ (hm _)
theorem qC(d:Datum)(h: ∀s t,d≠ .nan s t):double.write d.opposite=negB (double.write d):=by
 cases d with
 | number s m i=>exact lS s m i
 | infinity s=>cases s<;>decide+kernel
 | nan s t=>exact absurd rfl (h s t)
theorem oL(p:Nat)(d e:Datum):d.opposite.quotient p e=(d.quotient p e).map Datum.opposite/\(∀s t,d.quotient p e≠some (.nan s t)):=by
 cases d<;>cases e<;>simp[Datum.opposite,Datum.quotient]<;>(try split)<;>(try split)<;>simp[Datum.opposite]
theorem map_opp{o:Option Datum}(h: ∀s t,o≠some (.nan s t)):(o.map Datum.opposite).map double.write=(o.map double.write).map negB:=by
 cases o with
 | none=>rfl
 | some d=>simp only[Option.map_some];rw[qC d (fun s t e=>h s t (by rw[e]))]
theorem lU{a b r:Nat}(h:double.div a b=some r):r<18446744073709551616:=by
 have hr: ∃d,double.write d=r:=by
  have h':((double.read a).quotient 54 (double.read b)).map double.write=some r:=h
  rw[Option.map_eq_some_iff]at h'
  obtain⟨d,_,e⟩:=h'
  exact⟨d,e⟩
 obtain⟨d,e⟩:=hr
 have hw: ∀(s:Bool) q,q<9223372036854775808->double.word s q<18446744073709551616:=by
  intro s q hq;rw[cX];split<;>omega
 have hb:double.binade=4503599627370496:=d_bin
 have hi:double.infRung=9218868437227405312:=aP
 rw[<- e]
 cases d with
 | number s m i=>
  unfold Format.write Format.nearest
  dsimp only
  split
  ·exact hw _ _ (by omega)
  ·exact hw _ _ (Nat.lt_of_le_of_lt (Nat.min_le_right _ _) (by rw[hi];omega))
 | infinity s=>exact hw _ _ (by rw[hi];omega)
 | nan s t=>
  refine hw _ _ ?_
  have:=Nat.mod_lt t (show 0<double.binade by rw[hb];omega)
  rw[hi];rw[hb]at this ⊢;omega
theorem dvB_cn{a b:Nat}(ha:a<18446744073709551616):dvB (negB a) b=cn (dvB a b):=by
 have key:double.div (negB a) b=(double.div a b).map negB:=by
  show((double.read (negB a)).quotient 54 (double.read b)).map double.write=(((double.read a).quotient 54 (double.read b)).map double.write).map negB
  rw[lC a ha,(oL 54 _ _).1]
  exact map_opp (oL 54 _ _).2
 cases h:double.div a b with
 | none=>rw[h]at key;rw[hU h,hU key];decide
 | some r=>rw[h]at key;rw[dB h,dB key,lR (lU h)];rfl
theorem dvB_z(b:Nat)(h1:mg b≠0)(h2:mg b<9218868437227405312)(z:Nat)(hz:mg z=0):dvB z b=0:=by
 obtain⟨m,a,e,k⟩:=aO double b (by rw[bA,aP];exact h2)
 have hm:m≠0:=by
  intro h0
  rw[h0,Nat.zero_mul,bA]at k
  have k2:mv (mg b)=0:=k.symm
  refine h1 ?_
  unfold mv mag at k2
  split at k2
  ·exact k2
  ·exact absurd k2 (Nat.mul_ne_zero (by have:=Nat.two_pow_pos 52;omega) (by have:=Nat.two_pow_pos (mg b/2 ^ 52 - 1);omega))
 have hd: ∃s p,double.div z b=some (double.nearest s 0 p):=by
  have hq: ∃s p,(double.read z).quotient 54 (double.read b)=some (.number s 0 p):=by
   rw[e,pU hz]
   unfold Datum.quotient
   dsimp only
   rw[if_neg hm]
   simp
  obtain⟨s,p,hq⟩:=hq
  refine⟨s,p,?_⟩
  show((double.read z).quotient 54 (double.read b)).map double.write=_
  rw[hq];rfl
 obtain⟨s,p,e⟩:=hd
 rw[dB e]
 unfold Format.nearest
 rw[if_pos rfl]
 cases s<;>decide+kernel
def fB(k:Int):Nat:=rn false (k*one)
def qo(n:Nat)(k:Int):Nat:=dvB (fB k) (fB n)
theorem fB_lt(k:Int):fB k<18446744073709551616:=rn_lt _ _
theorem dvB_lt(a b:Nat):dvB a b<18446744073709551616:=by
 unfold dvB
 cases h:double.div a b with
 | none=>decide
 | some r=>exact hY (lU h)
theorem qo_lt(n:Nat)(k:Int):qo n k<18446744073709551616:=dvB_lt _ _
theorem fB_neg(k:Int):fB (-k)=cn (fB k):=by unfold fB cn;rw[rn_negv,Int.neg_mul]
theorem fB_norm: ∀n:Nat,n<33->1<=n->mg (fB n)≠0/\mg (fB n)<9218868437227405312:=by decide+kernel
theorem nI{n:Nat}(h1:1<=n)(h2:n<=32)(k:Int):qo n (-k)=cn (qo n k):=by
 obtain⟨b1,b2⟩:=fB_norm n (by omega) h1
 unfold qo
 rw[fB_neg]
 have hx:=fB_lt k
 unfold cn
 rcases dW (dA hx)with⟨h,e⟩ | ⟨h,e⟩ | ⟨h,k',e⟩
 ·rw[fF hx]at h
  have:isN (fB k)=false:=mY _ _
  rw[this]at h;cases h
 ·rw[e,dvB_z _ b1 b2 0 (by decide),dvB_z _ b1 b2 (fB k) (by rw[<- gH hx];exact h)];decide
 ·rw[e,dvB_cn hx];rfl
theorem qo_one: ∀n:Nat,n<33->1<=n->qo n n=4607182418800017408:=by decide+kernel
def pL(n:Nat)(v:P3):Nat:=lnB (qo n v.1) (qo n v.2.1) (qo n v.2.2)
def px(n:Nat)(v:P3):Nat:=unB (pL n v) (qo n v.1)
def py(n:Nat)(v:P3):Nat:=unB (pL n v) (qo n v.2.1)
def pz(n:Nat)(v:P3):Nat:=unB (pL n v) (qo n v.2.2)
theorem px_lt(n:Nat)(v:P3):px n v<18446744073709551616:=nG _ _
theorem py_lt(n:Nat)(v:P3):py n v<18446744073709551616:=nG _ _
theorem pz_lt(n:Nat)(v:P3):pz n v<18446744073709551616:=nG _ _
def gp(n:Nat)(u v:P3):Nat:=lnB (sbB (px n u) (px n v)) (sbB (py n u) (py n v)) (sbB (pz n u) (pz n v))
def cl(x y z u v t:Nat):Nat:=lnB (sbB (mlB y t) (mlB z v)) (sbB (mlB z u) (mlB x t)) (sbB (mlB x v) (mlB y u))
def ar(n:Nat)(p q r s:P3):Nat:=cl (sbB (px n r) (px n p)) (sbB (py n r) (py n p)) (sbB (pz n r) (pz n p)) (sbB (px n s) (px n q)) (sbB (py n s) (py n q)) (sbB (pz n s) (pz n q))
end
section
open Tf Ieee Cu
def cr(n f i j:Nat):P3:=pl (sc n (cC f)) (pl (sc (2*i - n) (cR f)) (sc (2*j - n) (cU f)))
def e1(n f s i j:Nat):P3:=match s with | 0=>cr n f (i+1) j | 1=>cr n f i (j+1) | 2=>cr n f i j | _=>cr n f i j
def e2(n f s i j:Nat):P3:=match s with | 0=>cr n f (i+1) (j+1) | 1=>cr n f (i+1) (j+1) | 2=>cr n f i (j+1) | _=>cr n f (i+1) j
def C1(n c s:Nat):P3:=e1 n (cf n c) s (ci n c) (cj n c)
def C2(n c s:Nat):P3:=e2 n (cf n c) s (ci n c) (cj n c)
def ArC(n c:Nat):Nat:=ar n (cr n (cf n c) (ci n c) (cj n c)) (cr n (cf n c) (ci n c+1) (cj n c)) (cr n (cf n c) (ci n c+1) (cj n c+1)) (cr n (cf n c) (ci n c) (cj n c+1))
end
section
open Tf
def cq(way:Ieee.Toward)(x:Nat):Int:=if ng x then -((cutq way (ng x) (mv (mg x)) one:Nat):Int)else((cutq way (ng x) (mv (mg x)) one:Nat):Int)
def cOk(way:Ieee.Toward)(x:Nat):Bool:=fin x&&decide (-9223372036854775808<=cq way x)&&decide (cq way x<9223372036854775808)
def cI(way:Ieee.Toward)(x:Nat):Int:=if cOk way x then cq way x else 0
def itV(way:Ieee.Toward)(x:Nat):Nat:=Ieee.double.write ((Ieee.double.read x).integral way)
def wOk(y:Nat):Bool:=(fgt y 14114281232179134464||feq y 14114281232179134464)&&flt y 4890909195324358656
def wI(y:Nat):Int:=if wOk y then(if ng y then -((mv (mg y)/one:Nat):Int)else((mv (mg y)/one:Nat):Int))else 0
theorem jY:mv 4890909195324358656=2 ^ 63*one:=bN 63 _ (by decide)
theorem jZ(y:Nat)(hy:y<18446744073709551616):wOk y=(!isN y&&decide (-4890909195324358656<=rk y)&&decide (rk y<4890909195324358656)):=by
 unfold wOk
 rw[mW y _ hy (by decide),fO y _ hy (by decide),flt_rk y _ hy (by decide)]
 have n1:isN 14114281232179134464=false:=by decide
 have n2:isN 4890909195324358656=false:=by decide
 have r1:rk 14114281232179134464= -4890909195324358656:=by decide
 have r2:rk 4890909195324358656=4890909195324358656:=by decide
 rw[n1,n2,r1,r2]
 cases isN y
 ·simp only[Bool.not_false,Bool.and_self,Bool.true_and]
  congr 1
  rw[<- Bool.decide_or]
  exact decide_eq_decide.2 (by omega)
 ·simp
theorem wOk_fin{y:Nat}(hy:y<18446744073709551616)(h:wOk y=true):mg y<=4890909195324358656/\(ng y=false->mg y<4890909195324358656):=by
 rw[jZ y hy]at h
 simp only[Bool.and_eq_true,decide_eq_true_eq]at h
 obtain⟨⟨_,a⟩,b⟩:=h
 unfold rk at a b
 cases hn:ng y<;>rw[hn]at a b<;>simp only[Bool.false_eq_true,if_false,if_true]at a b
 ·exact⟨by omega,fun _=>by omega⟩
 ·exact⟨by omega,fun h=>by cases h⟩
theorem wI_conv{y:Nat}(hy:y<18446744073709551616)(h:wOk y=true):floatToIntVal .f64 y .i64=some (wI y):=by
 obtain⟨a,b⟩:=wOk_fin hy h
 unfold floatToIntVal
 have e:(FloatKind.f64.decode y).toInt .zero=some (if ng y then -((mv (mg y)/one:Nat):Int)else((mv (mg y)/one:Nat):Int)):=toInt_d y hy (by omega)
 rw[e]
 have hw:wI y=(if ng y then -((mv (mg y)/one:Nat):Int)else((mv (mg y)/one:Nat):Int)):=by unfold wI;rw[h];rfl
 rw[<- hw]
 have hle:mv (mg y)/one<=2 ^ 63:=by
  have h1:=dT.2 a
  rw[jY]at h1
  have h2:=Nat.div_le_div_right (c:=one) h1
  rwa [Nat.mul_div_cancel _ dH]at h2
 have hlt:ng y=false->mv (mg y)/one<2 ^ 63:=by
  intro h'
  rw[Nat.div_lt_iff_lt_mul dH,<- jY]
  exact hJ.2 (b h')
 have hb:IntKind.i64.min<=wI y/\wI y<=IntKind.i64.max:=by
  have m1:IntKind.i64.min= -9223372036854775808:=by decide
  have m2:IntKind.i64.max=9223372036854775807:=by decide
  rw[m1,m2,hw]
  generalize mv (mg y)/one=q at*
  cases hn:ng y
  ·have:=hlt hn
   simp only[Bool.false_eq_true,if_false];omega
  ·simp only[if_true];omega
 simp only[hb,and_self,if_true]
theorem itV_lt(way:Ieee.Toward)(x:Nat):itV way x<18446744073709551616:=Ieee.double.write_lt _
theorem kA(way:Ieee.Toward)(x:Nat)(hx:x<18446744073709551616)(fx:mg x<9218868437227405312):
  ng (itV way x)=ng x/\mg (itV way x)<9218868437227405312/\mv (mg (itV way x))=cutq way (ng x) (mv (mg x)) one*one:=by
 obtain⟨r,hr,e,hw⟩:=nA way x hx fx
 have hw':itV way x=if ng x then 9223372036854775808+r else r:=hw
 rw[hw']
 cases hn:ng x
 ·simp only[Bool.false_eq_true,if_false]
  rw[bI (by omega),bD (by omega)]
  exact⟨rfl,hr,by rw[hn]at e;exact e⟩
 ·simp only[if_true]
  rw[eZ (by omega),eY (by omega) (by omega)]
  rw[show 9223372036854775808+r - 9223372036854775808=r by omega]
  exact⟨rfl,hr,by rw[hn]at e;exact e⟩
theorem sv_itV(way:Ieee.Toward)(x:Nat)(hx:x<18446744073709551616)(fx:mg x<9218868437227405312):sv (itV way x)=cq way x*one:=by
 obtain⟨a,_,c⟩:=kA way x hx fx
 unfold sv cq
 rw[a,c]
 cases ng x<;>simp[Int.neg_mul]
theorem itV_inf(way:Ieee.Toward)(x:Nat)(hx:x<18446744073709551616)(fx:mg x=9218868437227405312):itV way x=x:=by
 have ei:=aP
 unfold itV
 rw[aZ Ieee.double x cS (by rw[bA];omega),bX x hx]
 simp only[Ieee.Datum.integral,Ieee.Format.write]
 rw[cX,aP]
 have hw:=jU x hx
 rw[fx]at hw
 exact hw.symm
theorem sv_p63:sv 4890909195324358656=9223372036854775808*(one:Int):=by
 unfold sv
 have h1:ng 4890909195324358656=false:=by decide
 have h2:mg 4890909195324358656=4890909195324358656:=by decide
 rw[h1,h2,jY]
 simp only[Bool.false_eq_true,if_false,Int.natCast_mul]
 rfl
theorem sv_n63:sv 14114281232179134464= -9223372036854775808*(one:Int):=by
 unfold sv
 have h1:ng 14114281232179134464=true:=by decide
 have h2:mg 14114281232179134464=4890909195324358656:=by decide
 rw[h1,h2,jY]
 simp only[if_true,Int.natCast_mul,<- Int.neg_mul]
 rfl
theorem onep:(0:Int)<(one:Int):=by exact_mod_cast dH
theorem oM(way:Ieee.Toward)(x:Nat)(hx:x<18446744073709551616)(n:isN x=false):wOk (itV way x)=cOk way x:=by
 have hle:=bH.1 n
 by_cases fx:mg x<9218868437227405312
 ·obtain⟨a,b,c⟩:=kA way x hx fx
  have hn:isN (itV way x)=false:=bH.2 (by omega)
  rw[jZ _ (itV_lt way x),hn]
  unfold cOk
  have hf:fin x=true:=by unfold fin;exact decide_eq_true fx
  rw[hf]
  have r1:rk 14114281232179134464= -4890909195324358656:=by decide
  have r2:rk 4890909195324358656=4890909195324358656:=by decide
  have s1:=eC (itV way x) 14114281232179134464
  have s2:=eC (itV way x) 4890909195324358656
  rw[r1,sv_itV way x hx fx,sv_n63,Int.mul_lt_mul_right onep]at s1
  rw[r2,sv_itV way x hx fx,sv_p63,Int.mul_lt_mul_right onep]at s2
  have t1:decide (-4890909195324358656<=rk (itV way x))=decide (-9223372036854775808<=cq way x):=decide_eq_decide.2 (by omega)
  have t2:decide (rk (itV way x)<4890909195324358656)=decide (cq way x<9223372036854775808):=decide_eq_decide.2 (by omega)
  rw[t1,t2];simp
 ·have e:mg x=9218868437227405312:=by omega
  rw[itV_inf way x hx e,jZ x hx,n]
  unfold cOk
  have hf:fin x=false:=by unfold fin;exact decide_eq_false fx
  rw[hf]
  unfold rk;rw[e]
  cases ng x<;>simp
theorem wI_itV(way:Ieee.Toward)(x:Nat)(hx:x<18446744073709551616)(n:isN x=false):wI (itV way x)=cI way x:=by
 unfold wI cI
 rw[oM way x hx n]
 cases h:cOk way x
 ·rfl
 ·have fx:mg x<9218868437227405312:=by
   unfold cOk at h
   simp only[Bool.and_eq_true]at h
   have:=h.1.1
   unfold fin at this
   simpa using this
  obtain⟨a,b,c⟩:=kA way x hx fx
  rw[if_pos rfl,if_pos rfl,a,c,Nat.mul_div_cancel _ dH]
  rfl
theorem oO{y:Nat}(hy:y<18446744073709551616)(n:isN y=true):wOk y=false/\wI y=0:=by
 have h:wOk y=false:=by rw[jZ y hy,n];rfl
 exact⟨h,by unfold wI;rw[h];rfl⟩
theorem cOk_nan(way:Ieee.Toward){x:Nat}(n:isN x=true):cOk way x=false/\cI way x=0:=by
 have h:cOk way x=false:=by
  unfold cOk fin
  have:=aW.1 n
  rw[decide_eq_false (by omega)];rfl
 exact⟨h,by unfold cI;rw[h];rfl⟩
end
section
open Go.RowKit Tf
attribute [local go_sem] aI aJ aQ aR aU aV aX
def snan(w:World)(x:Nat):Nat:=
 if(Question.extern "math.Floor,Ceil,Trunc,RoundToEven.signallingNaN kept" 2).cut (w.tape w.drawn (Question.extern "math.Floor,Ceil,Trunc,RoundToEven.signallingNaN kept" 2))==1 then x
 else FloatKind.f64.encode (.nan (sg Ieee.double x) (FloatKind.f64.format.quiet (rg Ieee.double x - Ieee.double.infRung)))
theorem or_bit(t:Nat)(h:t<4503599627370496):Ieee.double.quiet t%4503599627370496=Ieee.double.quiet t/\0<Ieee.double.quiet t:=by
 have e:Ieee.double.quiet t=t ||| 2 ^ 51:=rfl
 rw[e]
 have h1:t ||| 2 ^ 51<2 ^ 52:=Nat.or_lt_two_pow (by omega) (by omega)
 have h2:2 ^ 51<=t ||| 2 ^ 51:=Nat.right_le_or
 omega
theorem lV(w:World)(x:Nat)(hx:x<18446744073709551616)(n:isN x=true):snan w x<18446744073709551616/\isN (snan w x)=true:=by
 have ei:=aP
 have hm:=hH x
 have hn:=aW.1 n
 unfold snan
 split
 ·exact⟨hx,n⟩
 ·rw[bA,bX x hx,ei]
  obtain⟨q1,q2⟩:=or_bit (mg x - 9218868437227405312) (by omega)
  have e: ∀(b:Bool) (t:Nat),FloatKind.f64.encode (.nan b t)=if b then 9223372036854775808+(9218868437227405312+t%4503599627370496)else 9218868437227405312+t%4503599627370496:=by
   intro b t
   show Ieee.double.word b (Ieee.double.infRung+t%Ieee.double.binade)=_
   rw[cX,aP,d_bin]
  rw[e]
  change (if ng x=true then 9223372036854775808+(9218868437227405312+Ieee.double.quiet (mg x - 9218868437227405312)%4503599627370496)else 9218868437227405312+Ieee.double.quiet (mg x - 9218868437227405312)%4503599627370496)<_/\isN (if ng x=true then 9223372036854775808+(9218868437227405312+Ieee.double.quiet (mg x - 9218868437227405312)%4503599627370496)else 9218868437227405312+Ieee.double.quiet (mg x - 9218868437227405312)%4503599627370496)=true
  generalize Ieee.double.quiet (mg x - 9218868437227405312)=t at*
  have ht:t%4503599627370496<4503599627370496:=Nat.mod_lt _ (by decide)
  rw[aW]
  cases ng x
  ·simp only[Bool.false_eq_true,if_false]
   refine⟨by omega,?_⟩
   rw[bD (by omega)];omega
  ·simp only[if_true]
   refine⟨by omega,?_⟩
   rw[eY (by omega) (by omega)];omega
def qNaN(x:Nat):Bool:=FloatKind.f64.format.quiet (rg Ieee.double x - Ieee.double.infRung)==rg Ieee.double x - Ieee.double.infRung
theorem ext_num(nm:String)(way:Ieee.Toward)(x:Nat)(n:isN x=false):Extern.MathFloor.toIntegral nm way #[.float .f64 x]=pure (.float .f64 (itV way x)):=by
 have ei:=aP
 have h:=bH.1 n
 unfold itV
 by_cases c:mg x<9218868437227405312
 ·obtain⟨m,a,e,_⟩:=aO Ieee.double x (by rw[bA];omega)
  show(match Ieee.double.read x with | .nan _ _=>_ | _=>_)=_
  rw[e];rfl
 ·show(match Ieee.double.read x with | .nan _ _=>_ | _=>_)=_
  rw[aZ Ieee.double x cS (by rw[bA];omega)];rfl
theorem ext_nan(nm:String)(way:Ieee.Toward)(x:Nat)(n:isN x=true)(q:qNaN x=true):Extern.MathFloor.toIntegral nm way #[.float .f64 x]=pure (.float .f64 x):=by
 have ei:=aP
 have h:=aW.1 n
 unfold qNaN at q
 show(match Ieee.double.read x with | .nan _ _=>_ | _=>_)=_
 rw[bW Ieee.double x cS (by rw[bA];omega)]
 dsimp only
 rw[if_pos (by simpa using q)]
theorem ext_snan(nm:String)(way:Ieee.Toward)(x:Nat)(n:isN x=true)(q:qNaN x=false)(P:Program)(w:World):(Extern.MathFloor.toIntegral nm way #[.float .f64 x]).run P w=.ok (.float .f64 (snan w x)) w.drew:=by
 have ei:=aP
 have h:=aW.1 n
 unfold qNaN at q
 show Sem.run P (match Ieee.double.read x with | .nan _ _=>_ | _=>_) w=_
 rw[bW Ieee.double x cS (by rw[bA];omega)]
 dsimp only
 rw[if_neg (by simpa using q)]
 simp[Question.forced,snan]
theorem run_even(x:Nat)(w:World)(n:isN x=false):(callFunc 55 #[.float .f64 x]).run prog w=.ok (.value (.float .f64 (itV .even x))) w:=by
 rw[run_callFunc_extern (e:=Extern.MathFloor.toIntegral "math.RoundToEven" .even) func55 (by kernel_rfl) (by kernel_rfl) (by kernel_rfl) (by kernel_rfl),ext_num _ _ x n]
 rfl
theorem kC(x:Nat)(w:World)(n:isN x=true)(q:qNaN x=true):(callFunc 55 #[.float .f64 x]).run prog w=.ok (.value (.float .f64 x)) w:=by
 rw[run_callFunc_extern (e:=Extern.MathFloor.toIntegral "math.RoundToEven" .even) func55 (by kernel_rfl) (by kernel_rfl) (by kernel_rfl) (by kernel_rfl),ext_nan _ _ x n q]
 rfl
theorem iQ(x:Nat)(w:World)(n:isN x=true)(q:qNaN x=false):(callFunc 55 #[.float .f64 x]).run prog w=.ok (.value (.float .f64 (snan w x))) w.drew:=by
 rw[run_callFunc_extern (e:=Extern.MathFloor.toIntegral "math.RoundToEven" .even) func55 (by kernel_rfl) (by kernel_rfl) (by kernel_rfl) (by kernel_rfl),ext_snan _ _ x n q]
 rfl
theorem iC(y:Nat)(i:Int)(ok:Bool)(w:World)(hy:y<18446744073709551616)(hi:wI y=i)(ho:wOk y=ok):
  Calls prog 54 #[.float .f64 y] w fun e w'=>e=.returned (.tuple #[.int .i64 i,.bool ok])/\w'=w:=by
 have hc:wOk y=true->floatToIntVal .f64 y .i64=some i:=by intro h;rw[wI_conv hy h,hi]
 have h0:wOk y=false->i=0:=by intro h;rw[<- hi];unfold wI;rw[h];rfl
 have hw:wOk y=((fgt y 14114281232179134464||feq y 14114281232179134464)&&flt y 4890909195324358656):=rfl
 clear hi
 cases hg:(fgt y 14114281232179134464||feq y 14114281232179134464)
 ·rw[hg]at hw
  have hw':wOk y=false:=hw
  obtain rfl:=h0 hw'
  obtain rfl:ok=false:=by rw[<- ho,hw']
  clear hw hw' h0 hc ho
  go_enter func54,ntmps54
  go_wp2
  go_ret2
  exact⟨rfl,rfl⟩
 ·cases hl:flt y 4890909195324358656
  ·rw[hg,hl]at hw
   have hw':wOk y=false:=hw
   obtain rfl:=h0 hw'
   obtain rfl:ok=false:=by rw[<- ho,hw']
   clear hw hw' h0 hc ho
   go_enter func54,ntmps54
   go_wp2
   go_ret2
   exact⟨rfl,rfl⟩
  ·rw[hg,hl]at hw
   have hw':wOk y=true:=hw
   obtain rfl:ok=true:=by rw[<- ho,hw']
   have hcv:=fun(w:World)=>run_convert_float_int (P:=prog) w 47 2 .f64 .i64 y i (by kernel_rfl) (by kernel_rfl) (hc hw')
   clear hw hw' h0 hc ho
   go_enter func54,ntmps54
   go_wp2
   go_ret2
   exact⟨rfl,rfl⟩
theorem round_at(x:Nat)(i:Int)(ok:Bool)(w:World)(hx:x<18446744073709551616)(hi:cI .even x=i)(ho:cOk .even x=ok):
  Calls prog 40 #[.float .f64 x] w fun e w'=>e=.returned (.tuple #[.int .i64 i,.bool ok])/\ ∃n,w'=w.drewN n:=by
 cases n:isN x
 ·have r:=fun(w:World)=>run_even x w n
  have l:=itV_lt .even x
  have a:=wI_itV .even x hx n
  have b:=oM .even x hx n
  rw[hi]at a
  rw[ho]at b
  generalize itV .even x=y at*
  clear hi ho n
  go_enter func40,ntmps40
  go_wp2_with fail
  refine(iC y i ok _ l a b).mono ?_
  rintro e w' ⟨rfl,rfl⟩
  go_wp2
  go_ret2
  exact⟨rfl,0,rfl⟩
 ·obtain⟨h1,h2⟩:=cOk_nan .even n
  rw[hi]at h2
  rw[ho]at h1
  subst h1 h2
  cases q:qNaN x
  ·have r:=fun(w:World)=>iQ x w n q
   have l:=fun(w:World)=>(lV w x hx n).1
   have l2:=fun(w:World)=>oO (l w) (lV w x hx n).2
   clear hi ho n q
   go_enter func40,ntmps40
   go_wp2_with fail
   refine(iC _ 0 false _ (l _) (l2 _).2 (l2 _).1).mono ?_
   rintro e w' ⟨rfl,rfl⟩
   go_wp2
   go_ret2
   exact⟨rfl,1,rfl⟩
  ·have r:=fun(w:World)=>kC x w n q
   have l2:=oO hx n
   clear hi ho n q
   go_enter func40,ntmps40
   go_wp2_with fail
   refine(iC x 0 false _ hx l2.2 l2.1).mono ?_
   rintro e w' ⟨rfl,rfl⟩
   go_wp2
   go_ret2
   exact⟨rfl,0,rfl⟩
theorem dL(x:Nat)(w:World)(hx:x<18446744073709551616):
  Calls prog 33 #[.float .f64 x] w fun e w'=>e=.returned (.bool (isN x))/\w'=w:=by
 obtain⟨c,hc⟩:=aB (classB x)
 have h:(c==4)=isN x:=by
  rw[<- hc];unfold classB isN
  have:=hH x
  by_cases c0:mg x=0
  ·rw[if_pos c0,c0];rfl
  ·by_cases c1:mg x<4503599627370496
   ·rw[if_neg c0,if_pos c1,decide_eq_false (by omega)];rfl
   ·by_cases c2:mg x<9218868437227405312
    ·rw[if_neg c0,if_neg c1,if_pos c2,decide_eq_false (by omega)];rfl
    ·by_cases c3:mg x=9218868437227405312
     ·rw[if_neg c0,if_neg c1,if_neg c2,if_pos c3,decide_eq_false (by omega)];rfl
     ·rw[if_neg c0,if_neg c1,if_neg c2,if_neg c3,decide_eq_true (by omega)];rfl
 obtain⟨b,hb⟩:=aB (isN x)
 rw[hb]at h ⊢
 have C:Hid (∀w,Calls prog 46 #[.float .f64 x] w fun e w'=>e=.returned (.int .i64 c)/\w'=w):=by
  intro w;rw[<- hc];exact pV x w hx
 clear hc hb
 go_enter func33,ntmps33
 go_wp2_with fail
 refine(C.out _).mono ?_
 rintro e w' ⟨rfl,rfl⟩
 go_wp2
 go_ret
 exact⟨rfl,rfl⟩
theorem dX(n:Int)(w:World):
  Calls prog 35 #[.int .i64 n] w fun e w'=>e=.returned (.float .f64 (rn false (n*one)))/\w'=w:=by
 have hc:=fun(w:World)=>run_convert_int_float (P:=prog) w 2 47 .i64 .f64 n (by kernel_rfl) (by kernel_rfl)
 have e:floatOfInt .f64 n=rn false (n*one):=ofInt_d n
 rw[e]at hc
 generalize rn false (n*one)=y at*
 clear e
 go_enter func35,ntmps35
 go_wp2
 go_ret
 exact⟨rfl,rfl⟩
end
section
open Go.RowKit Cu
def inR(k n:Int):Bool:=decide (0<=k)&&decide (k<n)
theorem jB(k n:Int)(w:World):Calls prog 62 #[.int .i64 k,.int .i64 n] w fun e w'=>e=.returned (.bool (inR k n))/\w'=w:=by
 by_cases h1:(0:Int)<=k
 ·have hd:inR k n=decide (k<n):=by simp[inR,h1]
  rw[hd]
  clear hd
  go_enter func62,ntmps62
  go_wp2
  go_ret
  exact⟨rfl,rfl⟩
 ·have hd:inR k n=false:=by simp[inR,h1]
  rw[hd]
  clear hd
  go_enter func62,ntmps62
  go_wp2
  go_ret
  exact⟨rfl,rfl⟩
def clN(side:Int):Int:=if 1<=side/\side<=32 then 6*side*side else 0
theorem sq_le{x:Int}(h1:1<=x)(h2:x<=32):6*x*x<=6144/\1<=6*x*x:=by
 have a:x*x<=32*32:=Int.mul_le_mul h2 h2 (by omega) (by omega)
 have b:1*1<=x*x:=Int.mul_le_mul h1 h1 (by omega) (by omega)
 rw[Int.mul_assoc]
 omega
theorem iE(side:Int)(w:World):Calls prog 29 #[.int .i64 side] w fun e w'=>e=.returned (.int .i64 (clN side))/\w'=w:=by
 by_cases h1:(1:Int)<=side
 ·by_cases h2:side<=(32:Int)
  ·have hd:clN side=6*side*side:=by simp[clN,h1,h2]
   have hb:=sq_le h1 h2
   rw[hd]
   clear hd
   go_enter func29,ntmps29
   go_wp2
   go_ret
   exact⟨rfl,rfl⟩
  ·have hd:clN side=0:=by simp[clN,h1,h2]
   rw[hd]
   clear hd
   go_enter func29,ntmps29
   go_wp2
   go_ret
   exact⟨rfl,rfl⟩
 ·have hd:clN side=0:=by simp[clN,h1]
  rw[hd]
  clear hd
  go_enter func29,ntmps29
  go_wp2
  go_ret
  exact⟨rfl,rfl⟩
end
section
open Go.RowKit Cu
def cN(side face i j:Int):Int:=if(1<=side/\side<=32)/\inR face 6=true/\inR i side=true/\inR j side=true then(face*side+j)*side+i else -1
theorem cN_le{s f j:Int}(h1:1<=s)(h2:s<=32)(f1:0<=f)(f2:f<6)(j1:0<=j)(j2:j<s):(0<=f*s/\f*s<=192)/\(0<=(f*s+j)*s/\(f*s+j)*s<=7168):=by
 have a:f*s<=6*32:=Int.mul_le_mul (by omega) h2 (by omega) (by omega)
 have b:0<=f*s:=Int.mul_nonneg f1 (by omega)
 have c:(f*s+j)*s<=224*32:=Int.mul_le_mul (by omega) h2 (by omega) (by omega)
 have d:0<=(f*s+j)*s:=Int.mul_nonneg (by omega) (by omega)
 omega
theorem bK{k n:Int}:inR k n=true ↔ 0<=k/\k<n:=by simp[inR]
def pF(side c:Int):Int:=if inR c (clN side)=true then c/side/side else 0
def pI(side c:Int):Int:=if inR c (clN side)=true then c%side else 0
def pJ(side c:Int):Int:=if inR c (clN side)=true then c/side%side else 0
theorem clN_pos{s c:Int}(h:inR c (clN s)=true):(1<=s/\s<=32)/\0<=c/\c<6*s*s/\c<6144:=by
 have h:=bK.1 h
 unfold clN at h
 by_cases k:1<=s/\s<=32
 ·rw[if_pos k]at h
  have:=(sq_le k.1 k.2).1
  omega
 ·rw[if_neg k]at h;omega
theorem cell_at(side face i j:Int)(w:World):Calls prog 63 #[.int .i64 side,.int .i64 face,.int .i64 i,.int .i64 j] w fun e w'=>e=.returned (.int .i64 (cN side face i j))/\w'=w:=by
 have C:=hid (fun w=>iE side w)
 have K:=hid (fun k n w=>jB k n w)
 by_cases h1:1<=side/\side<=32
 ·have hc:clN side=6*side*side:=by simp[clN,h1]
  have hb:=(sq_le h1.1 h1.2).2
  have hs:=h1.1
  rw[hc]at C
  clear hc
  by_cases hf:inR face 6=true
  ·by_cases hi:inR i side=true
   ·by_cases hj:inR j side=true
    ·have hd:cN side face i j=(face*side+j)*side+i:=by simp only[cN];rw[if_pos ⟨h1,hf,hi,hj⟩]
     have hl:=cN_le h1.1 h1.2 (bK.1 hf).1 (bK.1 hf).2 (bK.1 hj).1 (bK.1 hj).2
     have hi2:=bK.1 hi
     have hf2:=bK.1 hf
     have hj2:=bK.1 hj
     rw[hd]
     clear hd
     go_enter func63,ntmps63
     go_wp2_with (first
      | (go_at_call 29;refine(C.out _).mono ?_;rintro e w' ⟨rfl,rfl⟩)
      | (go_at_call 62;refine(K.out _ _ _).mono ?_;rintro e w' ⟨rfl,rfl⟩))
     go_ret
     exact⟨rfl,rfl⟩
    ·have hd:cN side face i j= -1:=by simp only[cN];rw[if_neg (fun h=>hj h.2.2.2)]
     have hj2:inR j side=false:=by simpa using hj
     rw[hd]
     clear hd
     go_enter func63,ntmps63
     go_wp2_with (first
      | (go_at_call 29;refine(C.out _).mono ?_;rintro e w' ⟨rfl,rfl⟩)
      | (go_at_call 62;refine(K.out _ _ _).mono ?_;rintro e w' ⟨rfl,rfl⟩))
     go_ret
     exact⟨rfl,rfl⟩
   ·have hd:cN side face i j= -1:=by simp only[cN];rw[if_neg (fun h=>hi h.2.2.1)]
    have hi2:inR i side=false:=by simpa using hi
    rw[hd]
    clear hd
    go_enter func63,ntmps63
    go_wp2_with (first
     | (go_at_call 29;refine(C.out _).mono ?_;rintro e w' ⟨rfl,rfl⟩)
     | (go_at_call 62;refine(K.out _ _ _).mono ?_;rintro e w' ⟨rfl,rfl⟩))
    go_ret
    exact⟨rfl,rfl⟩
  ·have hd:cN side face i j= -1:=by simp only[cN];rw[if_neg (fun h=>hf h.2.1)]
   have hf2:inR face 6=false:=by simpa using hf
   rw[hd]
   clear hd
   go_enter func63,ntmps63
   go_wp2_with (first
    | (go_at_call 29;refine(C.out _).mono ?_;rintro e w' ⟨rfl,rfl⟩)
    | (go_at_call 62;refine(K.out _ _ _).mono ?_;rintro e w' ⟨rfl,rfl⟩))
   go_ret
   exact⟨rfl,rfl⟩
 ·have hd:cN side face i j= -1:=by simp only[cN];rw[if_neg (fun h=>h1 h.1)]
  have hc:clN side=0:=by simp only[clN];rw[if_neg h1]
  rw[hc]at C
  clear hc
  rw[hd]
  clear hd
  go_enter func63,ntmps63
  go_wp2_with (first
   | (go_at_call 29;refine(C.out _).mono ?_;rintro e w' ⟨rfl,rfl⟩)
   | (go_at_call 62;refine(K.out _ _ _).mono ?_;rintro e w' ⟨rfl,rfl⟩))
  go_ret
  exact⟨rfl,rfl⟩
theorem place_le{s c:Int}(h1:1<=s)(h2:0<=c):(0<=c/s/\c/s<=c)/\(0<=c/s/s/\c/s/s<=c)/\(0<=c%s/\c%s<s)/\(0<=c/s%s/\c/s%s<s):=by
 have a:0<=c/s:=Int.ediv_nonneg h2 (by omega)
 have b:c/s<=c:=Int.ediv_le_self _ h2
 have d:0<=c/s/s:=Int.ediv_nonneg a (by omega)
 have e:c/s/s<=c/s:=Int.ediv_le_self _ a
 have f:=Int.emod_nonneg c (show s≠0 by omega)
 have g:=Int.emod_lt_of_pos c (show 0<s by omega)
 have h:=Int.emod_nonneg (c/s) (show s≠0 by omega)
 have i:=Int.emod_lt_of_pos (c/s) (show 0<s by omega)
 omega
theorem td{a b:Int}(h:0<=a):a.tdiv b=a/b/\a.tmod b=a%b:=by
 exact⟨Int.tdiv_eq_ediv_of_nonneg h,Int.tmod_eq_emod_of_nonneg h⟩
theorem place_at(side c:Int)(w:World):Calls prog 47 #[.int .i64 side,.int .i64 c] w fun e w'=>e=.returned (.tuple #[.int .i64 (pF side c),.int .i64 (pI side c),.int .i64 (pJ side c),.bool (inR c (clN side))])/\ ∃k,w'=w.drewN k:=by
 have C:=hid (fun w=>iE side w)
 have K:=hid (fun w=>jB c (clN side) w)
 by_cases h1:inR c (clN side)=true
 ·obtain⟨⟨s1,s2⟩,c1,c2,c3⟩:=clN_pos h1
  have hp:=place_le s1 c1
  have e1:=td (b:=side) c1
  have e2:=td (b:=side) hp.1.1
  have E1:Hid (pF side c=(c.tdiv side).tdiv side):=by rw[e1.1,e2.1];simp[pF,h1,Hid]
  have E2:Hid (pI side c=c%side):=by simp[pI,h1,Hid]
  have E3:Hid (pJ side c=c.tdiv side%side):=by rw[e1.1];simp[pJ,h1,Hid]
  have E4:=hid h1
  rw[h1]at K
  have q2:0<=(c.tdiv side).tdiv side/\(c.tdiv side).tdiv side<=6144:=by rw[e1.1,e2.1];omega
  have q1:0<=c.tdiv side/\c.tdiv side<=6144:=by rw[e1.1];omega
  have hs: ¬side=0:=by omega
  clear e1 e2 hp h1 c2
  go_enter func47,ntmps47
  go_wp2_with (first
   | (go_at_call 29;refine(C.out _).mono ?_;rintro e w' ⟨rfl,rfl⟩)
   | (go_at_call 62;refine(K.out _).mono ?_;rintro e w' ⟨rfl,rfl⟩))
  go_quiet (fail)
  go_wp2
  refine bodyPost_ret (v:=.tuple #[.int .i64 ((c.tdiv side).tdiv side),.int .i64 (c%side),.int .i64 (c.tdiv side%side),.bool true]) (by simp[results,results47,go_sem]) rfl ⟨by rw[E1.out,E2.out,E3.out,E4.out],_,rfl⟩
 ·have h2:inR c (clN side)=false:=by simpa using h1
  rw[show pF side c=0 by simp[pF,h1],show pI side c=0 by simp[pI,h1],show pJ side c=0 by simp[pJ,h1],h2]
  rw[h2]at K
  clear h1 h2
  go_enter func47,ntmps47
  go_wp2_with (first
   | (go_at_call 29;refine(C.out _).mono ?_;rintro e w' ⟨rfl,rfl⟩)
   | (go_at_call 62;refine(K.out _).mono ?_;rintro e w' ⟨rfl,rfl⟩))
  refine bodyPost_ret (v:=.tuple #[.int .i64 0,.int .i64 0,.int .i64 0,.bool false]) (by simp[results,results47,go_sem]) rfl ⟨rfl,0,rfl⟩
end
section
open Go.RowKit Cu
theorem oP{n:Nat}(hn:1<=n/\n<=32):clN n=(6*n*n:Nat):=by
 unfold clN
 rw[if_pos (by omega)]
 simp
theorem place_ok(n c:Nat)(hn:1<=n/\n<=32)(hc:c<6*n*n)(w:World):
  Calls prog 47 #[.int .i64 n,.int .i64 c] w fun e w'=>e=.returned (.tuple #[.int .i64 (cf n c),.int .i64 (ci n c),.int .i64 (cj n c),.bool true])/\ ∃k,w'=w.drewN k:=by
 have h:=place_at n c w
 have hin:inR c (clN n)=true:=by rw[bK,oP hn];omega
 rw[hin,show pF n c=(cf n c:Nat)by simp[pF,hin,cf],show pI n c=(ci n c:Nat)by simp[pI,hin,ci],show pJ n c=(cj n c:Nat)by simp[pJ,hin,cj]]at h
 exact h
theorem cN_nat{n f i j:Nat}(hn:1<=n/\n<=32)(hf:f<6)(hi:i<n)(hj:j<n):cN n f i j=(nm n f i j:Nat):=by
 unfold cN
 rw[if_pos ⟨by omega,by rw[bK];omega,by rw[bK];omega,by rw[bK];omega⟩]
 simp[nm]
end
section
open Go.RowKit Tf Cu
attribute [local go_sem] aI aJ aQ aR aU aV aX aM
theorem bT{P:Program}{fn:Func}{p q:Tmp}{ty:TypeId}(h:fn.results= #[.cell p ty,.tmp q])(tmps:Array Value)(w:World)(g:Nat)(t:TypeId)(cs:Array Value)(fr:Nat × Nat)(d:TypeDesc)(v:Value)
  (hp:tmps.getD p undef=.pointer (some ⟨g,0,none⟩)) (hq:tmps.getD q undef=v) (hg:w.heap[g]? =some (.cells cs t fr))
  (hu:P.underlying ty=some d) (hd:(match d with | .struct _ | .array _ _=>true | _=>false)=true) (hi:(P.info? ty).map (·.size)=some cs.size):
  (results fn tmps).run P w=.ok (.tuple #[.agg cs,v]) w:=by
 have hp':tmps[p]?.getD undef=.pointer (some ⟨g,0,none⟩):=by simpa using hp
 have hq':tmps[q]?.getD undef=v:=by simpa using hq
 simp[results,h,hp',hq',asAddr,run_loadVar_row w g t ty cs fr d hg hu hd hi]
theorem part_at(k n:Int)(w:World):
  Calls prog 66 #[.int .i64 k,.int .i64 n] w fun e w'=> ∃r m,e=.returned (.float .f64 r)/\w'=w.drewN m/\Hid (IsC r (dvB (fB k) (fB n))):=by
 have F:Hid (∀(k:Int) w,Calls prog 35 #[.int .i64 k] w fun e w'=>e=.returned (.float .f64 (fB k))/\w'=w):=fun k w=>dX k w
 obtain⟨r,m,hr,hc⟩:=fJ (P:=prog) w (fB k) (fB n)
 have HC:=hid hc
 generalize dvB (fB k) (fB n)=d at*
 clear hc
 go_enter func66,ntmps66
 go_wp2_with (first
  | (go_at_call 35;refine(F.out _ _).mono ?_;rintro e w' ⟨rfl,rfl⟩))
 go_ret
 exact⟨r,m,rfl,rfl,HC⟩
theorem oQ(k n:Int)(w:World):
  Calls prog 64 #[.int .i64 k,.int .i64 n] w fun e w'=>e=.returned (.bool (decide (0<=k)&&decide (k<=n)))/\w'=w:=by
 by_cases h1:0<=k
 ·by_cases h2:k<=n
  ·rw[decide_eq_true h1,decide_eq_true h2]
   go_enter func64,ntmps64
   go_wp2
   go_ret
   exact⟨rfl,rfl⟩
  ·rw[decide_eq_true h1,decide_eq_false h2]
   go_enter func64,ntmps64
   go_wp2
   go_ret
   exact⟨rfl,rfl⟩
 ·rw[decide_eq_false h1,Bool.false_and]
  go_enter func64,ntmps64
  go_wp2
  go_ret
  exact⟨rfl,rfl⟩
def oc(f p q:Nat):Nat × Nat × Nat:=match f with
 | 0=>(4607182418800017408,p,q) | 1=>(negB p,4607182418800017408,q) | 2=>(13830554455654793216,negB p,q) | 3=>(p,13830554455654793216,q) | 4=>(negB q,p,4607182418800017408) | _=>(q,p,13830554455654793216)
theorem oc_lt{f p q:Nat}(hp:p<18446744073709551616)(hq:q<18446744073709551616):(oc f p q).1<18446744073709551616/\(oc f p q).2.1<18446744073709551616/\(oc f p q).2.2<18446744073709551616:=by
 have a:=dA hp
 have b:=dA hq
 unfold oc
 split<;>refine⟨?_,?_,?_⟩<;>dsimp only<;>first | assumption | omega
def fp(n f:Nat)(k h:Int):P3:=pl (sc n (cC f)) (pl (sc k (cR f)) (sc h (cU f)))
theorem cn_of{p d:Nat}(hp:IsC p d):canonB (negB p)=cn d:=by
 have h:=lR hp.1
 rw[hp.2]at h
 exact h.symm
theorem oc_fp{n f p q:Nat}{k h:Int}(n1:1<=n)(n2:n<=32)(hf:f<6)(hp:IsC p (qo n k))(hq:IsC q (qo n h)):
  canonB (oc f p q).1=qo n (fp n f k h).1/\canonB (oc f p q).2.1=qo n (fp n f k h).2.1/\canonB (oc f p q).2.2=qo n (fp n f k h).2.2:=by
 have e1:canonB 4607182418800017408=qo n n:=by rw[qo_one n (by omega) n1];decide
 have e2:canonB 13830554455654793216=qo n (-n):=by rw[nI n1 n2,qo_one n (by omega) n1];decide
 have e3:canonB (negB p)=qo n (-k):=by rw[nI n1 n2];exact cn_of hp
 have e4:canonB (negB q)=qo n (-h):=by rw[nI n1 n2];exact cn_of hq
 have e5:=hp.2
 have e6:=hq.2
 rcases six hf with rfl | rfl | rfl | rfl | rfl | rfl<;>simp only[oc,fp,pl,sc,cC,cR,cU,e1,e2,e3,e4,e5,e6]<;>refine⟨?_,?_,?_⟩<;>congr 1<;>omega
theorem qD(f p q:Nat)(w:World)(hf:f<6)(hp:p<18446744073709551616)(hq:q<18446744073709551616):
  Calls prog 72 #[.int .i64 f,.float .f64 p,.float .f64 q] w fun e w'=>e=.returned (.agg #[.float .f64 (oc f p q).1,.float .f64 (oc f p q).2.1,.float .f64 (oc f p q).2.2])/\Below w.heap.size w w':=by
 have n0:=gA p hp
 have n1:=gA q hq
 clear hp hq
 rcases six hf with rfl | rfl | rfl | rfl | rfl | rfl
 all_goals
  go_enter func72,ntmps72
  go_wp2
  refine bodyPost_ret ?_ rfl ⟨rfl,?_⟩
  ·exact results_cell_row results72 _ _ w.heap.size _ _ (0,0) _ rfl (heap_alloc_new w _) underlying72 rfl (by kernel_rfl)
  ·exact bl1 w _
theorem point_at(n f p q:Nat)(k h:Int)(w:World)(n1:1<=n)(n2:n<=32)(hf:f<6)(hp:IsC p (qo n k))(hq:IsC q (qo n h)):
  Calls prog 65 #[.int .i64 f,.float .f64 p,.float .f64 q] w fun e w'=>e=.returned (.agg #[.float .f64 (px n (fp n f k h)),.float .f64 (py n (fp n f k h)),.float .f64 (pz n (fp n f k h))])/\Below w.heap.size w w':=by
 obtain⟨c1,c2,c3⟩:=oc_fp n1 n2 hf hp hq
 obtain⟨l1,l2,l3⟩:=oc_lt (f:=f) hp.1 hq.1
 have OC:=hid (fun w=>qD f p q w hf hp.1 hq.1)
 have UN:=hid (fun w=>unit_at _ _ _ w (qo_lt n (fp n f k h).1) (qo_lt n (fp n f k h).2.1) (qo_lt n (fp n f k h).2.2))
 have T0:=hid (fun u0=>bO _ u0 l1)
 have T1:=hid (fun u0=>bO _ u0 l2)
 have T2:=hid (fun u0=>bO _ u0 l3)
 rw[c1]at T0
 rw[c2]at T1
 rw[c3]at T2
 have hux:unB (lnB (qo n (fp n f k h).1) (qo n (fp n f k h).2.1) (qo n (fp n f k h).2.2)) (qo n (fp n f k h).1)=px n (fp n f k h):=rfl
 have huy:unB (lnB (qo n (fp n f k h).1) (qo n (fp n f k h).2.1) (qo n (fp n f k h).2.2)) (qo n (fp n f k h).2.1)=py n (fp n f k h):=rfl
 have huz:unB (lnB (qo n (fp n f k h).1) (qo n (fp n f k h).2.1) (qo n (fp n f k h).2.2)) (qo n (fp n f k h).2.2)=pz n (fp n f k h):=rfl
 rw[hux,huy,huz]at UN
 clear hux huy huz c1 c2 c3 l1 l2 l3 hp hq n1 n2 hf
 generalize px n (fp n f k h)=a at*
 generalize py n (fp n f k h)=b at*
 generalize pz n (fp n f k h)=c at*
 generalize qo n (fp n f k h).1=d0 at*
 generalize qo n (fp n f k h).2.1=d1 at*
 generalize qo n (fp n f k h).2.2=d2 at*
 generalize(oc f p q).1=x at*
 generalize(oc f p q).2.1=y at*
 generalize(oc f p q).2.2=z at*
 have A0:=hid (bl1 w (.cells #[.float .f64 0,.float .f64 0,.float .f64 0] 72))
 have R0:=hid (heap_alloc_new w (.cells #[.float .f64 0,.float .f64 0,.float .f64 0] 72))
 go_enter func65,ntmps65
 go_wp2_with fail
 refine(OC.out _).mono ?_
 rintro e v ⟨rfl,b1⟩
 have A1:Hid (Ab w v):=Ab.call A0.out b1
 have R1:Hid (v.heap[w.heap.size]? =some (.cells #[.float .f64 0,.float .f64 0,.float .f64 0] 72)):=Ab.heap b1 R0.out
 have hlt:w.heap.size<v.heap.size:=by have:=b1.size;simp at this;omega
 clear b1 A0 R0 OC
 go_upto_region 2 with fail
 generalize hW:World.alloc _ _=W
 have AW:Hid (Ab w W):=by rw[<- hW];exact A1.out.call (bl1 _ _)
 have ra:W.heap[v.heap.size]? =some (.cells #[.float .f64 x,.float .f64 y,.float .f64 z] 72):=by rw[<- hW];exact heap_alloc_new _ _
 have rc:W.heap[w.heap.size]? =some (.cells #[.float .f64 0,.float .f64 0,.float .f64 0] 72):=by rw[<- hW,Below.heap_alloc _ _ _ hlt];exact R1.out
 have KS:Hid (∀w',Abx W w.heap.size 3 72 w'->Abx W w.heap.size 3 72 w'/\w'.cell? ⟨v.heap.size,0,none⟩=some (.float .f64 x)/\w'.cell? ⟨v.heap.size,1,none⟩=some (.float .f64 y)/\w'.cell? ⟨v.heap.size,2,none⟩=some (.float .f64 z)/\w'.frozen? ⟨w.heap.size,0,none⟩=false/\w'.frozen? ⟨w.heap.size,1,none⟩=false/\w'.frozen? ⟨w.heap.size,2,none⟩=false/\w'.cell? ⟨w.heap.size,0,none⟩=some (rv w' (w.heap.size) 0)/\w'.cell? ⟨w.heap.size,1,none⟩=some (rv w' (w.heap.size) 1)/\w'.cell? ⟨w.heap.size,2,none⟩=some (rv w' (w.heap.size) 2)):=by
  intro w' hw
  obtain⟨-,p3,p4,p5⟩:=rowfacts (hw.heap (by omega) ra)
  exact⟨hw,p3,p4,p5,hw.free 0,hw.free 1,hw.free 2,hw.some (by omega),hw.some (by omega),hw.some (by omega)⟩
 have A3:Abx W w.heap.size 3 72 W:=(Ab.refl W).x rfl rc
 clear ra rc hW A1 R1
 go_region_held3 (fun w'=>Abx W w.heap.size 3 72 w'/\w'.cell? ⟨v.heap.size,0,none⟩=some (.float .f64 x)/\w'.cell? ⟨v.heap.size,1,none⟩=some (.float .f64 y)/\w'.cell? ⟨v.heap.size,2,none⟩=some (.float .f64 z)/\w'.frozen? ⟨w.heap.size,0,none⟩=false/\w'.frozen? ⟨w.heap.size,1,none⟩=false/\w'.frozen? ⟨w.heap.size,2,none⟩=false/\w'.cell? ⟨w.heap.size,0,none⟩=some (rv w' (w.heap.size) 0)/\w'.cell? ⟨w.heap.size,1,none⟩=some (rv w' (w.heap.size) 1)/\w'.cell? ⟨w.heap.size,2,none⟩=some (rv w' (w.heap.size) 2)) ((refine KS.out _ ?_;(with_reducible (repeat(first | assumption | apply Abx.drew | apply Abx.drewN | apply Abx.set | (refine Abx.call ?_ (by assumption)))));done)) (first
  | (go_at_call_of 42 x;refine(T0.out _).mono ?_;rintro e w1 ⟨rfl,rfl⟩)
  | (go_at_call_of 42 y;refine(T1.out _).mono ?_;rintro e w2 ⟨rfl,rfl⟩)
  | (go_at_call_of 42 z;refine(T2.out _).mono ?_;rintro e w3 ⟨rfl,rfl⟩)
  | (go_at_call 73;refine(UN.out _).mono ?_;rintro e w4 ⟨rfl,b4⟩))
 have A2:Abx W w.heap.size 3 72 w4:=Abx.call (A3.drew) b4
 clear KS A3 b4
 go_wp2
 refine bodyPost_ret ?_ rfl ⟨rfl,?_⟩
 ·exact results_cell_row results65 _ _ (w.heap.size) _ _ (0,0) _ rfl (set3 A2) underlying72 rfl (by kernel_rfl)
 ·exact(((A2.set 0 _).set 1 _).set 2 _).ab AW.out (by omega)
theorem eF(n f i j:Nat)(w:World)(hn:1<=n/\n<=32)(hf:f<6)(hi:i<=n)(hj:j<=n):
  Calls prog 48 #[.int .i64 n,.int .i64 f,.int .i64 i,.int .i64 j] w fun e w'=>e=.returned (.tuple #[.agg #[.float .f64 (px n (cr n f i j)),.float .f64 (py n (cr n f i j)),.float .f64 (pz n (cr n f i j))],.bool true])/\Below w.heap.size w w':=by
 have CE:Hid (∀u,Calls prog 63 #[.int .i64 n,.int .i64 f,.int .i64 0,.int .i64 0] u fun e w'=>e=.returned (.int .i64 (nm n f 0 0:Nat))/\w'=u):=fun u=>by
  have h:=cell_at n f 0 0 u
  rw[show(0:Int)=((0:Nat):Int)from rfl,cN_nat hn hf (by omega) (by omega)]at h
  exact h
 have U1:Hid (∀u,Calls prog 64 #[.int .i64 i,.int .i64 n] u fun e w'=>e=.returned (.bool true)/\w'=u):=fun u=>by
  have h:=oQ i n u
  rw[decide_eq_true (show(0:Int)<=i by omega),decide_eq_true (show(i:Int)<=n by omega)]at h
  exact h
 have U2:Hid (∀u,Calls prog 64 #[.int .i64 j,.int .i64 n] u fun e w'=>e=.returned (.bool true)/\w'=u):=fun u=>by
  have h:=oQ j n u
  rw[decide_eq_true (show(0:Int)<=j by omega),decide_eq_true (show(j:Int)<=n by omega)]at h
  exact h
 have PA:Hid (∀(k:Int) u,Calls prog 66 #[.int .i64 k,.int .i64 n] u fun e w'=> ∃r m,e=.returned (.float .f64 r)/\w'=u.drewN m/\Hid (IsC r (qo n k))):=fun k u=>part_at k n u
 have PO:Hid (∀p q u,Hid (IsC p (qo n (2*i - n)))->Hid (IsC q (qo n (2*j - n)))->Calls prog 65 #[.int .i64 f,.float .f64 p,.float .f64 q] u fun e w'=>e=.returned (.agg #[.float .f64 (px n (cr n f i j)),.float .f64 (py n (cr n f i j)),.float .f64 (pz n (cr n f i j))])/\Below u.heap.size u w'):=fun p q u hp hq=>point_at n f p q _ _ u hn.1 hn.2 hf hp hq
 generalize px n (cr n f i j)=a at*
 generalize py n (cr n f i j)=b at*
 generalize pz n (cr n f i j)=c at*
 have A0:=hid (bl1 w (.cells #[.float .f64 0,.float .f64 0,.float .f64 0] 72))
 have R0:=hid (heap_alloc_new w (.cells #[.float .f64 0,.float .f64 0,.float .f64 0] 72))
 have hnm:nm n f 0 0<6*n*n:=nm_lt hf (by omega) (by omega)
 have hpos:(0:Int)<=(nm n f 0 0:Nat):=by omega
 generalize((nm n f 0 0:Nat):Int)=nn at*
 have hi2:(i:Int)<=32:=by omega
 have hj2:(j:Int)<=32:=by omega
 have hn2:(n:Int)<=32:=by omega
 clear hnm hn hf hi hj
 go_enter func48,ntmps48
 go_wp2_with (first
  | (go_at_call 63;refine(CE.out _).mono ?_;rintro e w' ⟨rfl,rfl⟩)
  | (go_at_call_of 64 (i:Int);refine(U1.out _).mono ?_;rintro e w' ⟨rfl,rfl⟩)
  | (go_at_call_of 64 (j:Int);refine(U2.out _).mono ?_;rintro e w' ⟨rfl,rfl⟩))
 refine(PA.out _ _).mono ?_
 rintro e w1 ⟨p,m1,rfl,rfl,hp⟩
 go_wp2_with fail
 refine(PA.out _ _).mono ?_
 rintro e w1 ⟨q,m2,rfl,rfl,hq⟩
 go_wp2_with fail
 refine(PO.out _ _ _ hp hq).mono ?_
 rintro e w3 ⟨rfl,b3⟩
 have A3:Hid (Ab w w3):=Ab.call (Ab.drewN A0.out _) b3
 have r0:w3.heap[w.heap.size]? =some (.cells #[.float .f64 0,.float .f64 0,.float .f64 0] 72):=Ab.heap b3 R0.out
 obtain⟨⟨o0,o1,o2⟩,o3,o4,o5⟩:=rowfacts r0
 have R3:=hid r0
 clear r0 b3 A0 R0
 go_wp2
 refine bodyPost_ret ?_ rfl ⟨rfl,?_⟩
 ·exact bT results48 _ _ w.heap.size _ _ (0,0) _ _ rfl rfl (row3 R3.out) underlying72 rfl (by kernel_rfl)
 ·exact((Ab.setk A3.out (by omega) _).setk (by omega) _).setk (by omega) _
end
section
open Go.RowKit Tf Cu
attribute [local go_sem] aI aJ aQ aR aU aV aX aM
theorem eG{w:World}{g:Nat}{v0 v1 v2 v3 v4 v5 v6 v7 v8 v9 v10 v11:Value}{T:TypeId}(r:w.heap[g]? =some (.cells #[v0,v1,v2,v3,v4,v5,v6,v7,v8,v9,v10,v11] T)):
  w.cell? ⟨g,0,none⟩=some v0/\w.cell? ⟨g,1,none⟩=some v1/\w.cell? ⟨g,2,none⟩=some v2/\w.cell? ⟨g,3,none⟩=some v3/\w.cell? ⟨g,4,none⟩=some v4/\w.cell? ⟨g,5,none⟩=some v5/\w.cell? ⟨g,6,none⟩=some v6/\w.cell? ⟨g,7,none⟩=some v7/\w.cell? ⟨g,8,none⟩=some v8/\w.cell? ⟨g,9,none⟩=some v9/\w.cell? ⟨g,10,none⟩=some v10/\w.cell? ⟨g,11,none⟩=some v11:=
 ⟨aA 0 r,aA 1 r,aA 2 r,aA 3 r,aA 4 r,aA 5 r,aA 6 r,aA 7 r,aA 8 r,aA 9 r,aA 10 r,aA 11 r⟩
theorem iG{w:World}{g:Nat}{v0 v1 v2 v3 v4 v5 v6 v7 v8 v9 v10 v11:Value}{T:TypeId}(r:w.heap[g]? =some (.cells #[v0,v1,v2,v3,v4,v5,v6,v7,v8,v9,v10,v11] T)):
  w.frozen? ⟨g,0,none⟩=false/\w.frozen? ⟨g,1,none⟩=false/\w.frozen? ⟨g,2,none⟩=false/\w.frozen? ⟨g,3,none⟩=false/\w.frozen? ⟨g,4,none⟩=false/\w.frozen? ⟨g,5,none⟩=false/\w.frozen? ⟨g,6,none⟩=false/\w.frozen? ⟨g,7,none⟩=false/\w.frozen? ⟨g,8,none⟩=false/\w.frozen? ⟨g,9,none⟩=false/\w.frozen? ⟨g,10,none⟩=false/\w.frozen? ⟨g,11,none⟩=false:=
 ⟨aC r 0,aC r 1,aC r 2,aC r 3,aC r 4,aC r 5,aC r 6,aC r 7,aC r 8,aC r 9,aC r 10,aC r 11⟩
theorem oS{w:World}{g:Nat}{v0 v1 v2 v3 v4 v5 v6 v7 v8 v9 v10 v11 x y z:Value}{T:TypeId}(h:w.heap[g]? =some (.cells #[v0,v1,v2,v3,v4,v5,v6,v7,v8,v9,v10,v11] T)):
  (((w.setCell ⟨g,0,none⟩ x).setCell ⟨g,1,none⟩ y).setCell ⟨g,2,none⟩ z).heap[g]? =some (.cells #[x,y,z,v3,v4,v5,v6,v7,v8,v9,v10,v11] T):=by
 have h1:=aH (v:=x) (k:=0) h
 have h2:=aH (v:=y) (k:=1) h1
 have h3:=aH (v:=z) (k:=2) h2
 simpa using h3
theorem oT{w:World}{g:Nat}{v0 v1 v2 v3 v4 v5 v6 v7 v8 v9 v10 v11 x y z:Value}{T:TypeId}(h:w.heap[g]? =some (.cells #[v0,v1,v2,v3,v4,v5,v6,v7,v8,v9,v10,v11] T)):
  (((w.setCell ⟨g,3,none⟩ x).setCell ⟨g,4,none⟩ y).setCell ⟨g,5,none⟩ z).heap[g]? =some (.cells #[v0,v1,v2,x,y,z,v6,v7,v8,v9,v10,v11] T):=by
 have h1:=aH (v:=x) (k:=3) h
 have h2:=aH (v:=y) (k:=4) h1
 have h3:=aH (v:=z) (k:=5) h2
 simpa using h3
theorem oU{w:World}{g:Nat}{v0 v1 v2 v3 v4 v5 v6 v7 v8 v9 v10 v11 x y z:Value}{T:TypeId}(h:w.heap[g]? =some (.cells #[v0,v1,v2,v3,v4,v5,v6,v7,v8,v9,v10,v11] T)):
  (((w.setCell ⟨g,6,none⟩ x).setCell ⟨g,7,none⟩ y).setCell ⟨g,8,none⟩ z).heap[g]? =some (.cells #[v0,v1,v2,v3,v4,v5,x,y,z,v9,v10,v11] T):=by
 have h1:=aH (v:=x) (k:=6) h
 have h2:=aH (v:=y) (k:=7) h1
 have h3:=aH (v:=z) (k:=8) h2
 simpa using h3
theorem oV{w:World}{g:Nat}{v0 v1 v2 v3 v4 v5 v6 v7 v8 v9 v10 v11 x y z:Value}{T:TypeId}(h:w.heap[g]? =some (.cells #[v0,v1,v2,v3,v4,v5,v6,v7,v8,v9,v10,v11] T)):
  (((w.setCell ⟨g,9,none⟩ x).setCell ⟨g,10,none⟩ y).setCell ⟨g,11,none⟩ z).heap[g]? =some (.cells #[v0,v1,v2,v3,v4,v5,v6,v7,v8,x,y,z] T):=by
 have h1:=aH (v:=x) (k:=9) h
 have h2:=aH (v:=y) (k:=10) h1
 have h3:=aH (v:=z) (k:=11) h2
 simpa using h3
theorem kD{w:World}{g h a b c:Nat}{x y z:Value}{o:Obj}(hne:h≠g)(hh:w.heap[h]? =some o):(((w.setCell ⟨g,a,none⟩ x).setCell ⟨g,b,none⟩ y).setCell ⟨g,c,none⟩ z).heap[h]? =some o:=by
 rw[Below.heap_setCell _ _ _ _ hne,Below.heap_setCell _ _ _ _ hne,Below.heap_setCell _ _ _ _ hne];exact hh
theorem nJ(n c:Nat)(w:World)(hn:1<=n/\n<=32)(hc:c<6*n*n):
  Calls prog 36 #[.int .i64 n,.int .i64 c] w fun e w'=>e=.returned (.tuple #[.agg #[.float .f64 (px n (cr n (cf n c) (ci n c) (cj n c))),.float .f64 (py n (cr n (cf n c) (ci n c) (cj n c))),.float .f64 (pz n (cr n (cf n c) (ci n c) (cj n c))),.float .f64 (px n (cr n (cf n c) (ci n c+1) (cj n c))),.float .f64 (py n (cr n (cf n c) (ci n c+1) (cj n c))),.float .f64 (pz n (cr n (cf n c) (ci n c+1) (cj n c))),.float .f64 (px n (cr n (cf n c) (ci n c+1) (cj n c+1))),.float .f64 (py n (cr n (cf n c) (ci n c+1) (cj n c+1))),.float .f64 (pz n (cr n (cf n c) (ci n c+1) (cj n c+1))),.float .f64 (px n (cr n (cf n c) (ci n c) (cj n c+1))),.float .f64 (py n (cr n (cf n c) (ci n c) (cj n c+1))),.float .f64 (pz n (cr n (cf n c) (ci n c) (cj n c+1)))],.bool true])/\Below w.heap.size w w':=by
 obtain⟨h1,h2,h3,-⟩:=dec_lt hn.1 hc
 have PL:=hid (fun u=>place_ok n c hn hc u)
 have K0:Hid (∀u,Calls prog 48 #[.int .i64 n,.int .i64 (cf n c:Nat),.int .i64 (ci n c:Nat),.int .i64 (cj n c:Nat)] u fun e w'=>e=.returned (.tuple #[.agg #[.float .f64 (px n (cr n (cf n c) (ci n c) (cj n c))),.float .f64 (py n (cr n (cf n c) (ci n c) (cj n c))),.float .f64 (pz n (cr n (cf n c) (ci n c) (cj n c)))],.bool true])/\Below u.heap.size u w'):=fun u=>eF n (cf n c) (ci n c) (cj n c) u hn h1 (by omega) (by omega)
 have K1:Hid (∀u,Calls prog 48 #[.int .i64 n,.int .i64 (cf n c:Nat),.int .i64 ((ci n c:Nat)+1),.int .i64 (cj n c:Nat)] u fun e w'=>e=.returned (.tuple #[.agg #[.float .f64 (px n (cr n (cf n c) (ci n c+1) (cj n c))),.float .f64 (py n (cr n (cf n c) (ci n c+1) (cj n c))),.float .f64 (pz n (cr n (cf n c) (ci n c+1) (cj n c)))],.bool true])/\Below u.heap.size u w'):=fun u=>eF n (cf n c) (ci n c+1) (cj n c) u hn h1 (by omega) (by omega)
 have K2:Hid (∀u,Calls prog 48 #[.int .i64 n,.int .i64 (cf n c:Nat),.int .i64 ((ci n c:Nat)+1),.int .i64 ((cj n c:Nat)+1)] u fun e w'=>e=.returned (.tuple #[.agg #[.float .f64 (px n (cr n (cf n c) (ci n c+1) (cj n c+1))),.float .f64 (py n (cr n (cf n c) (ci n c+1) (cj n c+1))),.float .f64 (pz n (cr n (cf n c) (ci n c+1) (cj n c+1)))],.bool true])/\Below u.heap.size u w'):=fun u=>eF n (cf n c) (ci n c+1) (cj n c+1) u hn h1 (by omega) (by omega)
 have K3:Hid (∀u,Calls prog 48 #[.int .i64 n,.int .i64 (cf n c:Nat),.int .i64 (ci n c:Nat),.int .i64 ((cj n c:Nat)+1)] u fun e w'=>e=.returned (.tuple #[.agg #[.float .f64 (px n (cr n (cf n c) (ci n c) (cj n c+1))),.float .f64 (py n (cr n (cf n c) (ci n c) (cj n c+1))),.float .f64 (pz n (cr n (cf n c) (ci n c) (cj n c+1)))],.bool true])/\Below u.heap.size u w'):=fun u=>eF n (cf n c) (ci n c) (cj n c+1) u hn h1 (by omega) (by omega)
 generalize px n (cr n (cf n c) (ci n c) (cj n c))=a0 at*
 generalize py n (cr n (cf n c) (ci n c) (cj n c))=b0 at*
 generalize pz n (cr n (cf n c) (ci n c) (cj n c))=d0 at*
 generalize px n (cr n (cf n c) (ci n c+1) (cj n c))=a1 at*
 generalize py n (cr n (cf n c) (ci n c+1) (cj n c))=b1 at*
 generalize pz n (cr n (cf n c) (ci n c+1) (cj n c))=d1 at*
 generalize px n (cr n (cf n c) (ci n c+1) (cj n c+1))=a2 at*
 generalize py n (cr n (cf n c) (ci n c+1) (cj n c+1))=b2 at*
 generalize pz n (cr n (cf n c) (ci n c+1) (cj n c+1))=d2 at*
 generalize px n (cr n (cf n c) (ci n c) (cj n c+1))=a3 at*
 generalize py n (cr n (cf n c) (ci n c) (cj n c+1))=b3 at*
 generalize pz n (cr n (cf n c) (ci n c) (cj n c+1))=d3 at*
 have hi:((ci n c:Nat):Int)<=32:=by omega
 have hj:((cj n c:Nat):Int)<=32:=by omega
 generalize cf n c=f at*
 generalize ci n c=i at*
 generalize cj n c=j at*
 clear hn hc h1 h2 h3
 have A0:=hid (bl2 w (.cells #[.float .f64 0,.float .f64 0,.float .f64 0,.float .f64 0,.float .f64 0,.float .f64 0,.float .f64 0,.float .f64 0,.float .f64 0,.float .f64 0,.float .f64 0,.float .f64 0] 73) (.cells #[.float .f64 0,.float .f64 0,.float .f64 0,.float .f64 0,.float .f64 0,.float .f64 0,.float .f64 0,.float .f64 0,.float .f64 0,.float .f64 0,.float .f64 0,.float .f64 0] 73))
 have R0:=hid (And.intro (heap_alloc2_old w (.cells #[.float .f64 0,.float .f64 0,.float .f64 0,.float .f64 0,.float .f64 0,.float .f64 0,.float .f64 0,.float .f64 0,.float .f64 0,.float .f64 0,.float .f64 0,.float .f64 0] 73) (.cells #[.float .f64 0,.float .f64 0,.float .f64 0,.float .f64 0,.float .f64 0,.float .f64 0,.float .f64 0,.float .f64 0,.float .f64 0,.float .f64 0,.float .f64 0,.float .f64 0] 73)) (heap_alloc2_new w (.cells #[.float .f64 0,.float .f64 0,.float .f64 0,.float .f64 0,.float .f64 0,.float .f64 0,.float .f64 0,.float .f64 0,.float .f64 0,.float .f64 0,.float .f64 0,.float .f64 0] 73) (.cells #[.float .f64 0,.float .f64 0,.float .f64 0,.float .f64 0,.float .f64 0,.float .f64 0,.float .f64 0,.float .f64 0,.float .f64 0,.float .f64 0,.float .f64 0,.float .f64 0] 73)))
 go_enter func36,ntmps36
 go_wp2_with fail
 refine(PL.out _).mono ?_
 rintro e w1 ⟨rfl,m0,rfl⟩
 go_wp2_with fail
 refine(K0.out _).mono ?_
 rintro e u0 ⟨rfl,b0⟩
 have B0:Hid (Ab w u0):=Ab.call (Ab.drewN A0.out _) b0
 have G0:Hid (u0.heap[w.heap.size]? =some (.cells #[.float .f64 0,.float .f64 0,.float .f64 0,.float .f64 0,.float .f64 0,.float .f64 0,.float .f64 0,.float .f64 0,.float .f64 0,.float .f64 0,.float .f64 0,.float .f64 0] 73)):=Ab.heap b0 R0.out.1
 have H0:Hid (u0.heap[w.heap.size+1]? =some (.cells #[.float .f64 0,.float .f64 0,.float .f64 0,.float .f64 0,.float .f64 0,.float .f64 0,.float .f64 0,.float .f64 0,.float .f64 0,.float .f64 0,.float .f64 0,.float .f64 0] 73)):=Ab.heap b0 R0.out.2
 clear A0 R0 b0
 obtain⟨q0,q1,q2,q3,q4,q5,q6,q7,q8,q9,q10,q11⟩:=eG H0.out
 obtain⟨o0,o1,o2,o3,o4,o5,o6,o7,o8,o9,o10,o11⟩:=iG H0.out
 clear q3 o3 q4 o4 q5 o5 q6 o6 q7 o7 q8 o8 q9 o9 q10 o10 q11 o11
 go_wp2_with fail
 refine(K1.out _).mono ?_
 rintro e u1 ⟨rfl,b1⟩
 have B1:Hid (Ab w u1):=Ab.call (((Ab.setk B0.out (by omega) _).setk (by omega) _).setk (by omega) _) b1
 have G1:Hid (u1.heap[w.heap.size]? =some (.cells #[.float .f64 0,.float .f64 0,.float .f64 0,.float .f64 0,.float .f64 0,.float .f64 0,.float .f64 0,.float .f64 0,.float .f64 0,.float .f64 0,.float .f64 0,.float .f64 0] 73)):=Ab.heap b1 (kD (by omega) G0.out)
 have H1:Hid (u1.heap[w.heap.size+1]? =some (.cells #[.float .f64 a0,.float .f64 b0,.float .f64 d0,.float .f64 0,.float .f64 0,.float .f64 0,.float .f64 0,.float .f64 0,.float .f64 0,.float .f64 0,.float .f64 0,.float .f64 0] 73)):=Ab.heap b1 (oS H0.out)
 clear b1 B0 G0 H0 q0 o0 q1 o1 q2 o2
 obtain⟨q0,q1,q2,q3,q4,q5,q6,q7,q8,q9,q10,q11⟩:=eG H1.out
 obtain⟨o0,o1,o2,o3,o4,o5,o6,o7,o8,o9,o10,o11⟩:=iG H1.out
 clear q0 o0 q1 o1 q2 o2 q6 o6 q7 o7 q8 o8 q9 o9 q10 o10 q11 o11
 go_wp2_with fail
 refine(K2.out _).mono ?_
 rintro e u2 ⟨rfl,b2⟩
 have B2:Hid (Ab w u2):=Ab.call (((Ab.setk B1.out (by omega) _).setk (by omega) _).setk (by omega) _) b2
 have G2:Hid (u2.heap[w.heap.size]? =some (.cells #[.float .f64 0,.float .f64 0,.float .f64 0,.float .f64 0,.float .f64 0,.float .f64 0,.float .f64 0,.float .f64 0,.float .f64 0,.float .f64 0,.float .f64 0,.float .f64 0] 73)):=Ab.heap b2 (kD (by omega) G1.out)
 have H2:Hid (u2.heap[w.heap.size+1]? =some (.cells #[.float .f64 a0,.float .f64 b0,.float .f64 d0,.float .f64 a1,.float .f64 b1,.float .f64 d1,.float .f64 0,.float .f64 0,.float .f64 0,.float .f64 0,.float .f64 0,.float .f64 0] 73)):=Ab.heap b2 (oT H1.out)
 clear b2 B1 G1 H1 q3 o3 q4 o4 q5 o5
 obtain⟨q0,q1,q2,q3,q4,q5,q6,q7,q8,q9,q10,q11⟩:=eG H2.out
 obtain⟨o0,o1,o2,o3,o4,o5,o6,o7,o8,o9,o10,o11⟩:=iG H2.out
 clear q0 o0 q1 o1 q2 o2 q3 o3 q4 o4 q5 o5 q9 o9 q10 o10 q11 o11
 go_wp2_with fail
 refine(K3.out _).mono ?_
 rintro e u3 ⟨rfl,b3⟩
 have B3:Hid (Ab w u3):=Ab.call (((Ab.setk B2.out (by omega) _).setk (by omega) _).setk (by omega) _) b3
 have G3:Hid (u3.heap[w.heap.size]? =some (.cells #[.float .f64 0,.float .f64 0,.float .f64 0,.float .f64 0,.float .f64 0,.float .f64 0,.float .f64 0,.float .f64 0,.float .f64 0,.float .f64 0,.float .f64 0,.float .f64 0] 73)):=Ab.heap b3 (kD (by omega) G2.out)
 have H3:Hid (u3.heap[w.heap.size+1]? =some (.cells #[.float .f64 a0,.float .f64 b0,.float .f64 d0,.float .f64 a1,.float .f64 b1,.float .f64 d1,.float .f64 a2,.float .f64 b2,.float .f64 d2,.float .f64 0,.float .f64 0,.float .f64 0] 73)):=Ab.heap b3 (oU H2.out)
 clear b3 B2 G2 H2 q6 o6 q7 o7 q8 o8
 obtain⟨q0,q1,q2,q3,q4,q5,q6,q7,q8,q9,q10,q11⟩:=eG H3.out
 obtain⟨o0,o1,o2,o3,o4,o5,o6,o7,o8,o9,o10,o11⟩:=iG H3.out
 clear q0 o0 q1 o1 q2 o2 q3 o3 q4 o4 q5 o5 q6 o6 q7 o7 q8 o8
 go_upto_region 9 with fail
 generalize hW:World.setCell _ _ _=W
 have BW:Hid (Ab w W):=by rw[<- hW];exact((Ab.setk B3.out (by omega) _).setk (by omega) _).setk (by omega) _
 have GW:Hid (W.heap[w.heap.size]? =some (.cells #[.float .f64 0,.float .f64 0,.float .f64 0,.float .f64 0,.float .f64 0,.float .f64 0,.float .f64 0,.float .f64 0,.float .f64 0,.float .f64 0,.float .f64 0,.float .f64 0] 73)):=by rw[<- hW];exact kD (by omega) G3.out
 have HW:Hid (W.heap[w.heap.size+1]? =some (.cells #[.float .f64 a0,.float .f64 b0,.float .f64 d0,.float .f64 a1,.float .f64 b1,.float .f64 d1,.float .f64 a2,.float .f64 b2,.float .f64 d2,.float .f64 a3,.float .f64 b3,.float .f64 d3] 73)):=by rw[<- hW];exact oV H3.out
 clear hW B3 G3 H3 q9 o9 q10 o10 q11 o11
 obtain⟨q0,q1,q2,q3,q4,q5,q6,q7,q8,q9,q10,q11⟩:=eG HW.out
 obtain⟨o0,o1,o2,o3,o4,o5,o6,o7,o8,o9,o10,o11⟩:=iG GW.out
 obtain⟨z0,z1,z2,z3,z4,z5,z6,z7,z8,z9,z10,z11⟩:=eG GW.out
 go_wp2
 refine bodyPost_ret ?_ rfl ⟨rfl,?_⟩
 ·exact bT results36 _ _ w.heap.size _ _ (0,0) _ _ rfl rfl (oV (oU (oT (oS GW.out)))) underlying73 rfl (by kernel_rfl)
 ·exact(((((((((((Ab.setk BW.out (by omega) _).setk (by omega) _).setk (by omega) _).setk (by omega) _).setk (by omega) _).setk (by omega) _).setk (by omega) _).setk (by omega) _).setk (by omega) _).setk (by omega) _).setk (by omega) _).setk (by omega) _
end
end Go.Proofs.Ytdeammhdedcjlaa
