/-
  Some of the texts of this proof, one behind the other.
-/
import Derived.Deep.Draws
import Derived.Deep.RegionHeld3
import Derived.Test.YtjheiemgfibgpaaGreatDoorUb03
set_option maxRecDepth 100000
set_option maxHeartbeats 400000000
namespace Go.Proofs.YtjheiemgfibgpaaGreatDoor
open _root_.Go.Proofs.Tryz
section
open Tf Ieee Cu
def cn(x:Nat):Nat:=canonB (negB x)
theorem aZ{x:Nat}(_:x<18446744073709551616):(isN x=true/\canonB x=quiet)\/(mg x=0/\canonB x=0)\/(isN x=false/\mg x≠0/\canonB x=x):=by
 unfold canonB
 cases h:isN x
 ·by_cases c:mg x=0
  ·exact .inr (.inl ⟨c,by simp[c]⟩)
  ·exact .inr (.inr ⟨rfl,c,by simp[c]⟩)
 ·exact .inl ⟨rfl,by simp⟩
theorem jS{x:Nat}(hx:x<18446744073709551616):cn (canonB x)=cn x:=by
 have h1:=jN hx
 have h2:=lS hx
 rcases aZ hx with⟨h,e⟩ | ⟨h,e⟩ | ⟨h,k,e⟩
 ·rw[e];unfold cn canonB;rw[h1,h,if_pos rfl];decide
 ·rw[e];unfold cn
  have:canonB (negB x)=0:=by
   rcases aZ (bT hx)with⟨a,b⟩ | ⟨a,b⟩ | ⟨a,a',b⟩
   ·rw[h1]at a;unfold isN at a;rw[h]at a;simp at a
   ·exact b
   ·rw[h2]at a';exact absurd h a'
  rw[this];decide
 ·rw[e]
theorem mgc{x:Nat}(hx:x<18446744073709551616)(h:isN x=false):mg (canonB x)=mg x/\sv (canonB x)=sv x:=by
 rcases aZ hx with⟨a,e⟩ | ⟨a,e⟩ | ⟨a,k,e⟩
 ·rw[h]at a;cases a
 ·rw[e]
  refine⟨by rw[a];decide,?_⟩
  unfold sv
  rw[a]
  have h0:mg 0=0:=by decide
  have h1:mv 0=0:=by decide
  rw[h0,h1];cases ng x<;>cases ng 0<;>rfl
 ·rw[e];exact⟨rfl,rfl⟩
theorem yK{x:Nat}(hx:x<18446744073709551616)(h:mg x=9218868437227405312):canonB x=x:=by
 rcases aZ hx with⟨a,e⟩ | ⟨a,e⟩ | ⟨a,k,e⟩
 ·unfold isN at a;rw[h]at a;simp at a
 ·omega
 ·exact e
theorem yL{x:Nat}(h:isN x=true):isN (canonB x)=true:=by unfold canonB;rw[h,if_pos rfl];decide
theorem iX{a b:Nat}(ha:a<18446744073709551616)(hb:b<18446744073709551616):addB (canonB a) b=addB a b:=by
 rcases three a with h | h | h
 ·have hN:isN a=false:=by unfold isN;rw[decide_eq_false (by omega)]
  obtain⟨m,s⟩:=mgc ha hN
  rcases three b with k | k | k
  ·rw[eV a b ha hb h k,eV _ b (dG ha) hb (by rw[m];exact h) k,s]
  ·rw[bE (gP a b hb h k),bE (gP _ b hb (by rw[m];exact h) k)]
  ·rw[aW (bM a b (.inr k)),aW (bM _ b (.inr k))]
 ·rw[yK ha h]
 ·rw[aW (bM a b (.inl h)),aW (bM _ b (.inl (yL h)))]
theorem iC{a b:Nat}(ha:a<18446744073709551616)(hb:b<18446744073709551616):sbB (canonB a) (canonB b)=sbB a b:=by
 unfold sbB
 rw[iX ha (bT (dG hb)),oO _ _ ha (bT (dG hb)),<- iX (bT (dG hb)) ha]
 have e:canonB (negB (canonB b))=canonB (negB b):=jS hb
 rw[e,iX (bT hb) ha,oO _ _ (bT hb) ha]
theorem sC(s:Bool)(m:Nat)(p:Int):double.nearest (!s) m p=negB (double.nearest s m p):=by
 have hw: ∀(s:Bool) r,r<9223372036854775808->double.word (!s) r=negB (double.word s r):=by
  intro s r hr
  rw[eA,eA]
  cases s
  ·simp only[Bool.not_false,if_true,Bool.false_eq_true,if_false]
   unfold negB;rw[bI hr];simp;omega
  ·simp only[Bool.not_true,if_true,Bool.false_eq_true,if_false]
   unfold negB;rw[mY (by omega)];simp
 unfold Format.nearest
 by_cases c:m=0
 ·rw[if_pos c,if_pos c];exact hw s 0 (by omega)
 ·rw[if_neg c,if_neg c]
  have hm: ∀x,min x double.infRung<9223372036854775808:=fun x=>by
   have:=Nat.min_le_right x double.infRung
   rw[bO]at this ⊢;omega
  exact hw s _ (hm _)
theorem yM(d:Datum)(h: ∀s t,d≠ .nan s t):double.write d.opposite=negB (double.write d):=by
 cases d with
 | number s m i=>exact sC s m i
 | infinity s=>cases s<;>decide+kernel
 | nan s t=>exact absurd rfl (h s t)
theorem wB(d e:Datum):d.opposite.product e=(d.product e).map Datum.opposite/\(∀s t,d.product e≠some (.nan s t)):=by
 cases d<;>cases e<;>simp[Datum.opposite,Datum.product]<;>(try split)<;>simp[Datum.opposite]
theorem wE(p:Nat)(d e:Datum):d.opposite.quotient p e=(d.quotient p e).map Datum.opposite/\(∀s t,d.quotient p e≠some (.nan s t)):=by
 cases d<;>cases e<;>simp[Datum.opposite,Datum.quotient]<;>(try split)<;>(try split)<;>simp[Datum.opposite]
theorem wF{o:Option Datum}(h: ∀s t,o≠some (.nan s t)):(o.map Datum.opposite).map double.write=(o.map double.write).map negB:=by
 cases o with
 | none=>rfl
 | some d=>simp only[Option.map_some];rw[yM d (fun s t e=>h s t (by rw[e]))]
theorem sD{a b r:Nat}(h:double.div a b=some r):r<18446744073709551616:=by
 have hr: ∃d,double.write d=r:=by
  have h':((double.read a).quotient 54 (double.read b)).map double.write=some r:=h
  rw[Option.map_eq_some_iff]at h'
  obtain⟨d,_,e⟩:=h'
  exact⟨d,e⟩
 obtain⟨d,e⟩:=hr
 have hw: ∀(s:Bool) q,q<9223372036854775808->double.word s q<18446744073709551616:=by
  intro s q hq;rw[eA];split<;>omega
 have hb:double.binade=4503599627370496:=d_bin
 have hi:double.infRung=9218868437227405312:=bO
 rw[<- e]
 cases d with
 | number s m i=>
  unfold Format.write Format.nearest
  dsimp only
  split
  ·exact hw _ _ (by omega)
  ·exact hw _ _ (Nat.lt_of_le_of_lt (Nat.min_le_right _ _) (by rw[hi];omega))
 | infinity s=>exact hw _ _ (by rw[hi];omega)
 | nan s t=>
  refine hw _ _ ?_
  have:=Nat.mod_lt t (show 0<double.binade by rw[hb];omega)
  rw[hi];rw[hb]at this ⊢;omega
theorem dvB_cn{a b:Nat}(ha:a<18446744073709551616):dvB (negB a) b=cn (dvB a b):=by
 have key:double.div (negB a) b=(double.div a b).map negB:=by
  show((double.read (negB a)).quotient 54 (double.read b)).map double.write=(((double.read a).quotient 54 (double.read b)).map double.write).map negB
  rw[nD a ha,(wE 54 _ _).1]
  exact wF (wE 54 _ _).2
 cases h:double.div a b with
 | none=>rw[h]at key;rw[eW h,eW key];decide
 | some r=>rw[h]at key;rw[dW h,dW key,jS (sD h)];rfl
theorem dvB_z(b:Nat)(h1:mg b≠0)(h2:mg b<9218868437227405312)(z:Nat)(hz:mg z=0):dvB z b=0:=by
 obtain⟨m,a,e,k⟩:=bS double b (by rw[cH,bO];exact h2)
 have hm:m≠0:=by
  intro h0
  rw[h0,Nat.zero_mul,cH]at k
  have k2:mv (mg b)=0:=k.symm
  refine h1 ?_
  unfold mv mag at k2
  split at k2
  ·exact k2
  ·exact absurd k2 (Nat.mul_ne_zero (by have:=Nat.two_pow_pos 52;omega) (by have:=Nat.two_pow_pos (mg b/2 ^ 52 - 1);omega))
 have hd: ∃s p,double.div z b=some (double.nearest s 0 p):=by
  have hq: ∃s p,(double.read z).quotient 54 (double.read b)=some (.number s 0 p):=by
   rw[e,yC hz]
   unfold Datum.quotient
   dsimp only
   rw[if_neg hm]
   simp
  obtain⟨s,p,hq⟩:=hq
  refine⟨s,p,?_⟩
  show((double.read z).quotient 54 (double.read b)).map double.write=_
  rw[hq];rfl
 obtain⟨s,p,e⟩:=hd
 rw[dW e]
 unfold Format.nearest
 rw[if_pos rfl]
 cases s<;>decide+kernel
theorem mul_key{a b:Nat}(ha:a<18446744073709551616):double.mul (negB a) b=(double.mul a b).map negB:=by
 show((double.read (negB a)).product (double.read b)).map double.write=(((double.read a).product (double.read b)).map double.write).map negB
 rw[nD a ha,(wB _ _).1]
 exact wF (wB _ _).2
theorem mlB_neg{a b:Nat}(ha:a<18446744073709551616)(_:b<18446744073709551616):canonB (mlB (negB a) b)=cn (mlB a b):=by
 have key:=mul_key (b:=b) ha
 cases h:double.mul a b with
 | none=>rw[h]at key;rw[dV h,dV key];decide
 | some r=>rw[h]at key;rw[cV h,cV key];rfl
theorem iE{a b:Nat}(ha:a<18446744073709551616)(hb:b<18446744073709551616):canonB (mlB (canonB a) b)=canonB (mlB a b):=by
 rcases aZ ha with⟨h,e⟩ | ⟨h,e⟩ | ⟨h,k,e⟩
 ·rw[e,dV (fF a b (.inl h)),dV (fF quiet b (.inl (by decide)))]
 ·rw[e]
  cases hn:ng a
  ·have:a=0:=by have:=dF hn;rw[aY this]at h;exact h
   rw[this]
  ·have h2:a=negB 0:=by
    have:=dT hn;unfold mg at h;show a=(if ng 0 then _ else _);rw[show ng 0=false by decide];simp;omega
   rw[h2,mlB_neg (by omega) hb]
   -- a nought times b,both ways
   have hz: ∀r,double.mul 0 b=some r->mg r=0:=by
    intro r hr
    rcases three b with k | k | k
    ·rw[mul_d 0 b (by omega) hb (by decide) k]at hr
     have h0:mv (mg 0)=0:=by decide
     rw[h0,Nat.zero_mul]at hr
     have h1:min (rung 52 1074 0) 9218868437227405312=0:=by decide+kernel
     rw[h1]at hr
     cases hr
     cases(ng 0 ^^ ng b)<;>decide
    ·rw[qG 0 b (by omega) hb (by decide) k,if_pos (by decide)]at hr;cases hr
    ·rw[fF 0 b (.inr k)]at hr;cases hr
   cases hm:double.mul 0 b with
   | none=>rw[dV hm];decide
   | some r=>
    rw[cV hm]
    have hr:=fV hm (by omega) hb
    have h0:=hz r hm
    rcases aZ hr.1 with⟨a',b'⟩ | ⟨a',b'⟩ | ⟨a',k',b'⟩
    ·rw[hr.2]at a';cases a'
    ·rw[b',<- jS hr.1,b'];decide
    ·exact absurd h0 k'
 ·rw[e]
def fB(k:Int):Nat:=rn false (k*one)
def qo(n:Nat)(k:Int):Nat:=dvB (fB k) (fB n)
theorem fB_lt(k:Int):fB k<18446744073709551616:=rn_lt _ _
theorem uH(a b:Nat):dvB a b<18446744073709551616:=by
 unfold dvB
 cases h:double.div a b with
 | none=>decide
 | some r=>exact dG (sD h)
theorem qo_lt(n:Nat)(k:Int):qo n k<18446744073709551616:=uH _ _
theorem fB_neg(k:Int):fB (-k)=cn (fB k):=by unfold fB cn;rw[rn_negv,Int.neg_mul]
theorem fB_norm: ∀n:Nat,n<33->1<=n->mg (fB n)≠0/\mg (fB n)<9218868437227405312:=by decide+kernel
theorem uJ{n:Nat}(h1:1<=n)(h2:n<=32)(k:Int):qo n (-k)=cn (qo n k):=by
 obtain⟨b1,b2⟩:=fB_norm n (by omega) h1
 unfold qo
 rw[fB_neg]
 have hx:=fB_lt k
 unfold cn
 rcases aZ (bT hx)with⟨h,e⟩ | ⟨h,e⟩ | ⟨h,k',e⟩
 ·rw[jN hx]at h
  have:isN (fB k)=false:=tT _ _
  rw[this]at h;cases h
 ·rw[e,dvB_z _ b1 b2 0 (by decide),dvB_z _ b1 b2 (fB k) (by rw[<- lS hx];exact h)];decide
 ·rw[e,dvB_cn hx];rfl
theorem qo_one: ∀n:Nat,n<33->1<=n->qo n n=4607182418800017408:=by decide+kernel
def pL(n:Nat)(v:P3):Nat:=lnB (qo n v.1) (qo n v.2.1) (qo n v.2.2)
def px(n:Nat)(v:P3):Nat:=unB (pL n v) (qo n v.1)
def py(n:Nat)(v:P3):Nat:=unB (pL n v) (qo n v.2.1)
def pz(n:Nat)(v:P3):Nat:=unB (pL n v) (qo n v.2.2)
theorem wG{y l:Nat}(hy:isN y=true):dvB y l=quiet:=by
 refine eW ?_
 rw[bH]at hy
 have ei:=bO
 show((double.read y).quotient 54 (double.read l)).map double.write=none
 rw[cZ double y eJ (by rw[cH];omega)]
 cases double.read l<;>rfl
theorem fI(n:Nat)(v:P3):px n v<18446744073709551616:=uG _ _
theorem fJ(n:Nat)(v:P3):py n v<18446744073709551616:=uG _ _
theorem fL(n:Nat)(v:P3):pz n v<18446744073709551616:=uG _ _
def gp(n:Nat)(u v:P3):Nat:=lnB (sbB (px n u) (px n v)) (sbB (py n u) (py n v)) (sbB (pz n u) (pz n v))
def cl(x y z u v t:Nat):Nat:=lnB (sbB (mlB y t) (mlB z v)) (sbB (mlB z u) (mlB x t)) (sbB (mlB x v) (mlB y u))
def ar(n:Nat)(p q r s:P3):Nat:=cl (sbB (px n r) (px n p)) (sbB (py n r) (py n p)) (sbB (pz n r) (pz n p)) (sbB (px n s) (px n q)) (sbB (py n s) (py n q)) (sbB (pz n s) (pz n q))
end
section
open Tf Ieee Cu
theorem uK{n M c s t k:Nat}(hn:1<=n)(hM:6*n*n=M)(hc:c<M)(hs:s<4)(ht:t<24)(hk:k<M):
  (tnC n t c<M/\tnS n t c<4/\bsC n c s<M/\bsS n c s<4/\tnS n t (bsC n c s)<4)/\bsC n (tnC n t c) ((s+tnS n t c)%4)=tnC n t (bsC n c s)/\bsS n (tnC n t c) ((s+tnS n t c)%4)=(bsS n c s+tnS n t (bsC n c s))%4/\(tnC n t k=tnC n t c ↔ k=c)/\tnC n 0 c=c/\tnS n 0 c=0:=by
 subst hM
 obtain⟨f,a,b,hf,ha,hb,rfl⟩:=Pn_ex hn hc hs
 obtain⟨t1,t2⟩:=tf_lt t ht f hf
 obtain⟨f1,f2⟩:=rF f hf s hs
 obtain⟨u1,u2⟩:=tf_lt t ht _ f1
 obtain⟨b1,b2⟩:=mG (f:=f) hs ha hb
 obtain⟨c1,c2⟩:=rH ht hf hs ha hb
 obtain⟨z1,z2⟩:=tf_zero f hf
 obtain⟨d1,d2⟩:=rH (t:=0) (by omega) hf hs ha hb
 have hq:(s+tq t f)%4<4:=by omega
 have hzero:tnC n 0 (Pn n f s a b)=Pn n f s a b/\tnS n 0 (Pn n f s a b)=0:=by
  rw[d1,d2,z1,z2,Nat.add_zero,Nat.mod_eq_of_lt hs];exact⟨rfl,rfl⟩
 have hinj:tnC n t k=tnC n t (Pn n f s a b) ↔ k=Pn n f s a b:=by
  obtain⟨f',a',b',hf',ha',hb',rfl⟩:=Pn_ex hn hk hs
  obtain⟨g1,g2⟩:=rH ht hf' hs ha' hb'
  refine⟨fun e=> ?_,fun e=>by rw[e]⟩
  rw[g1,c1]at e
  have e1:=(kC (f:=tf t f') (show(s+tq t f')%4<4 by omega) ha' hb').1
  have e2:=(kC (f:=tf t f) hq ha hb).1
  rw[e,e2]at e1
  have ef:=tf_inj t ht f hf f' hf' e1
  subst ef
  obtain⟨_,h1,h2⟩:=Pn_inj hq ha' hb' ha hb e
  rw[h1,h2]
 obtain⟨v1,v2⟩:=nf_tf t ht f hf s hs
 by_cases h:a+1<n
 ·rw[if_pos h]at b1 b2
  obtain⟨e1,e2⟩:=rH (t:=t) (f:=f) (s:=s) (b:=b) ht hf hs h hb
  obtain⟨g1,g2⟩:=mG (f:=tf t f) hq ha hb
  rw[if_pos h]at g1 g2
  rw[b1,b2,e1,e2,c1,c2,g1,g2]
  refine⟨⟨oH t1 ha hb,t2,oH hf h hb,by omega,t2⟩,rfl,by omega,?_,hzero⟩
  rw[<- c1];exact hinj
 ·rw[if_neg h]at b1 b2
  have h0:0<n:=by omega
  obtain⟨e1,e2⟩:=rH (t:=t) ht f1 f2 h0 hb
  obtain⟨g1,g2⟩:=mG (f:=tf t f) hq ha hb
  rw[if_neg h,v1,v2]at g1
  rw[if_neg h,v2]at g2
  rw[b1,b2,e1,e2,c1,c2,g1,g2]
  refine⟨⟨oH t1 ha hb,t2,oH f1 h0 hb,by omega,u2⟩,rfl,by omega,?_,hzero⟩
  rw[<- c1];exact hinj
def cr(n f i j:Nat):P3:=pl (sc n (cC f)) (pl (sc (2*i - n) (cR f)) (sc (2*j - n) (cU f)))
def e1(n f s i j:Nat):P3:=match s with | 0=>cr n f (i+1) j | 1=>cr n f i (j+1) | 2=>cr n f i j | _=>cr n f i j
def e2(n f s i j:Nat):P3:=match s with | 0=>cr n f (i+1) (j+1) | 1=>cr n f (i+1) (j+1) | 2=>cr n f i (j+1) | _=>cr n f (i+1) j
def MD(n c:Nat):P3:=md n (cf n c) (ci n c) (cj n c)
def C1(n c s:Nat):P3:=e1 n (cf n c) s (ci n c) (cj n c)
def C2(n c s:Nat):P3:=e2 n (cf n c) s (ci n c) (cj n c)
def LnC(n c s:Nat):Nat:=gp n (C1 n c s) (C2 n c s)
def GpC(n c s:Nat):Nat:=gp n (MD n c) (MD n (bsC n c s))
def ArC(n c:Nat):Nat:=ar n (cr n (cf n c) (ci n c) (cj n c)) (cr n (cf n c) (ci n c+1) (cj n c)) (cr n (cf n c) (ci n c+1) (cj n c+1)) (cr n (cf n c) (ci n c) (cj n c+1))
end
section
open Tf
def cq(way:Ieee.Toward)(x:Nat):Int:=if ng x then -((cutq way (ng x) (mv (mg x)) one:Nat):Int)else((cutq way (ng x) (mv (mg x)) one:Nat):Int)
def cOk(way:Ieee.Toward)(x:Nat):Bool:=fin x&&decide (-9223372036854775808<=cq way x)&&decide (cq way x<9223372036854775808)
def cI(way:Ieee.Toward)(x:Nat):Int:=if cOk way x then cq way x else 0
def itV(way:Ieee.Toward)(x:Nat):Nat:=Ieee.double.write ((Ieee.double.read x).integral way)
def wOk(y:Nat):Bool:=(fgt y 14114281232179134464||feq y 14114281232179134464)&&flt y 4890909195324358656
def wI(y:Nat):Int:=if wOk y then(if ng y then -((mv (mg y)/one:Nat):Int)else((mv (mg y)/one:Nat):Int))else 0
theorem qJ:mv 4890909195324358656=2 ^ 63*one:=fE 63 _ (by decide)
theorem qK(y:Nat)(hy:y<18446744073709551616):wOk y=(!isN y&&decide (-4890909195324358656<=rk y)&&decide (rk y<4890909195324358656)):=by
 unfold wOk
 rw[iV y _ hy (by decide),kG y _ hy (by decide),kH y _ hy (by decide)]
 have n1:isN 14114281232179134464=false:=by decide
 have n2:isN 4890909195324358656=false:=by decide
 have r1:rk 14114281232179134464= -4890909195324358656:=by decide
 have r2:rk 4890909195324358656=4890909195324358656:=by decide
 rw[n1,n2,r1,r2]
 cases isN y
 ·simp only[Bool.not_false,Bool.and_self,Bool.true_and]
  congr 1
  rw[<- Bool.decide_or]
  exact decide_eq_decide.2 (by omega)
 ·simp
theorem wOk_fin{y:Nat}(hy:y<18446744073709551616)(h:wOk y=true):mg y<=4890909195324358656/\(ng y=false->mg y<4890909195324358656):=by
 rw[qK y hy]at h
 simp only[Bool.and_eq_true,decide_eq_true_eq]at h
 obtain⟨⟨_,a⟩,b⟩:=h
 unfold rk at a b
 cases hn:ng y<;>rw[hn]at a b<;>simp only[Bool.false_eq_true,if_false,if_true]at a b
 ·exact⟨by omega,fun _=>by omega⟩
 ·exact⟨by omega,fun h=>by cases h⟩
theorem wI_conv{y:Nat}(hy:y<18446744073709551616)(h:wOk y=true):floatToIntVal .f64 y .i64=some (wI y):=by
 obtain⟨a,b⟩:=wOk_fin hy h
 unfold floatToIntVal
 have e:(FloatKind.f64.decode y).toInt .zero=some (if ng y then -((mv (mg y)/one:Nat):Int)else((mv (mg y)/one:Nat):Int)):=toInt_d y hy (by omega)
 rw[e]
 have hw:wI y=(if ng y then -((mv (mg y)/one:Nat):Int)else((mv (mg y)/one:Nat):Int)):=by unfold wI;rw[h];rfl
 rw[<- hw]
 have hle:mv (mg y)/one<=2 ^ 63:=by
  have h1:=mv_le.2 a
  rw[qJ]at h1
  have h2:=Nat.div_le_div_right (c:=one) h1
  rwa [Nat.mul_div_cancel _ gB]at h2
 have hlt:ng y=false->mv (mg y)/one<2 ^ 63:=by
  intro h'
  rw[Nat.div_lt_iff_lt_mul gB,<- qJ]
  exact mv_lt.2 (b h')
 have hb:IntKind.i64.min<=wI y/\wI y<=IntKind.i64.max:=by
  have m1:IntKind.i64.min= -9223372036854775808:=by decide
  have m2:IntKind.i64.max=9223372036854775807:=by decide
  rw[m1,m2,hw]
  generalize mv (mg y)/one=q at*
  cases hn:ng y
  ·have:=hlt hn
   simp only[Bool.false_eq_true,if_false];omega
  ·simp only[if_true];omega
 simp only[hb,and_self,if_true]
theorem itV_lt(way:Ieee.Toward)(x:Nat):itV way x<18446744073709551616:=Ieee.double.write_lt _
theorem qL(way:Ieee.Toward)(x:Nat)(hx:x<18446744073709551616)(fx:mg x<9218868437227405312):
  ng (itV way x)=ng x/\mg (itV way x)<9218868437227405312/\mv (mg (itV way x))=cutq way (ng x) (mv (mg x)) one*one:=by
 obtain⟨r,hr,e,hw⟩:=tW way x hx fx
 have hw':itV way x=if ng x then 9223372036854775808+r else r:=hw
 rw[hw']
 cases hn:ng x
 ·simp only[Bool.false_eq_true,if_false]
  rw[bI (by omega),aY (by omega)]
  exact⟨rfl,hr,by rw[hn]at e;exact e⟩
 ·simp only[if_true]
  rw[mY (by omega),jK (by omega) (by omega)]
  rw[show 9223372036854775808+r - 9223372036854775808=r by omega]
  exact⟨rfl,hr,by rw[hn]at e;exact e⟩
theorem sv_itV(way:Ieee.Toward)(x:Nat)(hx:x<18446744073709551616)(fx:mg x<9218868437227405312):sv (itV way x)=cq way x*one:=by
 obtain⟨a,_,c⟩:=qL way x hx fx
 unfold sv cq
 rw[a,c]
 cases ng x<;>simp[Int.neg_mul]
theorem itV_inf(way:Ieee.Toward)(x:Nat)(hx:x<18446744073709551616)(fx:mg x=9218868437227405312):itV way x=x:=by
 have ei:=bO
 unfold itV
 rw[cF Ieee.double x eJ (by rw[cH];omega),dS x hx]
 simp only[Ieee.Datum.integral,Ieee.Format.write]
 rw[eA,bO]
 have hw:=qD x hx
 rw[fx]at hw
 exact hw.symm
theorem sv_p63:sv 4890909195324358656=9223372036854775808*(one:Int):=by
 unfold sv
 have h1:ng 4890909195324358656=false:=by decide
 have h2:mg 4890909195324358656=4890909195324358656:=by decide
 rw[h1,h2,qJ]
 simp only[Bool.false_eq_true,if_false,Int.natCast_mul]
 rfl
theorem sv_n63:sv 14114281232179134464= -9223372036854775808*(one:Int):=by
 unfold sv
 have h1:ng 14114281232179134464=true:=by decide
 have h2:mg 14114281232179134464=4890909195324358656:=by decide
 rw[h1,h2,qJ]
 simp only[if_true,Int.natCast_mul,<- Int.neg_mul]
 rfl
theorem onep:(0:Int)<(one:Int):=by exact_mod_cast gB
theorem wH(way:Ieee.Toward)(x:Nat)(hx:x<18446744073709551616)(n:isN x=false):wOk (itV way x)=cOk way x:=by
 have hle:=cB.1 n
 by_cases fx:mg x<9218868437227405312
 ·obtain⟨a,b,c⟩:=qL way x hx fx
  have hn:isN (itV way x)=false:=cB.2 (by omega)
  rw[qK _ (itV_lt way x),hn]
  unfold cOk
  have hf:fin x=true:=by unfold fin;exact decide_eq_true fx
  rw[hf]
  have r1:rk 14114281232179134464= -4890909195324358656:=by decide
  have r2:rk 4890909195324358656=4890909195324358656:=by decide
  have s1:=hQ (itV way x) 14114281232179134464
  have s2:=hQ (itV way x) 4890909195324358656
  rw[r1,sv_itV way x hx fx,sv_n63,Int.mul_lt_mul_right onep]at s1
  rw[r2,sv_itV way x hx fx,sv_p63,Int.mul_lt_mul_right onep]at s2
  have t1:decide (-4890909195324358656<=rk (itV way x))=decide (-9223372036854775808<=cq way x):=decide_eq_decide.2 (by omega)
  have t2:decide (rk (itV way x)<4890909195324358656)=decide (cq way x<9223372036854775808):=decide_eq_decide.2 (by omega)
  rw[t1,t2];simp
 ·have e:mg x=9218868437227405312:=by omega
  rw[itV_inf way x hx e,qK x hx,n]
  unfold cOk
  have hf:fin x=false:=by unfold fin;exact decide_eq_false fx
  rw[hf]
  unfold rk;rw[e]
  cases ng x<;>simp
theorem wI_itV(way:Ieee.Toward)(x:Nat)(hx:x<18446744073709551616)(n:isN x=false):wI (itV way x)=cI way x:=by
 unfold wI cI
 rw[wH way x hx n]
 cases h:cOk way x
 ·rfl
 ·have fx:mg x<9218868437227405312:=by
   unfold cOk at h
   simp only[Bool.and_eq_true]at h
   have:=h.1.1
   unfold fin at this
   simpa using this
  obtain⟨a,b,c⟩:=qL way x hx fx
  rw[if_pos rfl,if_pos rfl,a,c,Nat.mul_div_cancel _ gB]
  rfl
theorem wJ{y:Nat}(hy:y<18446744073709551616)(n:isN y=true):wOk y=false/\wI y=0:=by
 have h:wOk y=false:=by rw[qK y hy,n];rfl
 exact⟨h,by unfold wI;rw[h];rfl⟩
theorem cOk_nan(way:Ieee.Toward){x:Nat}(n:isN x=true):cOk way x=false/\cI way x=0:=by
 have h:cOk way x=false:=by
  unfold cOk fin
  have:=bH.1 n
  rw[decide_eq_false (by omega)];rfl
 exact⟨h,by unfold cI;rw[h];rfl⟩
end
section
open Go.RowKit Tf
attribute [local go_sem] aI aJ aN aO aP aQ aV
def snan(w:World)(x:Nat):Nat:=
 if(Question.extern "math.Floor,Ceil,Trunc,RoundToEven.signallingNaN kept" 2).cut (w.tape w.drawn (Question.extern "math.Floor,Ceil,Trunc,RoundToEven.signallingNaN kept" 2))==1 then x
 else FloatKind.f64.encode (.nan (sg Ieee.double x) (FloatKind.f64.format.quiet (rg Ieee.double x - Ieee.double.infRung)))
theorem or_bit(t:Nat)(h:t<4503599627370496):Ieee.double.quiet t%4503599627370496=Ieee.double.quiet t/\0<Ieee.double.quiet t:=by
 have e:Ieee.double.quiet t=t ||| 2 ^ 51:=rfl
 rw[e]
 have h1:t ||| 2 ^ 51<2 ^ 52:=Nat.or_lt_two_pow (by omega) (by omega)
 have h2:2 ^ 51<=t ||| 2 ^ 51:=Nat.right_le_or
 omega
theorem sE(w:World)(x:Nat)(hx:x<18446744073709551616)(n:isN x=true):snan w x<18446744073709551616/\isN (snan w x)=true:=by
 have ei:=bO
 have hm:=mV x
 have hn:=bH.1 n
 unfold snan
 split
 ·exact⟨hx,n⟩
 ·rw[cH,dS x hx,ei]
  obtain⟨q1,q2⟩:=or_bit (mg x - 9218868437227405312) (by omega)
  have e: ∀(b:Bool) (t:Nat),FloatKind.f64.encode (.nan b t)=if b then 9223372036854775808+(9218868437227405312+t%4503599627370496)else 9218868437227405312+t%4503599627370496:=by
   intro b t
   show Ieee.double.word b (Ieee.double.infRung+t%Ieee.double.binade)=_
   rw[eA,bO,d_bin]
  rw[e]
  change (if ng x=true then 9223372036854775808+(9218868437227405312+Ieee.double.quiet (mg x - 9218868437227405312)%4503599627370496)else 9218868437227405312+Ieee.double.quiet (mg x - 9218868437227405312)%4503599627370496)<_/\isN (if ng x=true then 9223372036854775808+(9218868437227405312+Ieee.double.quiet (mg x - 9218868437227405312)%4503599627370496)else 9218868437227405312+Ieee.double.quiet (mg x - 9218868437227405312)%4503599627370496)=true
  generalize Ieee.double.quiet (mg x - 9218868437227405312)=t at*
  have ht:t%4503599627370496<4503599627370496:=Nat.mod_lt _ (by decide)
  rw[bH]
  cases ng x
  ·simp only[Bool.false_eq_true,if_false]
   refine⟨by omega,?_⟩
   rw[aY (by omega)];omega
  ·simp only[if_true]
   refine⟨by omega,?_⟩
   rw[jK (by omega) (by omega)];omega
def qNaN(x:Nat):Bool:=FloatKind.f64.format.quiet (rg Ieee.double x - Ieee.double.infRung)==rg Ieee.double x - Ieee.double.infRung
theorem ext_num(nm:String)(way:Ieee.Toward)(x:Nat)(n:isN x=false):Extern.MathFloor.toIntegral nm way #[.float .f64 x]=pure (.float .f64 (itV way x)):=by
 have ei:=bO
 have h:=cB.1 n
 unfold itV
 by_cases c:mg x<9218868437227405312
 ·obtain⟨m,a,e,_⟩:=bS Ieee.double x (by rw[cH];omega)
  show(match Ieee.double.read x with | .nan _ _=>_ | _=>_)=_
  rw[e];rfl
 ·show(match Ieee.double.read x with | .nan _ _=>_ | _=>_)=_
  rw[cF Ieee.double x eJ (by rw[cH];omega)];rfl
theorem ext_nan(nm:String)(way:Ieee.Toward)(x:Nat)(n:isN x=true)(q:qNaN x=true):Extern.MathFloor.toIntegral nm way #[.float .f64 x]=pure (.float .f64 x):=by
 have ei:=bO
 have h:=bH.1 n
 unfold qNaN at q
 show(match Ieee.double.read x with | .nan _ _=>_ | _=>_)=_
 rw[cZ Ieee.double x eJ (by rw[cH];omega)]
 dsimp only
 rw[if_pos (by simpa using q)]
theorem ext_snan(nm:String)(way:Ieee.Toward)(x:Nat)(n:isN x=true)(q:qNaN x=false)(P:Program)(w:World):(Extern.MathFloor.toIntegral nm way #[.float .f64 x]).run P w=.ok (.float .f64 (snan w x)) w.drew:=by
 have ei:=bO
 have h:=bH.1 n
 unfold qNaN at q
 show Sem.run P (match Ieee.double.read x with | .nan _ _=>_ | _=>_) w=_
 rw[cZ Ieee.double x eJ (by rw[cH];omega)]
 dsimp only
 rw[if_neg (by simpa using q)]
 simp[Question.forced,snan]
theorem run_even(x:Nat)(w:World)(n:isN x=false):(callFunc 114 #[.float .f64 x]).run prog w=.ok (.value (.float .f64 (itV .even x))) w:=by
 rw[run_callFunc_extern (e:=Extern.MathFloor.toIntegral "math.RoundToEven" .even) func114 (by kernel_rfl) (by kernel_rfl) (by kernel_rfl) (by kernel_rfl),ext_num _ _ x n]
 rfl
theorem qM(x:Nat)(w:World)(n:isN x=true)(q:qNaN x=true):(callFunc 114 #[.float .f64 x]).run prog w=.ok (.value (.float .f64 x)) w:=by
 rw[run_callFunc_extern (e:=Extern.MathFloor.toIntegral "math.RoundToEven" .even) func114 (by kernel_rfl) (by kernel_rfl) (by kernel_rfl) (by kernel_rfl),ext_nan _ _ x n q]
 rfl
theorem oG(x:Nat)(w:World)(n:isN x=true)(q:qNaN x=false):(callFunc 114 #[.float .f64 x]).run prog w=.ok (.value (.float .f64 (snan w x))) w.drew:=by
 rw[run_callFunc_extern (e:=Extern.MathFloor.toIntegral "math.RoundToEven" .even) func114 (by kernel_rfl) (by kernel_rfl) (by kernel_rfl) (by kernel_rfl),ext_snan _ _ x n q]
 rfl
theorem nH(y:Nat)(i:Int)(ok:Bool)(w:World)(hy:y<18446744073709551616)(hi:wI y=i)(ho:wOk y=ok):
  Calls prog 113 #[.float .f64 y] w fun e w'=>e=.returned (.tuple #[.int .i64 i,.bool ok])/\w'=w:=by
 have hc:wOk y=true->floatToIntVal .f64 y .i64=some i:=by intro h;rw[wI_conv hy h,hi]
 have h0:wOk y=false->i=0:=by intro h;rw[<- hi];unfold wI;rw[h];rfl
 have hw:wOk y=((fgt y 14114281232179134464||feq y 14114281232179134464)&&flt y 4890909195324358656):=rfl
 clear hi
 cases hg:(fgt y 14114281232179134464||feq y 14114281232179134464)
 ·rw[hg]at hw
  have hw':wOk y=false:=hw
  obtain rfl:=h0 hw'
  obtain rfl:ok=false:=by rw[<- ho,hw']
  clear hw hw' h0 hc ho
  go_enter func113,ntmps113
  go_wp2
  go_ret2
  exact⟨rfl,rfl⟩
 ·cases hl:flt y 4890909195324358656
  ·rw[hg,hl]at hw
   have hw':wOk y=false:=hw
   obtain rfl:=h0 hw'
   obtain rfl:ok=false:=by rw[<- ho,hw']
   clear hw hw' h0 hc ho
   go_enter func113,ntmps113
   go_wp2
   go_ret2
   exact⟨rfl,rfl⟩
  ·rw[hg,hl]at hw
   have hw':wOk y=true:=hw
   obtain rfl:ok=true:=by rw[<- ho,hw']
   have hcv:=fun(w:World)=>run_convert_float_int (P:=prog) w 22 2 .f64 .i64 y i (by kernel_rfl) (by kernel_rfl) (hc hw')
   clear hw hw' h0 hc ho
   go_enter func113,ntmps113
   go_wp2
   go_ret2
   exact⟨rfl,rfl⟩
theorem fW(x:Nat)(i:Int)(ok:Bool)(w:World)(hx:x<18446744073709551616)(hi:cI .even x=i)(ho:cOk .even x=ok):
  Calls prog 92 #[.float .f64 x] w fun e w'=>e=.returned (.tuple #[.int .i64 i,.bool ok])/\ ∃n,w'=w.drewN n:=by
 cases n:isN x
 ·have r:=fun(w:World)=>run_even x w n
  have l:=itV_lt .even x
  have a:=wI_itV .even x hx n
  have b:=wH .even x hx n
  rw[hi]at a
  rw[ho]at b
  generalize itV .even x=y at*
  clear hi ho n
  go_enter func92,ntmps92
  go_wp2_with fail
  refine(nH y i ok _ l a b).mono ?_
  rintro e w' ⟨rfl,rfl⟩
  go_wp2
  go_ret2
  exact⟨rfl,0,rfl⟩
 ·obtain⟨h1,h2⟩:=cOk_nan .even n
  rw[hi]at h2
  rw[ho]at h1
  subst h1 h2
  cases q:qNaN x
  ·have r:=fun(w:World)=>oG x w n q
   have l:=fun(w:World)=>(sE w x hx n).1
   have l2:=fun(w:World)=>wJ (l w) (sE w x hx n).2
   clear hi ho n q
   go_enter func92,ntmps92
   go_wp2_with fail
   refine(nH _ 0 false _ (l _) (l2 _).2 (l2 _).1).mono ?_
   rintro e w' ⟨rfl,rfl⟩
   go_wp2
   go_ret2
   exact⟨rfl,1,rfl⟩
  ·have r:=fun(w:World)=>qM x w n q
   have l2:=wJ hx n
   clear hi ho n q
   go_enter func92,ntmps92
   go_wp2_with fail
   refine(nH x 0 false _ hx l2.2 l2.1).mono ?_
   rintro e w' ⟨rfl,rfl⟩
   go_wp2
   go_ret2
   exact⟨rfl,0,rfl⟩
theorem dK(x:Nat)(w:World)(hx:x<18446744073709551616):
  Calls prog 95 #[.float .f64 x] w fun e w'=>e=.returned (.bool (isN x))/\w'=w:=by
 obtain⟨c,hc⟩:=aB (classB x)
 have h:(c==4)=isN x:=by
  rw[<- hc];unfold classB isN
  have:=mV x
  by_cases c0:mg x=0
  ·rw[if_pos c0,c0];rfl
  ·by_cases c1:mg x<4503599627370496
   ·rw[if_neg c0,if_pos c1,decide_eq_false (by omega)];rfl
   ·by_cases c2:mg x<9218868437227405312
    ·rw[if_neg c0,if_neg c1,if_pos c2,decide_eq_false (by omega)];rfl
    ·by_cases c3:mg x=9218868437227405312
     ·rw[if_neg c0,if_neg c1,if_neg c2,if_pos c3,decide_eq_false (by omega)];rfl
     ·rw[if_neg c0,if_neg c1,if_neg c2,if_neg c3,decide_eq_true (by omega)];rfl
 obtain⟨b,hb⟩:=aB (isN x)
 rw[hb]at h ⊢
 have C:Hid (∀w,Calls prog 96 #[.float .f64 x] w fun e w'=>e=.returned (.int .i64 c)/\w'=w):=by
  intro w;rw[<- hc];exact oT x w hx
 clear hc hb
 go_enter func95,ntmps95
 go_wp2_with fail
 refine(C.out _).mono ?_
 rintro e w' ⟨rfl,rfl⟩
 go_wp2
 go_ret
 exact⟨rfl,rfl⟩
theorem gU(n:Int)(w:World):
  Calls prog 117 #[.int .i64 n] w fun e w'=>e=.returned (.float .f64 (rn false (n*one)))/\w'=w:=by
 have hc:=fun(w:World)=>run_convert_int_float (P:=prog) w 2 22 .i64 .f64 n (by kernel_rfl) (by kernel_rfl)
 have e:floatOfInt .f64 n=rn false (n*one):=ofInt_d n
 rw[e]at hc
 generalize rn false (n*one)=y at*
 clear e
 go_enter func117,ntmps117
 go_wp2
 go_ret
 exact⟨rfl,rfl⟩
end
section
open Go.RowKit Tf Cu
attribute [local go_sem] aI aJ aN aO aP aQ aV aF
theorem cG{P:Program}{fn:Func}{p q:Tmp}{ty:TypeId}(h:fn.results= #[.cell p ty,.tmp q])(tmps:Array Value)(w:World)(g:Nat)(t:TypeId)(cs:Array Value)(fr:Nat × Nat)(d:TypeDesc)(v:Value)
  (hp:tmps.getD p undef=.pointer (some ⟨g,0,none⟩)) (hq:tmps.getD q undef=v) (hg:w.heap[g]? =some (.cells cs t fr))
  (hu:P.underlying ty=some d) (hd:(match d with | .struct _ | .array _ _=>true | _=>false)=true) (hi:(P.info? ty).map (·.size)=some cs.size):
  (results fn tmps).run P w=.ok (.tuple #[.agg cs,v]) w:=by
 have hp':tmps[p]?.getD undef=.pointer (some ⟨g,0,none⟩):=by simpa using hp
 have hq':tmps[q]?.getD undef=v:=by simpa using hq
 simp[results,h,hp',hq',asAddr,run_loadVar_row w g t ty cs fr d hg hu hd hi]
theorem wL(k n:Int)(w:World):
  Calls prog 116 #[.int .i64 k,.int .i64 n] w fun e w'=> ∃r m,e=.returned (.float .f64 r)/\w'=w.drewN m/\Hid (IsC r (dvB (fB k) (fB n))):=by
 have F:Hid (∀(k:Int) w,Calls prog 117 #[.int .i64 k] w fun e w'=>e=.returned (.float .f64 (fB k))/\w'=w):=fun k w=>gU k w
 obtain⟨r,m,hr,hc⟩:=eK (P:=prog) w (fB k) (fB n)
 have HC:=hid hc
 generalize dvB (fB k) (fB n)=d at*
 clear hc
 go_enter func116,ntmps116
 go_wp2_with (first
  | (go_at_call 117;refine(F.out _ _).mono ?_;rintro e w' ⟨rfl,rfl⟩))
 go_ret
 exact⟨r,m,rfl,rfl,HC⟩
theorem wM(k n:Int)(w:World):
  Calls prog 122 #[.int .i64 k,.int .i64 n] w fun e w'=>e=.returned (.bool (decide (0<=k)&&decide (k<=n)))/\w'=w:=by
 by_cases h1:0<=k
 ·by_cases h2:k<=n
  ·rw[decide_eq_true h1,decide_eq_true h2]
   go_enter func122,ntmps122
   go_wp2
   go_ret
   exact⟨rfl,rfl⟩
  ·rw[decide_eq_true h1,decide_eq_false h2]
   go_enter func122,ntmps122
   go_wp2
   go_ret
   exact⟨rfl,rfl⟩
 ·rw[decide_eq_false h1,Bool.false_and]
  go_enter func122,ntmps122
  go_wp2
  go_ret
  exact⟨rfl,rfl⟩
def oc(f p q:Nat):Nat × Nat × Nat:=match f with
 | 0=>(4607182418800017408,p,q) | 1=>(negB p,4607182418800017408,q) | 2=>(13830554455654793216,negB p,q) | 3=>(p,13830554455654793216,q) | 4=>(negB q,p,4607182418800017408) | _=>(q,p,13830554455654793216)
theorem oc_lt{f p q:Nat}(hp:p<18446744073709551616)(hq:q<18446744073709551616):(oc f p q).1<18446744073709551616/\(oc f p q).2.1<18446744073709551616/\(oc f p q).2.2<18446744073709551616:=by
 have a:=bT hp
 have b:=bT hq
 unfold oc
 split<;>refine⟨?_,?_,?_⟩<;>dsimp only<;>first | assumption | omega
def fp(n f:Nat)(k h:Int):P3:=pl (sc n (cC f)) (pl (sc k (cR f)) (sc h (cU f)))
theorem cn_of{p d:Nat}(hp:IsC p d):canonB (negB p)=cn d:=by
 have h:=jS hp.1
 rw[hp.2]at h
 exact h.symm
theorem oc_fp{n f p q:Nat}{k h:Int}(n1:1<=n)(n2:n<=32)(hf:f<6)(hp:IsC p (qo n k))(hq:IsC q (qo n h)):
  canonB (oc f p q).1=qo n (fp n f k h).1/\canonB (oc f p q).2.1=qo n (fp n f k h).2.1/\canonB (oc f p q).2.2=qo n (fp n f k h).2.2:=by
 have e1:canonB 4607182418800017408=qo n n:=by rw[qo_one n (by omega) n1];decide
 have e2:canonB 13830554455654793216=qo n (-n):=by rw[uJ n1 n2,qo_one n (by omega) n1];decide
 have e3:canonB (negB p)=qo n (-k):=by rw[uJ n1 n2];exact cn_of hp
 have e4:canonB (negB q)=qo n (-h):=by rw[uJ n1 n2];exact cn_of hq
 have e5:=hp.2
 have e6:=hq.2
 rcases six hf with rfl | rfl | rfl | rfl | rfl | rfl<;>simp only[oc,fp,pl,sc,cC,cR,cU,e1,e2,e3,e4,e5,e6]<;>refine⟨?_,?_,?_⟩<;>congr 1<;>omega
theorem yO(f p q:Nat)(w:World)(hf:f<6)(hp:p<18446744073709551616)(hq:q<18446744073709551616):
  Calls prog 126 #[.int .i64 f,.float .f64 p,.float .f64 q] w fun e w'=>e=.returned (.agg #[.float .f64 (oc f p q).1,.float .f64 (oc f p q).2.1,.float .f64 (oc f p q).2.2])/\Below w.heap.size w w':=by
 have n0:=aX p hp
 have n1:=aX q hq
 clear hp hq
 rcases six hf with rfl | rfl | rfl | rfl | rfl | rfl
 all_goals
  go_enter func126,ntmps126
  go_wp2
  refine bodyPost_ret ?_ rfl ⟨rfl,?_⟩
  ·exact results_cell_row results126 _ _ w.heap.size _ _ (0,0) _ rfl (heap_alloc_new w _) underlying141 rfl (by kernel_rfl)
  ·exact bl1 w _
theorem sF(n f p q:Nat)(k h:Int)(w:World)(n1:1<=n)(n2:n<=32)(hf:f<6)(hp:IsC p (qo n k))(hq:IsC q (qo n h)):
  Calls prog 115 #[.int .i64 f,.float .f64 p,.float .f64 q] w fun e w'=>e=.returned (.agg #[.float .f64 (px n (fp n f k h)),.float .f64 (py n (fp n f k h)),.float .f64 (pz n (fp n f k h))])/\Below w.heap.size w w':=by
 obtain⟨c1,c2,c3⟩:=oc_fp n1 n2 hf hp hq
 obtain⟨l1,l2,l3⟩:=oc_lt (f:=f) hp.1 hq.1
 have OC:=hid (fun w=>yO f p q w hf hp.1 hq.1)
 have UN:=hid (fun w=>unit_at _ _ _ w (qo_lt n (fp n f k h).1) (qo_lt n (fp n f k h).2.1) (qo_lt n (fp n f k h).2.2))
 have T0:=hid (fun u0=>bF _ u0 l1)
 have T1:=hid (fun u0=>bF _ u0 l2)
 have T2:=hid (fun u0=>bF _ u0 l3)
 rw[c1]at T0
 rw[c2]at T1
 rw[c3]at T2
 have hux:unB (lnB (qo n (fp n f k h).1) (qo n (fp n f k h).2.1) (qo n (fp n f k h).2.2)) (qo n (fp n f k h).1)=px n (fp n f k h):=rfl
 have huy:unB (lnB (qo n (fp n f k h).1) (qo n (fp n f k h).2.1) (qo n (fp n f k h).2.2)) (qo n (fp n f k h).2.1)=py n (fp n f k h):=rfl
 have huz:unB (lnB (qo n (fp n f k h).1) (qo n (fp n f k h).2.1) (qo n (fp n f k h).2.2)) (qo n (fp n f k h).2.2)=pz n (fp n f k h):=rfl
 rw[hux,huy,huz]at UN
 clear hux huy huz c1 c2 c3 l1 l2 l3 hp hq n1 n2 hf
 generalize px n (fp n f k h)=a at*
 generalize py n (fp n f k h)=b at*
 generalize pz n (fp n f k h)=c at*
 generalize qo n (fp n f k h).1=d0 at*
 generalize qo n (fp n f k h).2.1=d1 at*
 generalize qo n (fp n f k h).2.2=d2 at*
 generalize(oc f p q).1=x at*
 generalize(oc f p q).2.1=y at*
 generalize(oc f p q).2.2=z at*
 have A0:=hid (bl1 w (.cells #[.float .f64 0,.float .f64 0,.float .f64 0] 141))
 have R0:=hid (heap_alloc_new w (.cells #[.float .f64 0,.float .f64 0,.float .f64 0] 141))
 go_enter func115,ntmps115
 go_wp2_with fail
 refine(OC.out _).mono ?_
 rintro e v ⟨rfl,b1⟩
 have A1:Hid (Ab w v):=Ab.call A0.out b1
 have R1:Hid (v.heap[w.heap.size]? =some (.cells #[.float .f64 0,.float .f64 0,.float .f64 0] 141)):=Ab.heap b1 R0.out
 have hlt:w.heap.size<v.heap.size:=by have:=b1.size;simp at this;omega
 clear b1 A0 R0 OC
 go_upto_region 2 with fail
 generalize hW:World.alloc _ _=W
 have AW:Hid (Ab w W):=by rw[<- hW];exact A1.out.call (bl1 _ _)
 have ra:W.heap[v.heap.size]? =some (.cells #[.float .f64 x,.float .f64 y,.float .f64 z] 141):=by rw[<- hW];exact heap_alloc_new _ _
 have rc:W.heap[w.heap.size]? =some (.cells #[.float .f64 0,.float .f64 0,.float .f64 0] 141):=by rw[<- hW,Below.heap_alloc _ _ _ hlt];exact R1.out
 have KS:Hid (∀w',Abx W w.heap.size 3 141 w'->Abx W w.heap.size 3 141 w'/\w'.cell? ⟨v.heap.size,0,none⟩=some (.float .f64 x)/\w'.cell? ⟨v.heap.size,1,none⟩=some (.float .f64 y)/\w'.cell? ⟨v.heap.size,2,none⟩=some (.float .f64 z)/\w'.frozen? ⟨w.heap.size,0,none⟩=false/\w'.frozen? ⟨w.heap.size,1,none⟩=false/\w'.frozen? ⟨w.heap.size,2,none⟩=false/\w'.cell? ⟨w.heap.size,0,none⟩=some (rv w' (w.heap.size) 0)/\w'.cell? ⟨w.heap.size,1,none⟩=some (rv w' (w.heap.size) 1)/\w'.cell? ⟨w.heap.size,2,none⟩=some (rv w' (w.heap.size) 2)):=by
  intro w' hw
  obtain⟨-,p3,p4,p5⟩:=rowfacts (hw.heap (by omega) ra)
  exact⟨hw,p3,p4,p5,hw.free 0,hw.free 1,hw.free 2,hw.some (by omega),hw.some (by omega),hw.some (by omega)⟩
 have A3:Abx W w.heap.size 3 141 W:=(Ab.refl W).x rfl rc
 clear ra rc hW A1 R1
 go_region_held3 (fun w'=>Abx W w.heap.size 3 141 w'/\w'.cell? ⟨v.heap.size,0,none⟩=some (.float .f64 x)/\w'.cell? ⟨v.heap.size,1,none⟩=some (.float .f64 y)/\w'.cell? ⟨v.heap.size,2,none⟩=some (.float .f64 z)/\w'.frozen? ⟨w.heap.size,0,none⟩=false/\w'.frozen? ⟨w.heap.size,1,none⟩=false/\w'.frozen? ⟨w.heap.size,2,none⟩=false/\w'.cell? ⟨w.heap.size,0,none⟩=some (rv w' (w.heap.size) 0)/\w'.cell? ⟨w.heap.size,1,none⟩=some (rv w' (w.heap.size) 1)/\w'.cell? ⟨w.heap.size,2,none⟩=some (rv w' (w.heap.size) 2)) ((refine KS.out _ ?_;(with_reducible (repeat(first | assumption | apply Abx.drew | apply Abx.drewN | apply Abx.set | (refine Abx.call ?_ (by assumption)))));done)) (first
  | (go_at_call_of 97 x;refine(T0.out _).mono ?_;rintro e w1 ⟨rfl,rfl⟩)
  | (go_at_call_of 97 y;refine(T1.out _).mono ?_;rintro e w2 ⟨rfl,rfl⟩)
  | (go_at_call_of 97 z;refine(T2.out _).mono ?_;rintro e w3 ⟨rfl,rfl⟩)
  | (go_at_call 127;refine(UN.out _).mono ?_;rintro e w4 ⟨rfl,b4⟩))
 have A2:Abx W w.heap.size 3 141 w4:=Abx.call (A3.drew) b4
 clear KS A3 b4
 go_wp2
 refine bodyPost_ret ?_ rfl ⟨rfl,?_⟩
 ·exact results_cell_row results115 _ _ (w.heap.size) _ _ (0,0) _ rfl (set3 A2) underlying141 rfl (by kernel_rfl)
 ·exact(((A2.set 0 _).set 1 _).set 2 _).ab AW.out (by omega)
theorem iG(n f i j:Nat)(w:World)(hn:1<=n/\n<=32)(hf:f<6)(hi:i<=n)(hj:j<=n):
  Calls prog 107 #[.int .i64 n,.int .i64 f,.int .i64 i,.int .i64 j] w fun e w'=>e=.returned (.tuple #[.agg #[.float .f64 (px n (cr n f i j)),.float .f64 (py n (cr n f i j)),.float .f64 (pz n (cr n f i j))],.bool true])/\Below w.heap.size w w':=by
 have CE:Hid (∀u,Calls prog 86 #[.int .i64 n,.int .i64 f,.int .i64 0,.int .i64 0] u fun e w'=>e=.returned (.int .i64 (nm n f 0 0:Nat))/\w'=u):=fun u=>by
  have h:=vS n f 0 0 u
  rw[show(0:Int)=((0:Nat):Int)from rfl,tR hn hf (by omega) (by omega)]at h
  exact h
 have U1:Hid (∀u,Calls prog 122 #[.int .i64 i,.int .i64 n] u fun e w'=>e=.returned (.bool true)/\w'=u):=fun u=>by
  have h:=wM i n u
  rw[decide_eq_true (show(0:Int)<=i by omega),decide_eq_true (show(i:Int)<=n by omega)]at h
  exact h
 have U2:Hid (∀u,Calls prog 122 #[.int .i64 j,.int .i64 n] u fun e w'=>e=.returned (.bool true)/\w'=u):=fun u=>by
  have h:=wM j n u
  rw[decide_eq_true (show(0:Int)<=j by omega),decide_eq_true (show(j:Int)<=n by omega)]at h
  exact h
 have PA:Hid (∀(k:Int) u,Calls prog 116 #[.int .i64 k,.int .i64 n] u fun e w'=> ∃r m,e=.returned (.float .f64 r)/\w'=u.drewN m/\Hid (IsC r (qo n k))):=fun k u=>wL k n u
 have PO:Hid (∀p q u,Hid (IsC p (qo n (2*i - n)))->Hid (IsC q (qo n (2*j - n)))->Calls prog 115 #[.int .i64 f,.float .f64 p,.float .f64 q] u fun e w'=>e=.returned (.agg #[.float .f64 (px n (cr n f i j)),.float .f64 (py n (cr n f i j)),.float .f64 (pz n (cr n f i j))])/\Below u.heap.size u w'):=fun p q u hp hq=>sF n f p q _ _ u hn.1 hn.2 hf hp hq
 generalize px n (cr n f i j)=a at*
 generalize py n (cr n f i j)=b at*
 generalize pz n (cr n f i j)=c at*
 have A0:=hid (bl1 w (.cells #[.float .f64 0,.float .f64 0,.float .f64 0] 141))
 have R0:=hid (heap_alloc_new w (.cells #[.float .f64 0,.float .f64 0,.float .f64 0] 141))
 have hnm:nm n f 0 0<6*n*n:=nm_lt hf (by omega) (by omega)
 have hpos:(0:Int)<=(nm n f 0 0:Nat):=by omega
 generalize((nm n f 0 0:Nat):Int)=nn at*
 have hi2:(i:Int)<=32:=by omega
 have hj2:(j:Int)<=32:=by omega
 have hn2:(n:Int)<=32:=by omega
 clear hnm hn hf hi hj
 go_enter func107,ntmps107
 go_wp2_with (first
  | (go_at_call 86;refine(CE.out _).mono ?_;rintro e w' ⟨rfl,rfl⟩)
  | (go_at_call_of 122 (i:Int);refine(U1.out _).mono ?_;rintro e w' ⟨rfl,rfl⟩)
  | (go_at_call_of 122 (j:Int);refine(U2.out _).mono ?_;rintro e w' ⟨rfl,rfl⟩))
 refine(PA.out _ _).mono ?_
 rintro e w1 ⟨p,m1,rfl,rfl,hp⟩
 go_wp2_with fail
 refine(PA.out _ _).mono ?_
 rintro e w1 ⟨q,m2,rfl,rfl,hq⟩
 go_wp2_with fail
 refine(PO.out _ _ _ hp hq).mono ?_
 rintro e w3 ⟨rfl,b3⟩
 have A3:Hid (Ab w w3):=Ab.call (Ab.drewN A0.out _) b3
 have r0:w3.heap[w.heap.size]? =some (.cells #[.float .f64 0,.float .f64 0,.float .f64 0] 141):=Ab.heap b3 R0.out
 obtain⟨⟨o0,o1,o2⟩,o3,o4,o5⟩:=rowfacts r0
 have R3:=hid r0
 clear r0 b3 A0 R0
 go_wp2
 refine bodyPost_ret ?_ rfl ⟨rfl,?_⟩
 ·exact cG results107 _ _ w.heap.size _ _ (0,0) _ _ rfl rfl (iP R3.out) underlying141 rfl (by kernel_rfl)
 ·exact((Ab.setk A3.out (by omega) _).setk (by omega) _).setk (by omega) _
theorem oW(n c:Nat)(w:World)(hn:1<=n/\n<=32)(hc:c<6*n*n):
  Calls prog 94 #[.int .i64 n,.int .i64 c] w fun e w'=>e=.returned (.tuple #[.agg #[.float .f64 (px n (MD n c)),.float .f64 (py n (MD n c)),.float .f64 (pz n (MD n c))],.bool true])/\Below w.heap.size w w':=by
 obtain⟨h1,h2,h3,-⟩:=iU hn.1 hc
 have PL:=hid (fun u=>mO n c hn hc u)
 have PA:Hid (∀(k:Int) u,Calls prog 116 #[.int .i64 k,.int .i64 n] u fun e w'=> ∃r m,e=.returned (.float .f64 r)/\w'=u.drewN m/\Hid (IsC r (qo n k))):=fun k u=>wL k n u
 have PO:Hid (∀p q u,Hid (IsC p (qo n (2*(ci n c:Nat)+1 - n)))->Hid (IsC q (qo n (2*(cj n c:Nat)+1 - n)))->Calls prog 115 #[.int .i64 (cf n c:Nat),.float .f64 p,.float .f64 q] u fun e w'=>e=.returned (.agg #[.float .f64 (px n (MD n c)),.float .f64 (py n (MD n c)),.float .f64 (pz n (MD n c))])/\Below u.heap.size u w'):=fun p q u hp hq=>sF n _ p q _ _ u hn.1 hn.2 h1 hp hq
 generalize px n (MD n c)=a at*
 generalize py n (MD n c)=b at*
 generalize pz n (MD n c)=d at*
 generalize cf n c=f at*
 have hi:((ci n c:Nat):Int)<=32:=by omega
 have hj:((cj n c:Nat):Int)<=32:=by omega
 have hn2:(n:Int)<=32:=by omega
 generalize ci n c=i at*
 generalize cj n c=j at*
 clear hn hc h1 h2 h3
 have A0:=hid (bl1 w (.cells #[.float .f64 0,.float .f64 0,.float .f64 0] 141))
 have R0:=hid (heap_alloc_new w (.cells #[.float .f64 0,.float .f64 0,.float .f64 0] 141))
 go_enter func94,ntmps94
 go_wp2_with fail
 refine(PL.out _).mono ?_
 rintro e w1 ⟨rfl,m0,rfl⟩
 go_wp2_with fail
 refine(PA.out _ _).mono ?_
 rintro e w1 ⟨p,m1,rfl,rfl,hp⟩
 go_wp2_with fail
 refine(PA.out _ _).mono ?_
 rintro e w1 ⟨q,m2,rfl,rfl,hq⟩
 go_wp2_with fail
 refine(PO.out _ _ _ hp hq).mono ?_
 rintro e w3 ⟨rfl,b3⟩
 have A3:Hid (Ab w w3):=Ab.call (Ab.drewN A0.out _) b3
 have r0:w3.heap[w.heap.size]? =some (.cells #[.float .f64 0,.float .f64 0,.float .f64 0] 141):=Ab.heap b3 R0.out
 obtain⟨⟨o0,o1,o2⟩,o3,o4,o5⟩:=rowfacts r0
 have R3:=hid r0
 clear r0 b3 A0 R0
 go_wp2
 refine bodyPost_ret ?_ rfl ⟨rfl,?_⟩
 ·exact cG results94 _ _ w.heap.size _ _ (0,0) _ _ rfl rfl (iP R3.out) underlying141 rfl (by kernel_rfl)
 ·exact((Ab.setk A3.out (by omega) _).setk (by omega) _).setk (by omega) _
end
end Go.Proofs.YtjheiemgfibgpaaGreatDoor
