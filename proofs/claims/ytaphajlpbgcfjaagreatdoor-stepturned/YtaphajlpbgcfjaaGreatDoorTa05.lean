/-
  Some of the texts of this proof, one behind the other.
-/
import Derived.Deep.Draws
import Derived.Test.YtaphajlpbgcfjaaGreatDoorTa04
set_option maxRecDepth 100000
set_option maxHeartbeats 400000000
namespace Go.Proofs.YtaphajlpbgcfjaaGreatDoor
open _root_.Go.Proofs.Tryz
section
open Tf Ieee
theorem pl_word{a b:Nat}(ha:a<9218868437227405312)(hb:b<9218868437227405312):plB a b=min (rung 52 0 (mv a+mv b)) 9218868437227405312:=by
 have ma:mg a=a:=bO (by omega)
 have mb:mg b=b:=bO (by omega)
 have na:ng a=false:=bV (by omega)
 have nb:ng b=false:=bV (by omega)
 have ea:sv a=(mv a:Int):=by unfold sv;rw[na,ma];rfl
 have eb:sv b=(mv b:Int):=by unfold sv;rw[nb,mb];rfl
 rw[jJ (Al a b (by omega) (by omega) (by omega) (by omega)),na,ea,eb]
 unfold rn
 have: ¬((mv a:Int)+(mv b:Int)<0):=by omega
 rw[decide_eq_false this]
 simp only[Bool.false_and,ite_self,Bool.false_eq_true,if_false]
 rw[show((mv a:Int)+(mv b:Int)).natAbs=mv a+mv b by omega]
theorem plB_nn{a b:Nat}(ha:a<=9218868437227405312)(hb:b<=9218868437227405312):plB a b<=9218868437227405312/\a<=plB a b/\b<=plB a b:=by
 by_cases ca:a=9218868437227405312
 ·by_cases cb:b=9218868437227405312
  ·subst ca;subst cb;decide
  ·have e:=pQ a b (by omega) (by rw[ca];decide) (by rw[bO (by omega)];omega)
   rw[jJ e,bV (by omega)]
   show 9218868437227405312<=_/\_<=9218868437227405312/\_<=9218868437227405312
   omega
 ·by_cases cb:b=9218868437227405312
  ·have e:=jA a b (by omega) (by rw[bO (by omega)];omega) (by rw[cb];decide)
   rw[jJ e,bV (by omega)]
   show 9218868437227405312<=_/\_<=9218868437227405312/\_<=9218868437227405312
   omega
  ·rw[pl_word (by omega) (by omega)]
   have h1:a<=rung 52 0 (mv a+mv b):=AI (by rw[Nat.pow_zero,Nat.mul_one];omega)
   have h2:b<=rung 52 0 (mv a+mv b):=AI (by rw[Nat.pow_zero,Nat.mul_one];omega)
   omega
end
section
open Tf Ieee
theorem mv_ONE:mv 4607182418800017408=2 ^ K:=iP
end
section
open Tf Ieee Cu
def cn(x:Nat):Nat:=canonB (negB x)
theorem jN{x:Nat}(h:x<18446744073709551616):cn x<18446744073709551616:=eF (bG h)
theorem bR{x:Nat}(_:x<18446744073709551616):(isN x=true/\canonB x=quiet)\/(mg x=0/\canonB x=0)\/(isN x=false/\mg x≠0/\canonB x=x):=by
 unfold canonB
 cases h:isN x
 ·by_cases c:mg x=0
  ·exact .inr (.inl ⟨c,by simp[c]⟩)
  ·exact .inr (.inr ⟨rfl,c,by simp[c]⟩)
 ·exact .inl ⟨rfl,by simp⟩
theorem lK{x:Nat}(hx:x<18446744073709551616):cn (canonB x)=cn x:=by
 have h1:=dZ hx
 have h2:=dW hx
 rcases bR hx with⟨h,e⟩ | ⟨h,e⟩ | ⟨h,k,e⟩
 ·rw[e];unfold cn canonB;rw[h1,h,if_pos rfl];decide
 ·rw[e];unfold cn
  have:canonB (negB x)=0:=by
   rcases bR (bG hx)with⟨a,b⟩ | ⟨a,b⟩ | ⟨a,a',b⟩
   ·rw[h1]at a;unfold isN at a;rw[h]at a;simp at a
   ·exact b
   ·rw[h2]at a';exact absurd h a'
  rw[this];decide
 ·rw[e]
theorem AJ(x:Nat):canonB (cn x)=cn x:=sW _
theorem mgc{x:Nat}(hx:x<18446744073709551616)(h:isN x=false):mg (canonB x)=mg x/\sv (canonB x)=sv x:=by
 rcases bR hx with⟨a,e⟩ | ⟨a,e⟩ | ⟨a,k,e⟩
 ·rw[h]at a;cases a
 ·rw[e]
  refine⟨by rw[a];decide,?_⟩
  unfold sv
  rw[a]
  have h0:mg 0=0:=by decide
  have h1:mv 0=0:=by decide
  rw[h0,h1];cases ng x<;>cases ng 0<;>rfl
 ·rw[e];exact⟨rfl,rfl⟩
theorem H4{x:Nat}(hx:x<18446744073709551616)(h:mg x=9218868437227405312):canonB x=x:=by
 rcases bR hx with⟨a,e⟩ | ⟨a,e⟩ | ⟨a,k,e⟩
 ·unfold isN at a;rw[h]at a;simp at a
 ·omega
 ·exact e
theorem wH{x:Nat}(h:isN x=true):isN (canonB x)=true:=by unfold canonB;rw[h,if_pos rfl];decide
theorem kC{a b:Nat}(ha:a<18446744073709551616)(hb:b<18446744073709551616):addB (canonB a) b=addB a b:=by
 rcases three a with h | h | h
 ·have hN:isN a=false:=by unfold isN;rw[decide_eq_false (by omega)]
  obtain⟨m,s⟩:=mgc ha hN
  rcases three b with k | k | k
  ·rw[eD a b ha hb h k,eD _ b (eF ha) hb (by rw[m];exact h) k,s]
  ·rw[bM (jA a b hb h k),bM (jA _ b hb (by rw[m];exact h) k)]
  ·rw[bF (bW a b (.inr k)),bF (bW _ b (.inr k))]
 ·rw[H4 ha h]
 ·rw[bF (bW a b (.inl h)),bF (bW _ b (.inl (wH h)))]
theorem fH{a b:Nat}(ha:a<18446744073709551616)(hb:b<18446744073709551616):sbB (canonB a) (canonB b)=sbB a b:=by
 unfold sbB
 rw[kC ha (bG (eF hb)),mF _ _ ha (bG (eF hb)),<- kC (bG (eF hb)) ha]
 have e:canonB (negB (canonB b))=canonB (negB b):=lK hb
 rw[e,kC (bG hb) ha,mF _ _ (bG hb) ha]
theorem tD{a b:Nat}(ha:a<18446744073709551616)(hb:b<18446744073709551616):sbB (cn a) (cn b)=cn (sbB a b):=by
 unfold cn;rw[fH (bG ha) (bG hb),Dm ha hb]
theorem eP{a b:Nat}(ha:a<18446744073709551616)(hb:b<18446744073709551616):sbB b a=cn (sbB a b):=sbB_anti ha hb
theorem AK(s:Bool)(m:Nat)(p:Int):double.nearest (!s) m p=negB (double.nearest s m p):=by
 have hw: ∀(s:Bool) r,r<9223372036854775808->double.word (!s) r=negB (double.word s r):=by
  intro s r hr
  rw[fO,fO]
  cases s
  ·simp only[Bool.not_false,if_true,Bool.false_eq_true,if_false]
   unfold negB;rw[bV hr];simp;omega
  ·simp only[Bool.not_true,if_true,Bool.false_eq_true,if_false]
   unfold negB;rw[jH (by omega)];simp
 unfold Format.nearest
 by_cases c:m=0
 ·rw[if_pos c,if_pos c];exact hw s 0 (by omega)
 ·rw[if_neg c,if_neg c]
  have hm: ∀x,min x double.infRung<9223372036854775808:=fun x=>by
   have:=Nat.min_le_right x double.infRung
   rw[cO]at this ⊢;omega
  exact hw s _ (hm _)
theorem H6(d:Datum)(h: ∀s t,d≠ .nan s t):double.write d.opposite=negB (double.write d):=by
 cases d with
 | number s m i=>exact AK s m i
 | infinity s=>cases s<;>decide+kernel
 | nan s t=>exact absurd rfl (h s t)
theorem FK(d e:Datum):d.opposite.product e=(d.product e).map Datum.opposite/\(∀s t,d.product e≠some (.nan s t)):=by
 cases d<;>cases e<;>simp[Datum.opposite,Datum.product]<;>(try split)<;>simp[Datum.opposite]
theorem FM(p:Nat)(d e:Datum):d.opposite.quotient p e=(d.quotient p e).map Datum.opposite/\(∀s t,d.quotient p e≠some (.nan s t)):=by
 cases d<;>cases e<;>simp[Datum.opposite,Datum.quotient]<;>(try split)<;>(try split)<;>simp[Datum.opposite]
theorem FO{o:Option Datum}(h: ∀s t,o≠some (.nan s t)):(o.map Datum.opposite).map double.write=(o.map double.write).map negB:=by
 cases o with
 | none=>rfl
 | some d=>simp only[Option.map_some];rw[H6 d (fun s t e=>h s t (by rw[e]))]
theorem AM{a b r:Nat}(h:double.div a b=some r):r<18446744073709551616:=by
 have hr: ∃d,double.write d=r:=by
  have h':((double.read a).quotient 54 (double.read b)).map double.write=some r:=h
  rw[Option.map_eq_some_iff]at h'
  obtain⟨d,_,e⟩:=h'
  exact⟨d,e⟩
 obtain⟨d,e⟩:=hr
 have hw: ∀(s:Bool) q,q<9223372036854775808->double.word s q<18446744073709551616:=by
  intro s q hq;rw[fO];split<;>omega
 have hb:double.binade=4503599627370496:=d_bin
 have hi:double.infRung=9218868437227405312:=cO
 rw[<- e]
 cases d with
 | number s m i=>
  unfold Format.write Format.nearest
  dsimp only
  split
  ·exact hw _ _ (by omega)
  ·exact hw _ _ (Nat.lt_of_le_of_lt (Nat.min_le_right _ _) (by rw[hi];omega))
 | infinity s=>exact hw _ _ (by rw[hi];omega)
 | nan s t=>
  refine hw _ _ ?_
  have:=Nat.mod_lt t (show 0<double.binade by rw[hb];omega)
  rw[hi];rw[hb]at this ⊢;omega
theorem yN{a b:Nat}(ha:a<18446744073709551616):dvB (negB a) b=cn (dvB a b):=by
 have key:double.div (negB a) b=(double.div a b).map negB:=by
  show((double.read (negB a)).quotient 54 (double.read b)).map double.write=(((double.read a).quotient 54 (double.read b)).map double.write).map negB
  rw[lF a ha,(FM 54 _ _).1]
  exact FO (FM 54 _ _).2
 cases h:double.div a b with
 | none=>rw[h]at key;rw[iE h,iE key];decide
 | some r=>rw[h]at key;rw[gI h,gI key,lK (AM h)];rfl
theorem AO(b:Nat)(h1:mg b≠0)(h2:mg b<9218868437227405312)(z:Nat)(hz:mg z=0):dvB z b=0:=by
 obtain⟨m,a,e,k⟩:=cV double b (by rw[dP,cO];exact h2)
 have hm:m≠0:=by
  intro h0
  rw[h0,Nat.zero_mul,dP]at k
  have k2:mv (mg b)=0:=k.symm
  refine h1 ?_
  unfold mv mag at k2
  split at k2
  ·exact k2
  ·exact absurd k2 (Nat.mul_ne_zero (by have:=Nat.two_pow_pos 52;omega) (by have:=Nat.two_pow_pos (mg b/2 ^ 52 - 1);omega))
 have hd: ∃s p,double.div z b=some (double.nearest s 0 p):=by
  have hq: ∃s p,(double.read z).quotient 54 (double.read b)=some (.number s 0 p):=by
   rw[e,Ht hz]
   unfold Datum.quotient
   dsimp only
   rw[if_neg hm]
   simp
  obtain⟨s,p,hq⟩:=hq
  refine⟨s,p,?_⟩
  show((double.read z).quotient 54 (double.read b)).map double.write=_
  rw[hq];rfl
 obtain⟨s,p,e⟩:=hd
 rw[gI e]
 unfold Format.nearest
 rw[if_pos rfl]
 cases s<;>decide+kernel
theorem mul_key{a b:Nat}(ha:a<18446744073709551616):double.mul (negB a) b=(double.mul a b).map negB:=by
 show((double.read (negB a)).product (double.read b)).map double.write=(((double.read a).product (double.read b)).map double.write).map negB
 rw[lF a ha,(FK _ _).1]
 exact FO (FK _ _).2
theorem FP{a b:Nat}(ha:a<18446744073709551616)(_:b<18446744073709551616):canonB (mlB (negB a) b)=cn (mlB a b):=by
 have key:=mul_key (b:=b) ha
 cases h:double.mul a b with
 | none=>rw[h]at key;rw[cW h,cW key];decide
 | some r=>rw[h]at key;rw[dE h,dE key];rfl
theorem jO{a b:Nat}(ha:a<18446744073709551616)(hb:b<18446744073709551616):canonB (mlB (canonB a) b)=canonB (mlB a b):=by
 rcases bR ha with⟨h,e⟩ | ⟨h,e⟩ | ⟨h,k,e⟩
 ·rw[e,cW (dM a b (.inl h)),cW (dM quiet b (.inl (by decide)))]
 ·rw[e]
  cases hn:ng a
  ·have:a=0:=by have:=fA hn;rw[bO this]at h;exact h
   rw[this]
  ·have h2:a=negB 0:=by
    have:=fP hn;unfold mg at h;show a=(if ng 0 then _ else _);rw[show ng 0=false by decide];simp;omega
   rw[h2,FP (by omega) hb]
   -- a nought times b,both ways
   have hz: ∀r,double.mul 0 b=some r->mg r=0:=by
    intro r hr
    rcases three b with k | k | k
    ·rw[vY 0 b (by omega) hb (by decide) k]at hr
     have h0:mv (mg 0)=0:=by decide
     rw[h0,Nat.zero_mul]at hr
     have h1:min (rung 52 1074 0) 9218868437227405312=0:=by decide+kernel
     rw[h1]at hr
     cases hr
     cases(ng 0 ^^ ng b)<;>decide
    ·rw[nD 0 b (by omega) hb (by decide) k,if_pos (by decide)]at hr;cases hr
    ·rw[dM 0 b (.inr k)]at hr;cases hr
   cases hm:double.mul 0 b with
   | none=>rw[cW hm];decide
   | some r=>
    rw[dE hm]
    have hr:=jK hm (by omega) hb
    have h0:=hz r hm
    rcases bR hr.1 with⟨a',b'⟩ | ⟨a',b'⟩ | ⟨a',k',b'⟩
    ·rw[hr.2]at a';cases a'
    ·rw[b',<- lK hr.1,b'];decide
    ·exact absurd h0 k'
 ·rw[e]
theorem Ds{a b:Nat}(ha:a<18446744073709551616)(hb:b<18446744073709551616):canonB (mlB (cn a) b)=cn (mlB a b):=by
 unfold cn;rw[jO (bG ha) hb,FP ha hb];rfl
theorem mlB_cn'{a b:Nat}(ha:a<18446744073709551616)(hb:b<18446744073709551616):canonB (mlB a (cn b))=cn (mlB a b):=by
 rw[cH,Ds hb ha,cH]
theorem iT{x y z:Nat}(hx:x<18446744073709551616):lnB (cn x) y z=lnB x y z:=lnB_cn hx
theorem kD{x y z:Nat}(hx:x<18446744073709551616)(hy:y<18446744073709551616):lnB x (cn y) z=lnB x y z:=by
 rw[sX hx (jN hy),iT hy,sX hy hx]
theorem mI{x y z:Nat}(hx:x<18446744073709551616)(hy:y<18446744073709551616)(hz:z<18446744073709551616):lnB x y (cn z)=lnB x y z:=by
 rw[sY hx hy (jN hz),kD hx hz,sY hx hz hy]
def fB(k:Int):Nat:=rn false (k*one)
def qo(n:Nat)(k:Int):Nat:=dvB (fB k) (fB n)
theorem fB_lt(k:Int):fB k<18446744073709551616:=rn_lt _ _
theorem pY(a b:Nat):dvB a b<18446744073709551616:=by
 unfold dvB
 cases h:double.div a b with
 | none=>decide
 | some r=>exact eF (AM h)
theorem mW(n:Nat)(k:Int):qo n k<18446744073709551616:=pY _ _
theorem fB_neg(k:Int):fB (-k)=cn (fB k):=by unfold fB cn;rw[FF,Int.neg_mul]
theorem fB_norm: ∀n:Nat,n<33->1<=n->mg (fB n)≠0/\mg (fB n)<9218868437227405312:=by decide+kernel
theorem tE{n:Nat}(h1:1<=n)(h2:n<=32)(k:Int):qo n (-k)=cn (qo n k):=by
 obtain⟨b1,b2⟩:=fB_norm n (by omega) h1
 unfold qo
 rw[fB_neg]
 have hx:=fB_lt k
 unfold cn
 rcases bR (bG hx)with⟨h,e⟩ | ⟨h,e⟩ | ⟨h,k',e⟩
 ·rw[dZ hx]at h
  have:isN (fB k)=false:=Dc _ _
  rw[this]at h;cases h
 ·rw[e,AO _ b1 b2 0 (by decide),AO _ b1 b2 (fB k) (by rw[<- dW hx];exact h)];decide
 ·rw[e,yN hx];rfl
theorem qo_one: ∀n:Nat,n<33->1<=n->qo n n=4607182418800017408:=by decide+kernel
def pL(n:Nat)(v:P3):Nat:=lnB (qo n v.1) (qo n v.2.1) (qo n v.2.2)
def px(n:Nat)(v:P3):Nat:=unB (pL n v) (qo n v.1)
def py(n:Nat)(v:P3):Nat:=unB (pL n v) (qo n v.2.1)
def pz(n:Nat)(v:P3):Nat:=unB (pL n v) (qo n v.2.2)
theorem Dt{l:Nat}(hl:l<18446744073709551616)(hn:ng l=false)(h:lvB l=true):mg l≠0/\mg l<9218868437227405312:=by
 rw[lv_class hl hn]at h
 unfold classB at h
 refine⟨fun c=> ?_,?_⟩
 ·rw[if_pos c]at h;revert h;decide
 ·rcases Nat.lt_or_ge (mg l) 9218868437227405312 with k | k
  ·exact k
  ·rw[if_neg (by omega),if_neg (by omega),if_neg (by omega)]at h
   split at h<;>exact absurd h (by decide)
theorem oM{y l:Nat}(hy:isN y=true):dvB y l=quiet:=by
 refine iE ?_
 rw[bX]at hy
 have ei:=cO
 show((double.read y).quotient 54 (double.read l)).map double.write=none
 rw[eW double y gS (by rw[dP];omega)]
 cases double.read l<;>rfl
theorem unB_cn(l x:Nat)(hl:l<18446744073709551616)(hn:ng l=false)(hx:x<18446744073709551616):unB l (cn x)=cn (unB l x):=by
 unfold unB
 by_cases c:lvB l=true
 ·rw[if_pos c,if_pos c]
  unfold cn
  rcases bR (bG hx)with⟨h,e⟩ | ⟨h,e⟩ | ⟨h,k',e⟩
  ·have hxn:isN x=true:=by rw[<- dZ hx];exact h
   rw[e,oM (y:=quiet) (by decide),oM hxn];decide
  ·have hz:mg x=0:=by rw[<- dW hx];exact h
   have hl2:=Dt hl hn c
   rw[e,AO l hl2.1 hl2.2 0 (by decide),AO l hl2.1 hl2.2 x hz];decide
  ·rw[e,yN hx];rfl
 ·rw[if_neg c,if_neg c];decide
theorem pL_lt(n:Nat)(v:P3):pL n v<18446744073709551616:=rtB_lt _
theorem pL_ng(n:Nat)(v:P3):ng (pL n v)=false:=rtB_ng _
theorem cQ(n:Nat)(v:P3):px n v<18446744073709551616:=Dr _ _
theorem dF(n:Nat)(v:P3):py n v<18446744073709551616:=Dr _ _
theorem dG(n:Nat)(v:P3):pz n v<18446744073709551616:=Dr _ _
def op8(k:Nat)(v:P3):P3:=match k with | 0=>(v.2.1,v.1,v.2.2) | 1=>(v.1,v.2.2,v.2.1) | _=>(-v.1,v.2.1,v.2.2)
theorem tF(P:Nat->Prop)(h0:P 0)(h1:P 1)(h2: ∀k,P (k+2)): ∀k,P k:=by
 intro k
 match k with
 | 0=>exact h0
 | 1=>exact h1
 | k+2=>exact h2 k
theorem pL_op{n:Nat}(h1:1<=n)(h2:n<=32)(v:P3): ∀k,pL n (op8 k v)=pL n v:=by
 refine tF _ ?_ ?_ (fun k=> ?_)
 ·exact sX (mW _ _) (mW _ _)
 ·exact sY (mW _ _) (mW _ _) (mW _ _)
 ·show lnB (qo n (-v.1)) _ _=_
  rw[tE h1 h2,iT (mW _ _)];rfl
theorem wJ{n:Nat}(h1:1<=n)(h2:n<=32)(v:P3):px n (op8 0 v)=py n v/\py n (op8 0 v)=px n v/\pz n (op8 0 v)=pz n v:=by
 have h:=pL_op h1 h2 v 0
 unfold px py pz;rw[h];exact⟨rfl,rfl,rfl⟩
theorem wL{n:Nat}(h1:1<=n)(h2:n<=32)(v:P3):px n (op8 1 v)=px n v/\py n (op8 1 v)=pz n v/\pz n (op8 1 v)=py n v:=by
 have h:=pL_op h1 h2 v 1
 unfold px py pz;rw[h];exact⟨rfl,rfl,rfl⟩
theorem wM{n:Nat}(h1:1<=n)(h2:n<=32)(v:P3)(k:Nat):px n (op8 (k+2) v)=cn (px n v)/\py n (op8 (k+2) v)=py n v/\pz n (op8 (k+2) v)=pz n v:=by
 have h:=pL_op h1 h2 v (k+2)
 unfold px py pz
 rw[h]
 refine⟨?_,rfl,rfl⟩
 show unB _ (qo n (-v.1))=_
 rw[tE h1 h2,unB_cn _ _ (pL_lt _ _) (pL_ng _ _) (mW _ _)]
def gp(n:Nat)(u v:P3):Nat:=lnB (sbB (px n u) (px n v)) (sbB (py n u) (py n v)) (sbB (pz n u) (pz n v))
theorem gp_op{n:Nat}(h1:1<=n)(h2:n<=32)(u v:P3): ∀k,gp n (op8 k u) (op8 k v)=gp n u v:=by
 have bx:=bE (cQ n u) (cQ n v)
 have hy:=bE (dF n u) (dF n v)
 have hz:=bE (dG n u) (dG n v)
 refine tF _ ?_ ?_ (fun k=> ?_)
 ·obtain⟨a,b,c⟩:=wJ h1 h2 u
  obtain⟨d,e,f⟩:=wJ h1 h2 v
  unfold gp;rw[a,b,c,d,e,f];exact sX hy bx
 ·obtain⟨a,b,c⟩:=wL h1 h2 u
  obtain⟨d,e,f⟩:=wL h1 h2 v
  unfold gp;rw[a,b,c,d,e,f];exact sY bx hz hy
 ·obtain⟨a,b,c⟩:=wM h1 h2 u k
  obtain⟨d,e,f⟩:=wM h1 h2 v k
  unfold gp;rw[a,b,c,d,e,f,tD (cQ _ _) (cQ _ _),iT bx]
theorem yO(n:Nat)(u v:P3):gp n v u=gp n u v:=by
 unfold gp
 rw[eP (cQ n u) (cQ n v),eP (dF n u) (dF n v),eP (dG n u) (dG n v)]
 have bx:=bE (cQ n u) (cQ n v)
 have hy:=bE (dF n u) (dF n v)
 have hz:=bE (dG n u) (dG n v)
 rw[iT bx,kD bx hy,mI bx hy hz]
def cl(x y z u v t:Nat):Nat:=lnB (sbB (mlB y t) (mlB z v)) (sbB (mlB z u) (mlB x t)) (sbB (mlB x v) (mlB y u))
theorem cl_12{x y z u v t:Nat}(hx:x<18446744073709551616)(hy:y<18446744073709551616)(hz:z<18446744073709551616)(hu:u<18446744073709551616)(hv:v<18446744073709551616)(ht:t<18446744073709551616):cl y x z v u t=cl x y z u v t:=by
 unfold cl
 have a:=bE (aQ hy ht) (aQ hz hv)
 have b:=bE (aQ hz hu) (aQ hx ht)
 have c:=bE (aQ hx hv) (aQ hy hu)
 rw[eP (aQ hy ht) (aQ hz hv),eP (aQ hz hu) (aQ hx ht),eP (aQ hx hv) (aQ hy hu)]
 rw[iT b,kD b a,mI b a c]
 exact sX b a
theorem cl_23{x y z u v t:Nat}(hx:x<18446744073709551616)(hy:y<18446744073709551616)(hz:z<18446744073709551616)(hu:u<18446744073709551616)(hv:v<18446744073709551616)(ht:t<18446744073709551616):cl x z y u t v=cl x y z u v t:=by
 unfold cl
 have a:=bE (aQ hy ht) (aQ hz hv)
 have b:=bE (aQ hz hu) (aQ hx ht)
 have c:=bE (aQ hx hv) (aQ hy hu)
 rw[eP (aQ hy ht) (aQ hz hv),eP (aQ hz hu) (aQ hx ht),eP (aQ hx hv) (aQ hy hu)]
 rw[iT a,kD a c,mI a c b]
 exact sY a c b
theorem sb_one{a b c d:Nat}(ha:a<18446744073709551616)(hb:b<18446744073709551616)(hc:c<18446744073709551616)(hd:d<18446744073709551616):sbB (mlB (cn a) b) (mlB (cn c) d)=cn (sbB (mlB a b) (mlB c d)):=by
 rw[<- fH (aQ (jN ha) hb) (aQ (jN hc) hd),Ds ha hb,Ds hc hd,tD (aQ ha hb) (aQ hc hd)]
theorem Du{a b c d:Nat}(ha:a<18446744073709551616)(hb:b<18446744073709551616)(hc:c<18446744073709551616)(hd:d<18446744073709551616):sbB (mlB a (cn b)) (mlB (cn c) d)=cn (sbB (mlB a b) (mlB c d)):=by
 rw[cH a,sb_one hb ha hc hd,cH b]
theorem Dv{a b c d:Nat}(ha:a<18446744073709551616)(hb:b<18446744073709551616)(hc:c<18446744073709551616)(hd:d<18446744073709551616):sbB (mlB a (cn b)) (mlB c (cn d))=cn (sbB (mlB a b) (mlB c d)):=by
 rw[cH c,Du ha hb hd hc,cH d]
theorem cl_n1{x y z u v t:Nat}(hx:x<18446744073709551616)(hy:y<18446744073709551616)(hz:z<18446744073709551616)(hu:u<18446744073709551616)(hv:v<18446744073709551616)(ht:t<18446744073709551616):cl (cn x) y z (cn u) v t=cl x y z u v t:=by
 unfold cl
 have a:=bE (aQ hy ht) (aQ hz hv)
 have b:=bE (aQ hz hu) (aQ hx ht)
 have c:=bE (aQ hx hv) (aQ hy hu)
 rw[Du hz hu hx ht,cH (cn x) v,cH y (cn u),Du hv hx hu hy,cH v x,cH u y,kD a b,mI a b c]
theorem cl_rot{x y z u v t:Nat}(hx:x<18446744073709551616)(hy:y<18446744073709551616)(hz:z<18446744073709551616)(hu:u<18446744073709551616)(hv:v<18446744073709551616)(ht:t<18446744073709551616):cl u v t (cn x) (cn y) (cn z)=cl x y z u v t:=by
 unfold cl
 have a:=bE (aQ hy ht) (aQ hz hv)
 have b:=bE (aQ hz hu) (aQ hx ht)
 have c:=bE (aQ hx hv) (aQ hy hu)
 rw[Dv hv hz ht hy,Dv ht hx hu hz,Dv hu hy hv hx,cH v z,cH t y,cH t x,cH u z,cH u y,cH v x]
 rw[eP (aQ hy ht) (aQ hz hv),eP (aQ hz hu) (aQ hx ht),eP (aQ hx hv) (aQ hy hu)]
 rw[iT (jN a),iT a,kD a (jN b),kD a b,mI a b (jN c),mI a b c]
def ar(n:Nat)(p q r s:P3):Nat:=cl (sbB (px n r) (px n p)) (sbB (py n r) (py n p)) (sbB (pz n r) (pz n p)) (sbB (px n s) (px n q)) (sbB (py n s) (py n q)) (sbB (pz n s) (pz n q))
theorem ar_op{n:Nat}(h1:1<=n)(h2:n<=32)(p q r s:P3): ∀k,ar n (op8 k p) (op8 k q) (op8 k r) (op8 k s)=ar n p q r s:=by
 have bx:=bE (cQ n r) (cQ n p)
 have hy:=bE (dF n r) (dF n p)
 have hz:=bE (dG n r) (dG n p)
 have hu:=bE (cQ n s) (cQ n q)
 have hv:=bE (dF n s) (dF n q)
 have ht:=bE (dG n s) (dG n q)
 refine tF _ ?_ ?_ (fun k=> ?_)
 ·obtain⟨a1,a2,a3⟩:=wJ h1 h2 p
  obtain⟨b1,b2,b3⟩:=wJ h1 h2 q
  obtain⟨c1,c2,c3⟩:=wJ h1 h2 r
  obtain⟨d1,d2,d3⟩:=wJ h1 h2 s
  unfold ar;rw[a1,a2,a3,b1,b2,b3,c1,c2,c3,d1,d2,d3];exact cl_12 bx hy hz hu hv ht
 ·obtain⟨a1,a2,a3⟩:=wL h1 h2 p
  obtain⟨b1,b2,b3⟩:=wL h1 h2 q
  obtain⟨c1,c2,c3⟩:=wL h1 h2 r
  obtain⟨d1,d2,d3⟩:=wL h1 h2 s
  unfold ar;rw[a1,a2,a3,b1,b2,b3,c1,c2,c3,d1,d2,d3];exact cl_23 bx hy hz hu hv ht
 ·obtain⟨a1,a2,a3⟩:=wM h1 h2 p k
  obtain⟨b1,b2,b3⟩:=wM h1 h2 q k
  obtain⟨c1,c2,c3⟩:=wM h1 h2 r k
  obtain⟨d1,d2,d3⟩:=wM h1 h2 s k
  unfold ar;rw[a1,a2,a3,b1,b2,b3,c1,c2,c3,d1,d2,d3,tD (cQ _ _) (cQ _ _),tD (cQ _ _) (cQ _ _)];exact cl_n1 bx hy hz hu hv ht
theorem ar_cyc(n:Nat)(p q r s:P3):ar n q r s p=ar n p q r s:=by
 have bx:=bE (cQ n r) (cQ n p)
 have hy:=bE (dF n r) (dF n p)
 have hz:=bE (dG n r) (dG n p)
 have hu:=bE (cQ n s) (cQ n q)
 have hv:=bE (dF n s) (dF n q)
 have ht:=bE (dG n s) (dG n q)
 unfold ar
 rw[eP (cQ n r) (cQ n p),eP (dF n r) (dF n p),eP (dG n r) (dG n p)]
 exact cl_rot bx hy hz hu hv ht
def rops(t:Nat):List Nat:=[[],[0,2,1,0,2,0,1,0],[0,2,0,1],[1,0,2,0],[1,0,2,0,1,0],[2,0],[0,1],[2,1,0,2,1,0],[2,1,0,2,0,1],[2,0,2,0],[2,1],[2,0,2,1,0,2,1,0],[0,2],[2,0,2,1,0,2,0,1],[2,0,2,1],[0,2,1,0,2,0],[1,0],[2,0,1,0],[2,0,2,0,1,0],[0,2,1,0],[0,2,1,0,2,1],[1,0,2,1],[2,1,0,2],[2,0,2,1,0,2]].getD t []
theorem pZ(t:Nat)(ht:t<24)(v:P3):ro t v=(rops t).foldr op8 v:=by
 obtain⟨a,b,c⟩:=v
 have hl:t=0\/t=1\/t=2\/t=3\/t=4\/t=5\/t=6\/t=7\/t=8\/t=9\/t=10\/t=11\/t=12\/t=13\/t=14\/t=15\/t=16\/t=17\/t=18\/t=19\/t=20\/t=21\/t=22\/t=23:=by omega
 rcases hl with rfl | rfl | rfl | rfl | rfl | rfl | rfl | rfl | rfl | rfl | rfl | rfl | rfl | rfl | rfl | rfl | rfl | rfl | rfl | rfl | rfl | rfl | rfl | rfl<;>simp[ro,rX,rY,rZ,cC,prp,cx,pl,sc,rops,op8]
theorem gp_ro{n:Nat}(h1:1<=n)(h2:n<=32)(t:Nat)(ht:t<24)(u v:P3):gp n (ro t u) (ro t v)=gp n u v:=by
 rw[pZ t ht,pZ t ht]
 generalize rops t=l
 induction l with
 | nil=>rfl
 | cons k l ih=>simp only[List.foldr_cons];rw[gp_op h1 h2,ih]
theorem ar_ro{n:Nat}(h1:1<=n)(h2:n<=32)(t:Nat)(ht:t<24)(p q r s:P3):ar n (ro t p) (ro t q) (ro t r) (ro t s)=ar n p q r s:=by
 rw[pZ t ht,pZ t ht,pZ t ht,pZ t ht]
 generalize rops t=l
 induction l with
 | nil=>rfl
 | cons k l ih=>simp only[List.foldr_cons];rw[ar_op h1 h2,ih]
end
section
open Tf Ieee Cu
theorem fV{n M c s t k:Nat}(hn:1<=n)(hM:6*n*n=M)(hc:c<M)(hs:s<4)(ht:t<24)(hk:k<M):
  (tnC n t c<M/\tnS n t c<4/\bsC n c s<M/\bsS n c s<4/\tnS n t (bsC n c s)<4)/\bsC n (tnC n t c) ((s+tnS n t c)%4)=tnC n t (bsC n c s)/\bsS n (tnC n t c) ((s+tnS n t c)%4)=(bsS n c s+tnS n t (bsC n c s))%4/\(tnC n t k=tnC n t c ↔ k=c)/\tnC n 0 c=c/\tnS n 0 c=0:=by
 subst hM
 obtain⟨f,a,b,hf,ha,hb,rfl⟩:=sD hn hc hs
 obtain⟨t1,t2⟩:=mV t ht f hf
 obtain⟨f1,f2⟩:=vO f hf s hs
 obtain⟨u1,u2⟩:=mV t ht _ f1
 obtain⟨b1,b2⟩:=qU (f:=f) hs ha hb
 obtain⟨c1,c2⟩:=nS ht hf hs ha hb
 obtain⟨z1,z2⟩:=tf_zero f hf
 obtain⟨d1,d2⟩:=nS (t:=0) (by omega) hf hs ha hb
 have hq:(s+tq t f)%4<4:=by omega
 have hzero:tnC n 0 (Pn n f s a b)=Pn n f s a b/\tnS n 0 (Pn n f s a b)=0:=by
  rw[d1,d2,z1,z2,Nat.add_zero,Nat.mod_eq_of_lt hs];exact⟨rfl,rfl⟩
 have hinj:tnC n t k=tnC n t (Pn n f s a b) ↔ k=Pn n f s a b:=by
  obtain⟨f',a',b',hf',ha',hb',rfl⟩:=sD hn hk hs
  obtain⟨g1,g2⟩:=nS ht hf' hs ha' hb'
  refine⟨fun e=> ?_,fun e=>by rw[e]⟩
  rw[g1,c1]at e
  have e1:=(pK (f:=tf t f') (show(s+tq t f')%4<4 by omega) ha' hb').1
  have e2:=(pK (f:=tf t f) hq ha hb).1
  rw[e,e2]at e1
  have ef:=tf_inj t ht f hf f' hf' e1
  subst ef
  obtain⟨_,h1,h2⟩:=Pn_inj hq ha' hb' ha hb e
  rw[h1,h2]
 obtain⟨v1,v2⟩:=nf_tf t ht f hf s hs
 by_cases h:a+1<n
 ·rw[if_pos h]at b1 b2
  obtain⟨e1,e2⟩:=nS (t:=t) (f:=f) (s:=s) (b:=b) ht hf hs h hb
  obtain⟨g1,g2⟩:=qU (f:=tf t f) hq ha hb
  rw[if_pos h]at g1 g2
  rw[b1,b2,e1,e2,c1,c2,g1,g2]
  refine⟨⟨qT t1 ha hb,t2,qT hf h hb,by omega,t2⟩,rfl,by omega,?_,hzero⟩
  rw[<- c1];exact hinj
 ·rw[if_neg h]at b1 b2
  have h0:0<n:=by omega
  obtain⟨e1,e2⟩:=nS (t:=t) ht f1 f2 h0 hb
  obtain⟨g1,g2⟩:=qU (f:=tf t f) hq ha hb
  rw[if_neg h,v1,v2]at g1
  rw[if_neg h,v2]at g2
  rw[b1,b2,e1,e2,c1,c2,g1,g2]
  refine⟨⟨qT t1 ha hb,t2,qT f1 h0 hb,by omega,u2⟩,rfl,by omega,?_,hzero⟩
  rw[<- c1];exact hinj
def cr(n f i j:Nat):P3:=pl (sc n (cC f)) (pl (sc (2*i - n) (cR f)) (sc (2*j - n) (cU f)))
def e1(n f s i j:Nat):P3:=match s with | 0=>cr n f (i+1) j | 1=>cr n f i (j+1) | 2=>cr n f i j | _=>cr n f i j
def e2(n f s i j:Nat):P3:=match s with | 0=>cr n f (i+1) (j+1) | 1=>cr n f (i+1) (j+1) | 2=>cr n f i (j+1) | _=>cr n f (i+1) j
def Ep(n f s i j:Nat):P3:=pl (pl (md n f i j) (wy f s)) (wy f ((s+1)%4))
def Em(n f s i j:Nat):P3:=pl (pl (md n f i j) (wy f s)) (sc (-1) (wy f ((s+1)%4)))
theorem e_cases{n f s i j:Nat}(hf:f<6)(hs:s<4):(e1 n f s i j=Ep n f s i j/\e2 n f s i j=Em n f s i j)\/(e1 n f s i j=Em n f s i j/\e2 n f s i j=Ep n f s i j):=by
 rcases Cu.four hs with rfl | rfl | rfl | rfl
 ·right
  rcases six hf with rfl | rfl | rfl | rfl | rfl | rfl<;>simp only[e1,e2,Ep,Em,cr,md,pl,sc,cC,cR,cU,wy,Nat.reduceAdd,Nat.reduceMod,Prod.mk.injEq]<;>omega
 ·left
  rcases six hf with rfl | rfl | rfl | rfl | rfl | rfl<;>simp only[e1,e2,Ep,Em,cr,md,pl,sc,cC,cR,cU,wy,Nat.reduceAdd,Nat.reduceMod,Prod.mk.injEq]<;>omega
 ·left
  rcases six hf with rfl | rfl | rfl | rfl | rfl | rfl<;>simp only[e1,e2,Ep,Em,cr,md,pl,sc,cC,cR,cU,wy,Nat.reduceAdd,Nat.reduceMod,Prod.mk.injEq]<;>omega
 ·right
  rcases six hf with rfl | rfl | rfl | rfl | rfl | rfl<;>simp only[e1,e2,Ep,Em,cr,md,pl,sc,cC,cR,cU,wy,Nat.reduceAdd,Nat.reduceMod,Prod.mk.injEq]<;>omega
def MD(n c:Nat):P3:=md n (cf n c) (ci n c) (cj n c)
def C1(n c s:Nat):P3:=e1 n (cf n c) s (ci n c) (cj n c)
def C2(n c s:Nat):P3:=e2 n (cf n c) s (ci n c) (cj n c)
def EP(n c s:Nat):P3:=Ep n (cf n c) s (ci n c) (cj n c)
def EM(n c s:Nat):P3:=Em n (cf n c) s (ci n c) (cj n c)
def LnC(n c s:Nat):Nat:=gp n (C1 n c s) (C2 n c s)
def GpC(n c s:Nat):Nat:=gp n (MD n c) (MD n (bsC n c s))
def ArC(n c:Nat):Nat:=ar n (cr n (cf n c) (ci n c) (cj n c)) (cr n (cf n c) (ci n c+1) (cj n c)) (cr n (cf n c) (ci n c+1) (cj n c+1)) (cr n (cf n c) (ci n c) (cj n c+1))
theorem yP{n c s:Nat}(hn:1<=n)(hc:c<6*n*n)(hs:s<4):LnC n c s=gp n (EP n c s) (EM n c s):=by
 have hf:=(fL hn hc).1
 unfold LnC C1 C2 EP EM
 rcases e_cases (n:=n) (i:=ci n c) (j:=cj n c) hf hs with⟨a,b⟩ | ⟨a,b⟩
 ·rw[a,b]
 ·rw[a,b,yO]
theorem MD_Pn{n f s a b:Nat}(hf:f<6)(hs:s<4)(ha:a<n)(hb:b<n):MD n (Pn n f s a b)=ms n f s a b/\cf n (Pn n f s a b)=f:=by
 have h:=nR (s:=s) ha hb
 obtain⟨h1,h2,h3⟩:=xU (f:=f) h.1 h.2
 unfold MD Pn
 rw[h1,h2,h3,vP hf hs ha hb]
 exact⟨rfl,rfl⟩
theorem wN(n c s:Nat):EP n c s=pl (pl (MD n c) (wy (cf n c) s)) (wy (cf n c) ((s+1)%4)):=rfl
theorem wO(n c s:Nat):EM n c s=pl (pl (MD n c) (wy (cf n c) s)) (sc (-1) (wy (cf n c) ((s+1)%4))):=rfl
theorem alg1(m w v:P3):pl (pl (pl (pl m w) w) (sc (-1) w)) (sc (-1) v)=pl (pl m w) (sc (-1) v):=by simp only[pl,sc,Prod.mk.injEq];omega
theorem alg2(m w v:P3):pl (pl (pl (pl m w) w) (sc (-1) w)) (sc (-1) (sc (-1) v))=pl (pl m w) v:=by simp only[pl,sc,Prod.mk.injEq];omega
theorem alg3(m w c v:P3):pl (pl (pl (pl m w) (sc (-1) c)) c) (sc (-1) v)=pl (pl m w) (sc (-1) v):=by simp only[pl,sc,Prod.mk.injEq];omega
theorem alg4(m w c v:P3):pl (pl (pl (pl m w) (sc (-1) c)) c) (sc (-1) (sc (-1) v))=pl (pl m w) v:=by simp only[pl,sc,Prod.mk.injEq];omega
theorem qX{n c s:Nat}(hn:1<=n)(hc:c<6*n*n)(hs:s<4):EP n (bsC n c s) (bsS n c s)=EM n c s/\EM n (bsC n c s) (bsS n c s)=EP n c s:=by
 obtain⟨f,a,b,hf,ha,hb,rfl⟩:=sD hn hc hs
 obtain⟨b1,b2⟩:=qU (f:=f) hs ha hb
 obtain⟨m1,m2⟩:=MD_Pn hf hs ha hb
 have hw:=(nQ f hf s hs).1
 by_cases h:a+1<n
 ·rw[if_pos h]at b1 b2
  obtain⟨m3,m4⟩:=MD_Pn hf hs h hb
  have hw':=(nQ f hf ((s+1)%4) (by omega)).1
  rw[wN,wO,wN,wO,b1,b2,m1,m2,m3,m4,(Fj hf hs).2.symm,<- hw,show((s+2)%4+1)%4=((s+1)%4+2)%4 by omega,<- hw']
  exact⟨alg1 _ _ _,alg2 _ _ _⟩
 ·rw[if_neg h]at b1 b2
  obtain⟨f1,f2⟩:=vO f hf s hs
  obtain⟨m3,m4⟩:=MD_Pn (b:=b) f1 f2 (show 0<n by omega) hb
  have hC:=(nQ f hf s hs).2
  have hw':=(nQ (nf f s) f1 ((ns f s+1)%4) (by omega)).1
  have hon:=(wy_on f hf s hs).2.2
  rw[wN,wO,wN,wO,b1,b2,m1,m2,m3,m4,(Fk (b:=b) hf hs (show a+1=n by omega)).symm,<- hC,show((ns f s+2)%4+1)%4=((ns f s+1)%4+2)%4 by omega,<- hw',hon]
  exact⟨alg3 _ _ _ _,alg4 _ _ _ _⟩
theorem Dw{n c s:Nat}(hn:1<=n)(hc:c<6*n*n)(hs:s<4)(hc':bsC n c s<6*n*n)(hs':bsS n c s<4):LnC n (bsC n c s) (bsS n c s)=LnC n c s:=by
 rw[yP hn hc hs,yP hn hc' hs',(qX hn hc hs).1,(qX hn hc hs).2,yO]
theorem ro_pl(t:Nat)(p q:P3):ro t (pl p q)=pl (ro t p) (ro t q):=by
 simp only[ro,pl,sc,Prod.mk.injEq]
 refine⟨?_,?_,?_⟩<;>simp only[Int.add_mul]<;>omega
theorem ro_sc(t:Nat)(k:Int)(p:P3):ro t (sc k p)=sc k (ro t p):=by
 simp only[ro,pl,sc,Prod.mk.injEq]
 refine⟨?_,?_,?_⟩<;>simp only[Int.mul_add,Int.mul_assoc]
theorem ro_wy: ∀t<24,∀f<6,∀s<4,ro t (wy f s)=wy (tf t f) ((s+tq t f)%4):=by decide+kernel
theorem yQ{n t c:Nat}(hn:1<=n)(hc:c<6*n*n)(ht:t<24):cf n (tnC n t c)=tf t (cf n c)/\MD n (tnC n t c)=ro t (MD n c):=by
 obtain⟨h1,h2,h3,_⟩:=fL hn hc
 obtain⟨t1,t2⟩:=mV t ht _ h1
 unfold tnC
 obtain⟨m1,m2⟩:=MD_Pn t1 t2 h2 h3
 refine⟨m2,?_⟩
 rw[m1]
 unfold MD
 rw[ro_md ht h1 h2 h3,vP t1 t2 h2 h3]
theorem wP{n t c s:Nat}(hn:1<=n)(hc:c<6*n*n)(hs:s<4)(ht:t<24):EP n (tnC n t c) ((s+tnS n t c)%4)=ro t (EP n c s)/\EM n (tnC n t c) ((s+tnS n t c)%4)=ro t (EM n c s):=by
 have h1:=(fL hn hc).1
 obtain⟨d1,d2⟩:=yQ hn hc ht
 have w1:=ro_wy t ht _ h1 s hs
 have w2:=ro_wy t ht _ h1 ((s+1)%4) (by omega)
 rw[wN,wO,wN,wO,d1,d2]
 simp only[ro_pl,ro_sc,w1,w2]
 unfold tnS
 rw[show((s+tq t (cf n c))%4+1)%4=((s+1)%4+tq t (cf n c))%4 by omega]
 exact⟨rfl,rfl⟩
theorem len_turn{n t c s:Nat}(hn:1<=n)(h32:n<=32)(hc:c<6*n*n)(hs:s<4)(ht:t<24)(hc':tnC n t c<6*n*n):LnC n (tnC n t c) ((s+tnS n t c)%4)=LnC n c s:=by
 rw[yP hn hc hs,yP hn hc' (by omega),(wP hn hc hs ht).1,(wP hn hc hs ht).2,gp_ro hn h32 t ht]
theorem gap_turn{n t c s:Nat}(hn:1<=n)(h32:n<=32)(hc:c<6*n*n)(hs:s<4)(ht:t<24):GpC n (tnC n t c) ((s+tnS n t c)%4)=GpC n c s:=by
 obtain⟨h1,h2,-⟩:=fV (k:=c) hn rfl hc hs ht hc
 unfold GpC
 rw[h2,(yQ hn hc ht).2,(yQ hn h1.2.2.1 ht).2,gp_ro hn h32 t ht]
def Aw(n:Nat)(m w v:P3):Nat:=ar n (pl (pl m (sc (-1) w)) (sc (-1) v)) (pl (pl m w) (sc (-1) v)) (pl (pl m w) v) (pl (pl m (sc (-1) w)) v)
theorem qA(n:Nat)(m w v:P3):Aw n m v (sc (-1) w)=Aw n m w v:=by
 unfold Aw
 have a1:pl (pl m (sc (-1) v)) (sc (-1) (sc (-1) w))=pl (pl m w) (sc (-1) v):=by simp only[pl,sc,Prod.mk.injEq];omega
 have a2:pl (pl m v) (sc (-1) (sc (-1) w))=pl (pl m w) v:=by simp only[pl,sc,Prod.mk.injEq];omega
 have a3:pl (pl m v) (sc (-1) w)=pl (pl m (sc (-1) w)) v:=by simp only[pl,sc,Prod.mk.injEq];omega
 have a4:pl (pl m (sc (-1) v)) (sc (-1) w)=pl (pl m (sc (-1) w)) (sc (-1) v):=by simp only[pl,sc,Prod.mk.injEq];omega
 rw[a1,a2,a3,a4]
 exact ar_cyc _ _ _ _ _
theorem Aw_way(n f:Nat)(m:P3){s:Nat}(hs:s<4):Aw n m (wy f s) (wy f ((s+1)%4))=Aw n m (cR f) (cU f):=by
 have r2:sc (-1) (sc (-1) (cR f))=cR f:=by simp only[sc];ext<;>simp<;>omega
 rcases Cu.four hs with rfl | rfl | rfl | rfl
 ·rfl
 ·exact qA n m (cR f) (cU f)
 ·exact(qA n m (cU f) (sc (-1) (cR f))).trans (qA n m (cR f) (cU f))
 ·have h:=qA n m (sc (-1) (cR f)) (sc (-1) (cU f))
  rw[r2]at h
  exact h.trans ((qA n m (cU f) (sc (-1) (cR f))).trans (qA n m (cR f) (cU f)))
theorem ArC_Aw{n c:Nat}(hn:1<=n)(hc:c<6*n*n):ArC n c=Aw n (MD n c) (cR (cf n c)) (cU (cf n c)):=by
 have hf:=(fL hn hc).1
 unfold ArC Aw MD
 generalize cf n c=f at*
 generalize ci n c=i
 generalize cj n c=j
 have k1:cr n f i j=pl (pl (md n f i j) (sc (-1) (cR f))) (sc (-1) (cU f)):=by
  rcases six hf with rfl | rfl | rfl | rfl | rfl | rfl<;>simp only[cr,md,pl,sc,cC,cR,cU,Prod.mk.injEq]<;>omega
 have k2:cr n f (i+1) j=pl (pl (md n f i j) (cR f)) (sc (-1) (cU f)):=by
  rcases six hf with rfl | rfl | rfl | rfl | rfl | rfl<;>simp only[cr,md,pl,sc,cC,cR,cU,Prod.mk.injEq]<;>omega
 have k3:cr n f (i+1) (j+1)=pl (pl (md n f i j) (cR f)) (cU f):=by
  rcases six hf with rfl | rfl | rfl | rfl | rfl | rfl<;>simp only[cr,md,pl,sc,cC,cR,cU,Prod.mk.injEq]<;>omega
 have k4:cr n f i (j+1)=pl (pl (md n f i j) (sc (-1) (cR f))) (cU f):=by
  rcases six hf with rfl | rfl | rfl | rfl | rfl | rfl<;>simp only[cr,md,pl,sc,cC,cR,cU,Prod.mk.injEq]<;>omega
 rw[k1,k2,k3,k4]
theorem H7{n t c:Nat}(hn:1<=n)(h32:n<=32)(hc:c<6*n*n)(ht:t<24)(hc':tnC n t c<6*n*n):ArC n (tnC n t c)=ArC n c:=by
 have h1:=(fL hn hc).1
 obtain⟨t1,t2⟩:=mV t ht _ h1
 obtain⟨d1,d2⟩:=yQ hn hc ht
 obtain⟨-,r1,r2⟩:=C6 t ht _ h1
 rw[ArC_Aw hn hc',ArC_Aw hn hc,d1,d2,<- Aw_way n (tf t (cf n c)) _ t2,<- r1,<- r2]
 unfold Aw
 simp only[<- ro_pl,<- ro_sc]
 exact ar_ro hn h32 t ht _ _ _ _
end
section
open Tf
def cq(way:Ieee.Toward)(x:Nat):Int:=if ng x then -((cutq way (ng x) (mv (mg x)) one:Nat):Int)else((cutq way (ng x) (mv (mg x)) one:Nat):Int)
def cOk(way:Ieee.Toward)(x:Nat):Bool:=fin x&&decide (-9223372036854775808<=cq way x)&&decide (cq way x<9223372036854775808)
def cI(way:Ieee.Toward)(x:Nat):Int:=if cOk way x then cq way x else 0
def itV(way:Ieee.Toward)(x:Nat):Nat:=Ieee.double.write ((Ieee.double.read x).integral way)
def wOk(y:Nat):Bool:=(fgt y 14114281232179134464||feq y 14114281232179134464)&&flt y 4890909195324358656
def wI(y:Nat):Int:=if wOk y then(if ng y then -((mv (mg y)/one:Nat):Int)else((mv (mg y)/one:Nat):Int))else 0
theorem yR:mv 4890909195324358656=2 ^ 63*one:=dT 63 _ (by decide)
theorem qC(y:Nat)(hy:y<18446744073709551616):wOk y=(!isN y&&decide (-4890909195324358656<=rk y)&&decide (rk y<4890909195324358656)):=by
 unfold wOk
 rw[eC y _ hy (by decide),iA y _ hy (by decide),iZ y _ hy (by decide)]
 have n1:isN 14114281232179134464=false:=by decide
 have n2:isN 4890909195324358656=false:=by decide
 have r1:rk 14114281232179134464= -4890909195324358656:=by decide
 have r2:rk 4890909195324358656=4890909195324358656:=by decide
 rw[n1,n2,r1,r2]
 cases isN y
 ·simp only[Bool.not_false,Bool.and_self,Bool.true_and]
  congr 1
  rw[<- Bool.decide_or]
  exact decide_eq_decide.2 (by omega)
 ·simp
theorem wOk_fin{y:Nat}(hy:y<18446744073709551616)(h:wOk y=true):mg y<=4890909195324358656/\(ng y=false->mg y<4890909195324358656):=by
 rw[qC y hy]at h
 simp only[Bool.and_eq_true,decide_eq_true_eq]at h
 obtain⟨⟨_,a⟩,b⟩:=h
 unfold rk at a b
 cases hn:ng y<;>rw[hn]at a b<;>simp only[Bool.false_eq_true,if_false,if_true]at a b
 ·exact⟨by omega,fun _=>by omega⟩
 ·exact⟨by omega,fun h=>by cases h⟩
theorem wI_conv{y:Nat}(hy:y<18446744073709551616)(h:wOk y=true):floatToIntVal .f64 y .i64=some (wI y):=by
 obtain⟨a,b⟩:=wOk_fin hy h
 unfold floatToIntVal
 have e:(FloatKind.f64.decode y).toInt .zero=some (if ng y then -((mv (mg y)/one:Nat):Int)else((mv (mg y)/one:Nat):Int)):=toInt_d y hy (by omega)
 rw[e]
 have hw:wI y=(if ng y then -((mv (mg y)/one:Nat):Int)else((mv (mg y)/one:Nat):Int)):=by unfold wI;rw[h];rfl
 rw[<- hw]
 have hle:mv (mg y)/one<=2 ^ 63:=by
  have h1:=oD.2 a
  rw[yR]at h1
  have h2:=Nat.div_le_div_right (c:=one) h1
  rwa [Nat.mul_div_cancel _ gB]at h2
 have hlt:ng y=false->mv (mg y)/one<2 ^ 63:=by
  intro h'
  rw[Nat.div_lt_iff_lt_mul gB,<- yR]
  exact Am.2 (b h')
 have hb:IntKind.i64.min<=wI y/\wI y<=IntKind.i64.max:=by
  have m1:IntKind.i64.min= -9223372036854775808:=by decide
  have m2:IntKind.i64.max=9223372036854775807:=by decide
  rw[m1,m2,hw]
  generalize mv (mg y)/one=q at*
  cases hn:ng y
  ·have:=hlt hn
   simp only[Bool.false_eq_true,if_false];omega
  ·simp only[if_true];omega
 simp only[hb,and_self,if_true]
theorem Dx(way:Ieee.Toward)(x:Nat):itV way x<18446744073709551616:=Ieee.double.write_lt _
theorem oO(way:Ieee.Toward)(x:Nat)(hx:x<18446744073709551616)(fx:mg x<9218868437227405312):
  ng (itV way x)=ng x/\mg (itV way x)<9218868437227405312/\mv (mg (itV way x))=cutq way (ng x) (mv (mg x)) one*one:=by
 obtain⟨r,hr,e,hw⟩:=Dg way x hx fx
 have hw':itV way x=if ng x then 9223372036854775808+r else r:=hw
 rw[hw']
 cases hn:ng x
 ·simp only[Bool.false_eq_true,if_false]
  rw[bV (by omega),bO (by omega)]
  exact⟨rfl,hr,by rw[hn]at e;exact e⟩
 ·simp only[if_true]
  rw[jH (by omega),oG (by omega) (by omega)]
  rw[show 9223372036854775808+r - 9223372036854775808=r by omega]
  exact⟨rfl,hr,by rw[hn]at e;exact e⟩
theorem Dy(way:Ieee.Toward)(x:Nat)(hx:x<18446744073709551616)(fx:mg x<9218868437227405312):sv (itV way x)=cq way x*one:=by
 obtain⟨a,_,c⟩:=oO way x hx fx
 unfold sv cq
 rw[a,c]
 cases ng x<;>simp[Int.neg_mul]
theorem FQ(way:Ieee.Toward)(x:Nat)(hx:x<18446744073709551616)(fx:mg x=9218868437227405312):itV way x=x:=by
 have ei:=cO
 unfold itV
 rw[dL Ieee.double x gS (by rw[dP];omega),gG x hx]
 simp only[Ieee.Datum.integral,Ieee.Format.write]
 rw[fO,cO]
 have hw:=gU x hx
 rw[fx]at hw
 exact hw.symm
theorem sv_p63:sv 4890909195324358656=9223372036854775808*(one:Int):=by
 unfold sv
 have h1:ng 4890909195324358656=false:=by decide
 have h2:mg 4890909195324358656=4890909195324358656:=by decide
 rw[h1,h2,yR]
 simp only[Bool.false_eq_true,if_false,Int.natCast_mul]
 rfl
theorem sv_n63:sv 14114281232179134464= -9223372036854775808*(one:Int):=by
 unfold sv
 have h1:ng 14114281232179134464=true:=by decide
 have h2:mg 14114281232179134464=4890909195324358656:=by decide
 rw[h1,h2,yR]
 simp only[if_true,Int.natCast_mul,<- Int.neg_mul]
 rfl
theorem onep:(0:Int)<(one:Int):=by exact_mod_cast gB
theorem oQ(way:Ieee.Toward)(x:Nat)(hx:x<18446744073709551616)(n:isN x=false):wOk (itV way x)=cOk way x:=by
 have hle:=cM.1 n
 by_cases fx:mg x<9218868437227405312
 ·obtain⟨a,b,c⟩:=oO way x hx fx
  have hn:isN (itV way x)=false:=cM.2 (by omega)
  rw[qC _ (Dx way x),hn]
  unfold cOk
  have hf:fin x=true:=by unfold fin;exact decide_eq_true fx
  rw[hf]
  have r1:rk 14114281232179134464= -4890909195324358656:=by decide
  have r2:rk 4890909195324358656=4890909195324358656:=by decide
  have s1:=jG (itV way x) 14114281232179134464
  have s2:=jG (itV way x) 4890909195324358656
  rw[r1,Dy way x hx fx,sv_n63,Int.mul_lt_mul_right onep]at s1
  rw[r2,Dy way x hx fx,sv_p63,Int.mul_lt_mul_right onep]at s2
  have t1:decide (-4890909195324358656<=rk (itV way x))=decide (-9223372036854775808<=cq way x):=decide_eq_decide.2 (by omega)
  have t2:decide (rk (itV way x)<4890909195324358656)=decide (cq way x<9223372036854775808):=decide_eq_decide.2 (by omega)
  rw[t1,t2];simp
 ·have e:mg x=9218868437227405312:=by omega
  rw[FQ way x hx e,qC x hx,n]
  unfold cOk
  have hf:fin x=false:=by unfold fin;exact decide_eq_false fx
  rw[hf]
  unfold rk;rw[e]
  cases ng x<;>simp
theorem wI_itV(way:Ieee.Toward)(x:Nat)(hx:x<18446744073709551616)(n:isN x=false):wI (itV way x)=cI way x:=by
 unfold wI cI
 rw[oQ way x hx n]
 cases h:cOk way x
 ·rfl
 ·have fx:mg x<9218868437227405312:=by
   unfold cOk at h
   simp only[Bool.and_eq_true]at h
   have:=h.1.1
   unfold fin at this
   simpa using this
  obtain⟨a,b,c⟩:=oO way x hx fx
  rw[if_pos rfl,if_pos rfl,a,c,Nat.mul_div_cancel _ gB]
  rfl
theorem yS{y:Nat}(hy:y<18446744073709551616)(n:isN y=true):wOk y=false/\wI y=0:=by
 have h:wOk y=false:=by rw[qC y hy,n];rfl
 exact⟨h,by unfold wI;rw[h];rfl⟩
theorem FR(way:Ieee.Toward){x:Nat}(n:isN x=true):cOk way x=false/\cI way x=0:=by
 have h:cOk way x=false:=by
  unfold cOk fin
  have:=bX.1 n
  rw[decide_eq_false (by omega)];rfl
 exact⟨h,by unfold cI;rw[h];rfl⟩
end
section
open Go.RowKit Tf
attribute [local go_sem] aL aM aV aW aX aY aZ
def snan(w:World)(x:Nat):Nat:=
 if(Question.extern "math.Floor,Ceil,Trunc,RoundToEven.signallingNaN kept" 2).cut (w.tape w.drawn (Question.extern "math.Floor,Ceil,Trunc,RoundToEven.signallingNaN kept" 2))==1 then x
 else FloatKind.f64.encode (.nan (sg Ieee.double x) (FloatKind.f64.format.quiet (rg Ieee.double x - Ieee.double.infRung)))
theorem or_bit(t:Nat)(h:t<4503599627370496):Ieee.double.quiet t%4503599627370496=Ieee.double.quiet t/\0<Ieee.double.quiet t:=by
 have e:Ieee.double.quiet t=t ||| 2 ^ 51:=rfl
 rw[e]
 have h1:t ||| 2 ^ 51<2 ^ 52:=Nat.or_lt_two_pow (by omega) (by omega)
 have h2:2 ^ 51<=t ||| 2 ^ 51:=Nat.right_le_or
 omega
theorem AP(w:World)(x:Nat)(hx:x<18446744073709551616)(n:isN x=true):snan w x<18446744073709551616/\isN (snan w x)=true:=by
 have ei:=cO
 have hm:=sP x
 have hn:=bX.1 n
 unfold snan
 split
 ·exact⟨hx,n⟩
 ·rw[dP,gG x hx,ei]
  obtain⟨q1,q2⟩:=or_bit (mg x - 9218868437227405312) (by omega)
  have e: ∀(b:Bool) (t:Nat),FloatKind.f64.encode (.nan b t)=if b then 9223372036854775808+(9218868437227405312+t%4503599627370496)else 9218868437227405312+t%4503599627370496:=by
   intro b t
   show Ieee.double.word b (Ieee.double.infRung+t%Ieee.double.binade)=_
   rw[fO,cO,d_bin]
  rw[e]
  change (if ng x=true then 9223372036854775808+(9218868437227405312+Ieee.double.quiet (mg x - 9218868437227405312)%4503599627370496)else 9218868437227405312+Ieee.double.quiet (mg x - 9218868437227405312)%4503599627370496)<_/\isN (if ng x=true then 9223372036854775808+(9218868437227405312+Ieee.double.quiet (mg x - 9218868437227405312)%4503599627370496)else 9218868437227405312+Ieee.double.quiet (mg x - 9218868437227405312)%4503599627370496)=true
  generalize Ieee.double.quiet (mg x - 9218868437227405312)=t at*
  have ht:t%4503599627370496<4503599627370496:=Nat.mod_lt _ (by decide)
  rw[bX]
  cases ng x
  ·simp only[Bool.false_eq_true,if_false]
   refine⟨by omega,?_⟩
   rw[bO (by omega)];omega
  ·simp only[if_true]
   refine⟨by omega,?_⟩
   rw[oG (by omega) (by omega)];omega
def qNaN(x:Nat):Bool:=FloatKind.f64.format.quiet (rg Ieee.double x - Ieee.double.infRung)==rg Ieee.double x - Ieee.double.infRung
theorem ext_num(nm:String)(way:Ieee.Toward)(x:Nat)(n:isN x=false):Extern.MathFloor.toIntegral nm way #[.float .f64 x]=pure (.float .f64 (itV way x)):=by
 have ei:=cO
 have h:=cM.1 n
 unfold itV
 by_cases c:mg x<9218868437227405312
 ·obtain⟨m,a,e,_⟩:=cV Ieee.double x (by rw[dP];omega)
  show(match Ieee.double.read x with | .nan _ _=>_ | _=>_)=_
  rw[e];rfl
 ·show(match Ieee.double.read x with | .nan _ _=>_ | _=>_)=_
  rw[dL Ieee.double x gS (by rw[dP];omega)];rfl
theorem ext_nan(nm:String)(way:Ieee.Toward)(x:Nat)(n:isN x=true)(q:qNaN x=true):Extern.MathFloor.toIntegral nm way #[.float .f64 x]=pure (.float .f64 x):=by
 have ei:=cO
 have h:=bX.1 n
 unfold qNaN at q
 show(match Ieee.double.read x with | .nan _ _=>_ | _=>_)=_
 rw[eW Ieee.double x gS (by rw[dP];omega)]
 dsimp only
 rw[if_pos (by simpa using q)]
theorem ext_snan(nm:String)(way:Ieee.Toward)(x:Nat)(n:isN x=true)(q:qNaN x=false)(P:Program)(w:World):(Extern.MathFloor.toIntegral nm way #[.float .f64 x]).run P w=.ok (.float .f64 (snan w x)) w.drew:=by
 have ei:=cO
 have h:=bX.1 n
 unfold qNaN at q
 show Sem.run P (match Ieee.double.read x with | .nan _ _=>_ | _=>_) w=_
 rw[eW Ieee.double x gS (by rw[dP];omega)]
 dsimp only
 rw[if_neg (by simpa using q)]
 simp[Question.forced,snan]
theorem run_even(x:Nat)(w:World)(n:isN x=false):(callFunc 199 #[.float .f64 x]).run prog w=.ok (.value (.float .f64 (itV .even x))) w:=by
 rw[run_callFunc_extern (e:=Extern.MathFloor.toIntegral "math.RoundToEven" .even) func199 (by kernel_rfl) (by kernel_rfl) (by kernel_rfl) (by kernel_rfl),ext_num _ _ x n]
 rfl
theorem yT(x:Nat)(w:World)(n:isN x=true)(q:qNaN x=true):(callFunc 199 #[.float .f64 x]).run prog w=.ok (.value (.float .f64 x)) w:=by
 rw[run_callFunc_extern (e:=Extern.MathFloor.toIntegral "math.RoundToEven" .even) func199 (by kernel_rfl) (by kernel_rfl) (by kernel_rfl) (by kernel_rfl),ext_nan _ _ x n q]
 rfl
theorem vE(x:Nat)(w:World)(n:isN x=true)(q:qNaN x=false):(callFunc 199 #[.float .f64 x]).run prog w=.ok (.value (.float .f64 (snan w x))) w.drew:=by
 rw[run_callFunc_extern (e:=Extern.MathFloor.toIntegral "math.RoundToEven" .even) func199 (by kernel_rfl) (by kernel_rfl) (by kernel_rfl) (by kernel_rfl),ext_snan _ _ x n q]
 rfl
theorem tG(y:Nat)(i:Int)(ok:Bool)(w:World)(hy:y<18446744073709551616)(hi:wI y=i)(ho:wOk y=ok):
  Calls prog 198 #[.float .f64 y] w fun e w'=>e=.returned (.tuple #[.int .i64 i,.bool ok])/\w'=w:=by
 have hc:wOk y=true->floatToIntVal .f64 y .i64=some i:=by intro h;rw[wI_conv hy h,hi]
 have h0:wOk y=false->i=0:=by intro h;rw[<- hi];unfold wI;rw[h];rfl
 have hw:wOk y=((fgt y 14114281232179134464||feq y 14114281232179134464)&&flt y 4890909195324358656):=rfl
 clear hi
 cases hg:(fgt y 14114281232179134464||feq y 14114281232179134464)
 ·rw[hg]at hw
  have hw':wOk y=false:=hw
  obtain rfl:=h0 hw'
  obtain rfl:ok=false:=by rw[<- ho,hw']
  clear hw hw' h0 hc ho
  go_enter func198,ntmps198
  go_wp2
  go_ret2
  exact⟨rfl,rfl⟩
 ·cases hl:flt y 4890909195324358656
  ·rw[hg,hl]at hw
   have hw':wOk y=false:=hw
   obtain rfl:=h0 hw'
   obtain rfl:ok=false:=by rw[<- ho,hw']
   clear hw hw' h0 hc ho
   go_enter func198,ntmps198
   go_wp2
   go_ret2
   exact⟨rfl,rfl⟩
  ·rw[hg,hl]at hw
   have hw':wOk y=true:=hw
   obtain rfl:ok=true:=by rw[<- ho,hw']
   have hcv:=fun(w:World)=>run_convert_float_int (P:=prog) w 22 2 .f64 .i64 y i (by kernel_rfl) (by kernel_rfl) (hc hw')
   clear hw hw' h0 hc ho
   go_enter func198,ntmps198
   go_wp2
   go_ret2
   exact⟨rfl,rfl⟩
theorem jP(x:Nat)(i:Int)(ok:Bool)(w:World)(hx:x<18446744073709551616)(hi:cI .even x=i)(ho:cOk .even x=ok):
  Calls prog 159 #[.float .f64 x] w fun e w'=>e=.returned (.tuple #[.int .i64 i,.bool ok])/\ ∃n,w'=w.drewN n:=by
 cases n:isN x
 ·have r:=fun(w:World)=>run_even x w n
  have l:=Dx .even x
  have a:=wI_itV .even x hx n
  have b:=oQ .even x hx n
  rw[hi]at a
  rw[ho]at b
  generalize itV .even x=y at*
  clear hi ho n
  go_enter func159,ntmps159
  go_wp2_with fail
  refine(tG y i ok _ l a b).mono ?_
  rintro e w' ⟨rfl,rfl⟩
  go_wp2
  go_ret2
  exact⟨rfl,0,rfl⟩
 ·obtain⟨h1,h2⟩:=FR .even n
  rw[hi]at h2
  rw[ho]at h1
  subst h1 h2
  cases q:qNaN x
  ·have r:=fun(w:World)=>vE x w n q
   have l:=fun(w:World)=>(AP w x hx n).1
   have l2:=fun(w:World)=>yS (l w) (AP w x hx n).2
   clear hi ho n q
   go_enter func159,ntmps159
   go_wp2_with fail
   refine(tG _ 0 false _ (l _) (l2 _).2 (l2 _).1).mono ?_
   rintro e w' ⟨rfl,rfl⟩
   go_wp2
   go_ret2
   exact⟨rfl,1,rfl⟩
  ·have r:=fun(w:World)=>yT x w n q
   have l2:=yS hx n
   clear hi ho n q
   go_enter func159,ntmps159
   go_wp2_with fail
   refine(tG x 0 false _ hx l2.2 l2.1).mono ?_
   rintro e w' ⟨rfl,rfl⟩
   go_wp2
   go_ret2
   exact⟨rfl,0,rfl⟩
theorem fW(x:Nat)(w:World)(hx:x<18446744073709551616):
  Calls prog 175 #[.float .f64 x] w fun e w'=>e=.returned (.bool (isN x))/\w'=w:=by
 obtain⟨c,hc⟩:=aD (classB x)
 have h:(c==4)=isN x:=by
  rw[<- hc];unfold classB isN
  have:=sP x
  by_cases c0:mg x=0
  ·rw[if_pos c0,c0];rfl
  ·by_cases c1:mg x<4503599627370496
   ·rw[if_neg c0,if_pos c1,decide_eq_false (by omega)];rfl
   ·by_cases c2:mg x<9218868437227405312
    ·rw[if_neg c0,if_neg c1,if_pos c2,decide_eq_false (by omega)];rfl
    ·by_cases c3:mg x=9218868437227405312
     ·rw[if_neg c0,if_neg c1,if_neg c2,if_pos c3,decide_eq_false (by omega)];rfl
     ·rw[if_neg c0,if_neg c1,if_neg c2,if_neg c3,decide_eq_true (by omega)];rfl
 obtain⟨b,hb⟩:=aD (isN x)
 rw[hb]at h ⊢
 have C:Hid (∀w,Calls prog 202 #[.float .f64 x] w fun e w'=>e=.returned (.int .i64 c)/\w'=w):=by
  intro w;rw[<- hc];exact wE x w hx
 clear hc hb
 go_enter func175,ntmps175
 go_wp2_with fail
 refine(C.out _).mono ?_
 rintro e w' ⟨rfl,rfl⟩
 go_wp2
 go_ret
 exact⟨rfl,rfl⟩
theorem lM(n:Int)(w:World):
  Calls prog 180 #[.int .i64 n] w fun e w'=>e=.returned (.float .f64 (rn false (n*one)))/\w'=w:=by
 have hc:=fun(w:World)=>run_convert_int_float (P:=prog) w 2 22 .i64 .f64 n (by kernel_rfl) (by kernel_rfl)
 have e:floatOfInt .f64 n=rn false (n*one):=ofInt_d n
 rw[e]at hc
 generalize rn false (n*one)=y at*
 clear e
 go_enter func180,ntmps180
 go_wp2
 go_ret
 exact⟨rfl,rfl⟩
end
end Go.Proofs.YtaphajlpbgcfjaaGreatDoor
