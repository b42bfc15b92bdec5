/-
  Some of the texts of this proof, one behind the other.
-/
import Derived.WalkKit
import Derived.Laws.StructEq
import Derived.Test.YtaphajlpbgcfjaaGreatDoorRa06
set_option maxRecDepth 100000
set_option maxHeartbeats 400000000
namespace Go.Proofs.YtaphajlpbgcfjaaGreatDoor
open _root_.Go.Proofs.Tryz
section
open Tf Ieee Cu
def frc{β:Type}(x:Nat)(f:Nat->β):β:=match x with | 0=>f 0 | n+1=>f (n+1)
theorem dC{β:Type}(x:Nat)(f:Nat->β):frc x f=f x:=by cases x<;>rfl
theorem dH{c:Bool}{a b:Nat}(h:c=true->a=b):(bif c then a else b)=b:=by
 cases c
 ·rfl
 ·exact h rfl
def rneF(q r g:Nat):Nat:=frc q fun q=>frc (2*r) fun t=>frc g fun g=>q+(bif Nat.blt g t||(Nat.beq g t&&Nat.beq (q%2) 1)then 1 else 0)
theorem rneF_eq(n g:Nat):rneF (n/g) (n%g) g=rne n g:=by
 unfold rneF rne
 simp only[dC]
 congr 1
 by_cases c:g<2*(n%g)\/(g=2*(n%g)/\n/g%2=1)
 ·rw[if_pos c]
  have:(Nat.blt g (2*(n%g))||(Nat.beq g (2*(n%g))&&Nat.beq (n/g%2) 1))=true:=by simpa using c
  rw[this];rfl
 ·rw[if_neg c]
  have:(Nat.blt g (2*(n%g))||(Nat.beq g (2*(n%g))&&Nat.beq (n/g%2) 1))=false:=by
   rw[Bool.eq_false_iff];intro h;exact c (by simpa using h)
  rw[this];rfl
def lgS(V:Nat):Nat->Nat->Nat
 | 0,acc=>acc
 | k+1,acc=>frc acc fun acc=>bif Nat.ble (2 ^ (acc+2 ^ k)) V then lgS V k (acc+2 ^ k)else lgS V k acc
def lgF(V:Nat):Nat:=frc (lgS V 8 0) fun l=>bif Nat.ble (2 ^ l) V&&Nat.blt V (2 ^ (l+1))then l else V.log2
theorem lgF_eq(V:Nat):lgF V=V.log2:=by
 unfold lgF
 rw[dC]
 refine dH fun h=> ?_
 rw[Bool.and_eq_true]at h
 exact(lK (by simpa using h.1) (by simpa using h.2)).symm
def rungF(d V:Nat):Nat:=frc V fun V=>frc (lgF V - (52+d)) fun e=>frc (2 ^ (e+d)) fun g=>e*4503599627370496+rneF (V/g) (V%g) g
theorem rungF_eq(d V:Nat):rungF d V=rung 52 d V:=by
 unfold rungF rung
 simp only[dC,lgF_eq]
 rw[rneF_eq]
theorem Ai{V:Nat}(h0:V≠0)(h:52<=V.log2)(c:Nat):rung 52 0 (V*2 ^ c)=rung 52 0 V+c*4503599627370496:=by
 induction c with
 | zero=>rw[Nat.pow_zero,Nat.mul_one,Nat.zero_mul,Nat.add_zero]
 | succ c ih=>
  have hp:=Nat.two_pow_pos c
  have h2:V*2 ^ c≠0:=Nat.mul_ne_zero h0 (by omega)
  rw[Nat.pow_succ,<- Nat.mul_assoc,rung_dbl h2 (by rw[fL V c h0];omega),ih,Nat.add_mul,Nat.one_mul,Nat.add_assoc]
def nrmV(V e:Nat):Nat:=frc V fun V=>frc e fun e=>frc (lgF V) fun l=>
 bif Nat.beq V 0 then rung 52 0 (V*2 ^ e)else bif Nat.ble 52 l then rungF 0 V+e*4503599627370496 else bif Nat.ble (52 - l) e then V*2 ^ (52 - l)+(e - (52 - l))*4503599627370496 else rung 52 0 (V*2 ^ e)
theorem lZ(V e:Nat):nrmV V e=rung 52 0 (V*2 ^ e):=by
 unfold nrmV
 simp only[dC,lgF_eq,rungF_eq]
 by_cases c:V=0
 ·have:Nat.beq V 0=true:=by rw[c];decide
  rw[this,cond_true]
 ·have h0:Nat.beq V 0=false:=by rw[Bool.eq_false_iff];intro k;exact c (by simpa using k)
  rw[h0,cond_false]
  by_cases h:52<=V.log2
  ·have h1:Nat.ble 52 V.log2=true:=by simpa using h
   rw[h1,cond_true,Ai c h]
  ·have h1:Nat.ble 52 V.log2=false:=by rw[Bool.eq_false_iff];intro k;exact h (by simpa using k)
   rw[h1,cond_false]
   refine dH fun k=> ?_
   have k:52 - V.log2<=e:=by simpa using k
   have hl:(V*2 ^ (52 - V.log2)).log2=52:=by rw[fL V _ c];omega
   have hne:V*2 ^ (52 - V.log2)≠0:=Nat.mul_ne_zero c (by have:=Nat.two_pow_pos (52 - V.log2);omega)
   have e1:V*2 ^ e=V*2 ^ (52 - V.log2)*2 ^ (e - (52 - V.log2)):=by
    rw[Nat.mul_assoc,<- Nat.pow_add];congr 2;omega
   rw[e1,Ai hne (by omega)]
   have e2:rung 52 0 (V*2 ^ (52 - V.log2))=V*2 ^ (52 - V.log2):=by
    unfold rung rne
    rw[hl]
    simp
    omega
   rw[e2]
def mgF(a:Nat):Nat:=a%9223372036854775808
theorem iM(a:Nat):mgF a=mg a:=rfl
def nrmF(a:Nat):Bool:=Nat.blt a 18446744073709551616&&Nat.ble 4503599627370496 (mgF a)&&Nat.blt (mgF a) 9218868437227405312
theorem fP{a:Nat}(h:nrmF a=true):a<18446744073709551616/\4503599627370496<=mg a/\mg a<9218868437227405312:=by
 simp only[nrmF,iM,Bool.and_eq_true]at h
 exact⟨by simpa using h.1.1,by simpa using h.1.2,by simpa using h.2⟩
def ngF(a:Nat):Bool:=Nat.ble 9223372036854775808 a
theorem kE(a:Nat):ngF a=ng a:=by
 unfold ngF ng
 by_cases c:9223372036854775808<=a
 ·rw[decide_eq_true c];simpa using c
 ·rw[decide_eq_false c];rw[Bool.eq_false_iff];intro h;exact c (by simpa using h)
def pm(a:Nat):Nat:=4503599627370496+mgF a%4503599627370496
def pe(a:Nat):Nat:=mgF a/4503599627370496 - 1
theorem vP{a:Nat}(h:4503599627370496<=mg a):mv (mg a)=pm a*2 ^ pe a:=kY h
theorem CJ(a:Nat):4503599627370496+mg a%4503599627370496=pm a:=by unfold pm;rw[iM]
theorem CK(a:Nat):mg a/4503599627370496 - 1=pe a:=by unfold pe;rw[iM]
def wdF(s:Bool)(r:Nat):Nat:=bif s then 9223372036854775808+r else r
def alI(s:Bool)(m:Nat):Int:=bif s then -(m:Int)else(m:Int)
def dfV(a b e:Nat):Int:=alI (ngF a) (pm a*2 ^ (pe a - e)) - alI (ngF b) (pm b*2 ^ (pe b - e))
def fsb0(a b e:Nat):Nat:=frc (dfV a b e).natAbs fun V=>frc (nrmV V e) fun r=>bif Nat.beq V 0 then 0 else bif Nat.ble r 9218868437227405312 then wdF (decide (dfV a b e<0)) r else sbB a b
theorem Fh(a b e:Nat)(ha:nrmF a=true)(hb:nrmF b=true)(h1:e<=pe a)(h2:e<=pe b):fsb0 a b e=sbB a b:=by
 obtain⟨a1,a2,a3⟩:=fP ha
 obtain⟨b1,b2,b3⟩:=fP hb
 have hsv:sv a - sv b=dfV a b e*((2 ^ e:Nat):Int):=by
  have e1:pm a*2 ^ pe a=pm a*2 ^ (pe a - e)*2 ^ e:=by rw[Nat.mul_assoc,<- Nat.pow_add];congr 2;omega
  have e2:pm b*2 ^ pe b=pm b*2 ^ (pe b - e)*2 ^ e:=by rw[Nat.mul_assoc,<- Nat.pow_add];congr 2;omega
  unfold sv dfV alI
  rw[vP a2,vP b2,e1,e2,kE,kE]
  cases ng a<;>cases ng b<;>simp only[cond_true,cond_false,Bool.false_eq_true,if_false,if_true,Int.natCast_mul,Int.sub_mul,Int.neg_mul]
 have hsb:sbB a b=rn false (dfV a b e*((2 ^ e:Nat):Int)):=by
  unfold sbB
  rw[cW a _ a1 (bF b1) a3 (by rw[dX b1];exact b3),jZ b1,<- Int.sub_eq_add_neg,hsv]
 unfold fsb0
 simp only[dC,lZ]
 rw[hsb]
 generalize dfV a b e=v at*
 have hp:=Nat.two_pow_pos e
 generalize 2 ^ e=P at*
 by_cases c:v=0
 ·have:Nat.beq v.natAbs 0=true:=by rw[c];decide
  rw[this,cond_true,c,Int.zero_mul,lO,if_neg Bool.false_ne_true]
 ·have h0:Nat.beq v.natAbs 0=false:=by
     rw[Bool.eq_false_iff];intro k;have:v.natAbs=0:=by simpa using k
     omega
  rw[h0,cond_false]
  refine dH fun k=> ?_
  have k:rung 52 0 (v.natAbs*P)<=9218868437227405312:=by simpa using k
  have hna:(v*(P:Int)).natAbs=v.natAbs*P:=by rw[Int.natAbs_mul,Int.natAbs_natCast]
  have hz: ¬v*(P:Int)=0:=by
   intro h
   rcases Int.mul_eq_zero.1 h with h | h
   ·exact c h
   ·omega
  have hs:decide (v*(P:Int)<0)=decide (v<0):=by
   by_cases d:v<0
   ·rw[decide_eq_true d,decide_eq_true (Int.mul_neg_of_neg_of_pos d (by omega))]
   ·rw[decide_eq_false d,decide_eq_false (by
      have:0<=v*(P:Int):=Int.mul_nonneg (by omega) (by omega)
      omega)]
  unfold rn wdF
  rw[if_neg hz,hna,hs,Nat.min_eq_left k]
  cases decide (v<0)
  ·rw[cond_false,if_neg Bool.false_ne_true]
  ·rw[cond_true,if_pos rfl]
def fsb1(a b:Nat):Nat:=frc a fun a=>frc b fun b=>
 bif nrmF a&&nrmF b then(bif Nat.ble (pe a) (pe b)then fsb0 a b (pe a)else fsb0 a b (pe b))else sbB a b
theorem fsb1_eq(a b:Nat):fsb1 a b=sbB a b:=by
 unfold fsb1
 simp only[dC]
 refine dH fun h=> ?_
 rw[Bool.and_eq_true]at h
 cases c:Nat.ble (pe a) (pe b)
 ·have: ¬pe a<=pe b:=fun k=>by rw[show Nat.ble (pe a) (pe b)=true by simpa using k]at c;cases c
  rw[cond_false];exact Fh a b _ h.1 h.2 (by omega) (Nat.le_refl _)
 ·have:pe a<=pe b:=by simpa using c
  rw[cond_true];exact Fh a b _ h.1 h.2 (Nat.le_refl _) this
def fml1(a b:Nat):Nat:=frc a fun a=>frc b fun b=>frc (nrmV (pm a*pm b) (pe a+pe b - 1074)) fun r=>
 bif nrmF a&&nrmF b&&Nat.ble 1074 (pe a+pe b)&&Nat.ble r 9218868437227405312 then wdF (xor (ngF a) (ngF b)) r else mlB a b
theorem fml1_eq(a b:Nat):fml1 a b=mlB a b:=by
 unfold fml1
 simp only[dC,lZ]
 refine dH fun h=> ?_
 simp only[Bool.and_eq_true]at h
 obtain⟨⟨⟨h1,h2⟩,h3⟩,h4⟩:=h
 obtain⟨a1,a2,a3⟩:=fP h1
 obtain⟨b1,b2,b3⟩:=fP h2
 have h3:1074<=pe a+pe b:=by simpa using h3
 have h4:rung 52 0 (pm a*pm b*2 ^ (pe a+pe b - 1074))<=9218868437227405312:=by simpa using h4
 have e:mv (mg a)*mv (mg b)=pm a*pm b*2 ^ (pe a+pe b - 1074)*2 ^ K:=by
  rw[vP a2,vP b2,Nat.mul_mul_mul_comm,<- Nat.pow_add,Nat.mul_assoc (pm a*pm b),<- Nat.pow_add]
  have hK:K=1074:=rfl
  rw[show pe a+pe b - 1074+K=pe a+pe b by omega]
 have er:rung 52 1074 (mv (mg a)*mv (mg b))=rung 52 0 (pm a*pm b*2 ^ (pe a+pe b - 1074)):=by
  rw[e]
  generalize pm a*pm b*2 ^ (pe a+pe b - 1074)=V
  have:=sJ 52 0 K V
  rw[Nat.zero_add]at this
  have hK:(1074:Nat)=K:=rfl
  rw[hK]
  exact this
 rw[cX (nQ a b a1 b1 a3 b3),er,Nat.min_eq_left h4,kE,kE]
 unfold wdF
 cases(ng a ^^ ng b)
 ·rw[cond_false,if_neg Bool.false_ne_true]
 ·rw[cond_true,if_pos rfl]
def fpl0(a b:Nat):Nat:=frc (nrmV (pm a+pm b*2 ^ (pe b - pe a)) (pe a)) fun r=>bif nrmF a&&nrmF b&&Nat.blt a 9223372036854775808&&Nat.blt b 9223372036854775808&&Nat.ble (pe a) (pe b)&&Nat.ble r 9218868437227405312 then r else plB a b
theorem fpl0_eq(a b:Nat):fpl0 a b=plB a b:=by
 unfold fpl0
 simp only[dC,lZ]
 refine dH fun h=> ?_
 simp only[Bool.and_eq_true]at h
 obtain⟨⟨⟨⟨⟨h1,h2⟩,h3⟩,h4⟩,h5⟩,h6⟩:=h
 obtain⟨a1,a2,a3⟩:=fP h1
 obtain⟨b1,b2,b3⟩:=fP h2
 have h3:a<9223372036854775808:=by simpa using h3
 have h4:b<9223372036854775808:=by simpa using h4
 have h5:pe a<=pe b:=by simpa using h5
 have h6:rung 52 0 ((pm a+pm b*2 ^ (pe b - pe a))*2 ^ pe a)<=9218868437227405312:=by simpa using h6
 have ma:mg a=a:=aN h3
 have mb:mg b=b:=aN h4
 have e:mv a+mv b=(pm a+pm b*2 ^ (pe b - pe a))*2 ^ pe a:=by
  have ea:=vP a2
  have eb:=vP b2
  rw[ma]at ea
  rw[mb]at eb
  rw[ea,eb,Nat.add_mul,Nat.mul_assoc (pm b),<- Nat.pow_add]
  congr 3;omega
 rw[lV (by omega) (by omega),e,Nat.min_eq_left h6]
def fpl1(a b:Nat):Nat:=frc a fun a=>frc b fun b=>bif Nat.ble (pe a) (pe b)then fpl0 a b else bif Nat.blt a 9218868437227405312&&Nat.blt b 9218868437227405312 then fpl0 b a else plB a b
theorem fpl1_eq(a b:Nat):fpl1 a b=plB a b:=by
 unfold fpl1
 simp only[dC,fpl0_eq]
 cases Nat.ble (pe a) (pe b)
 ·rw[cond_false]
  refine dH fun h=> ?_
  rw[Bool.and_eq_true]at h
  have h1:a<9218868437227405312:=by simpa using h.1
  have h2:b<9218868437227405312:=by simpa using h.2
  rw[lV h1 h2,lV h2 h1,Nat.add_comm]
 ·rw[cond_true]
def finF(a:Nat):Bool:=Nat.blt a 18446744073709551616&&Nat.blt (mgF a) 9218868437227405312
theorem jS{a:Nat}(h:finF a=true):a<18446744073709551616/\mg a<9218868437227405312:=by
 simp only[finF,iM,Bool.and_eq_true]at h
 exact⟨by simpa using h.1,by simpa using h.2⟩
theorem mv_0:mv 0=0:=by decide
def fml(a b:Nat):Nat:=frc a fun a=>frc b fun b=>bif (Nat.beq (mgF a) 0||Nat.beq (mgF b) 0)&&(finF a&&finF b)then wdF (xor (ngF a) (ngF b)) 0 else fml1 a b
theorem fml_eq(a b:Nat):fml a b=mlB a b:=by
 unfold fml
 simp only[dC,fml1_eq]
 refine dH fun h=> ?_
 simp only[Bool.and_eq_true,Bool.or_eq_true]at h
 obtain⟨h1,h2,h3⟩:=h
 obtain⟨a1,a2⟩:=jS h2
 obtain⟨b1,b2⟩:=jS h3
 have hz:mv (mg a)*mv (mg b)=0:=by
  rcases h1 with h | h
  ·have:mg a=0:=by simpa [iM]using h
   rw[this,mv_0,Nat.zero_mul]
  ·have:mg b=0:=by simpa [iM]using h
   rw[this,mv_0,Nat.mul_zero]
 have hr:min (rung 52 1074 0) 9218868437227405312=0:=by decide+kernel
 rw[cX (nQ a b a1 b1 a2 b2),hz,hr,kE,kE]
 unfold wdF
 cases(ng a ^^ ng b)
 ·rw[cond_false,if_neg Bool.false_ne_true]
 ·rw[cond_true,if_pos rfl]
theorem pl_0{b:Nat}(h:b<9218868437227405312):plB 0 b=b/\plB b 0=b:=by
 have h0:(0:Nat)<9218868437227405312:=by omega
 have e:rung 52 0 (mv b)=b:=fV 52 b (by omega)
 rw[lV h0 h,lV h h0,mv_0,Nat.zero_add,Nat.add_zero,e,Nat.min_eq_left (by omega)]
 exact⟨rfl,rfl⟩
def fpl(a b:Nat):Nat:=frc a fun a=>frc b fun b=>bif Nat.beq a 0&&Nat.blt b 9218868437227405312 then b else bif Nat.beq b 0&&Nat.blt a 9218868437227405312 then a else fpl1 a b
theorem fpl_eq(a b:Nat):fpl a b=plB a b:=by
 unfold fpl
 simp only[dC,fpl1_eq]
 have k:(bif Nat.beq b 0&&Nat.blt a 9218868437227405312 then a else plB a b)=plB a b:=by
  refine dH fun h=> ?_
  rw[Bool.and_eq_true]at h
  have h1:b=0:=by simpa using h.1
  have h2:a<9218868437227405312:=by simpa using h.2
  rw[h1,(pl_0 h2).2]
 rw[k]
 refine dH fun h=> ?_
 rw[Bool.and_eq_true]at h
 have h1:a=0:=by simpa using h.1
 have h2:b<9218868437227405312:=by simpa using h.2
 rw[h1,(pl_0 h2).1]
theorem mv_ne{r:Nat}(h:r≠0):mv r≠0:=by
 intro e
 have:=fV 52 r (by omega)
 have e2:mag 52 r=0:=e
 rw[e2]at this
 have z:=fV 52 0 (by omega)
 have e3:mag 52 0=0:=mv_0
 rw[e3]at z
 omega
theorem rn_svQ{a:Nat}(ha:a<18446744073709551616)(h0:mg a≠0)(hf:mg a<9218868437227405312):rn false (sv a)=a:=by
 have e:rung 52 0 (mv (mg a))=mg a:=fV 52 _ (by omega)
 have hm:=mv_ne h0
 cases hn:ng a
 ·have hs:sv a=(mv (mg a):Int):=by unfold sv;rw[hn];rfl
  have ea:mg a=a:=aN (eF hn)
  rw[hs]
  generalize mv (mg a)=v at*
  unfold rn
  have c1: ¬((v:Int)=0):=by omega
  have c2: ¬((v:Int)<0):=by omega
  rw[if_neg c1,decide_eq_false c2,if_neg Bool.false_ne_true,Int.natAbs_natCast,e,Nat.min_eq_left (by omega),ea]
 ·have hs:sv a= -(mv (mg a):Int):=by unfold sv;rw[hn];rfl
  have ea:9223372036854775808+mg a=a:=by have:=eW hn;unfold mg;omega
  rw[hs]
  generalize mv (mg a)=v at*
  unfold rn
  have c1: ¬(-(v:Int)=0):=by omega
  have c2:(-(v:Int))<0:=by omega
  rw[if_neg c1,decide_eq_true c2,if_pos rfl,Int.natAbs_neg,Int.natAbs_natCast,e,Nat.min_eq_left (by omega),ea]
theorem sv_0{a:Nat}(h:mg a=0):sv a=0:=by unfold sv;rw[h,mv_0];cases ng a<;>rfl
def ngtF(b:Nat):Nat:=bif ngF b then b - 9223372036854775808 else b+9223372036854775808
theorem ngtF_eq(b:Nat):ngtF b=negB b:=by
 unfold ngtF negB
 rw[kE]
 cases ng b
 ·rw[cond_false,if_neg Bool.false_ne_true]
 ·rw[cond_true,if_pos rfl]
def fsb(a b:Nat):Nat:=frc a fun a=>frc b fun b=>
 bif finF a&&finF b&&Nat.beq (mgF b) 0 then(bif Nat.beq (mgF a) 0 then 0 else a)else bif finF a&&finF b&&Nat.beq (mgF a) 0 then ngtF b else fsb1 a b
theorem fsb_eq(a b:Nat):fsb a b=sbB a b:=by
 unfold fsb
 simp only[dC,fsb1_eq,ngtF_eq]
 have hs:finF a=true->finF b=true->sbB a b=rn false (sv a - sv b):=by
  intro h1 h2
  obtain⟨a1,a2⟩:=jS h1
  obtain⟨b1,b2⟩:=jS h2
  unfold sbB
  rw[cW a _ a1 (bF b1) a2 (by rw[dX b1];exact b2),jZ b1,Int.sub_eq_add_neg]
 cases hb:(finF a&&finF b&&Nat.beq (mgF b) 0)
 ·rw[cond_false]
  refine dH fun h=> ?_
  simp only[Bool.and_eq_true]at h
  obtain⟨⟨h1,h2⟩,h3⟩:=h
  obtain⟨b1,b2⟩:=jS h2
  have z:mg a=0:=by simpa [iM]using h3
  have nz:mg b≠0:=by
   intro k
   rw[h1,h2,iM,k]at hb
   cases hb
  rw[hs h1 h2,sv_0 z,Int.zero_sub,<- jZ b1,rn_svQ (bF b1) (by rw[dX b1];exact nz) (by rw[dX b1];exact b2)]
 ·rw[cond_true]
  simp only[Bool.and_eq_true]at hb
  obtain⟨⟨h1,h2⟩,h3⟩:=hb
  obtain⟨a1,a2⟩:=jS h1
  have z:mg b=0:=by simpa [iM]using h3
  rw[hs h1 h2,sv_0 z,Int.sub_zero]
  cases hc:Nat.beq (mgF a) 0
  ·have nz:mg a≠0:=by
    intro k
    rw[iM,k]at hc
    cases hc
   rw[cond_false,rn_svQ a1 nz a2]
  ·have z2:mg a=0:=by simpa [iM]using hc
   rw[cond_true,sv_0 z2,lO,if_neg Bool.false_ne_true]
def fth(a b c:Nat):Nat:=frc a fun a=>frc b fun b=>frc c fun c=>frc (loB a b) fun l=>frc (hiB a b) fun h=>frc (loB h c) fun m=>fpl (fpl (loB l m) (hiB l m)) (hiB h c)
theorem fth_eq(a b c:Nat):fth a b c=thB a b c:=by unfold fth thB;simp only[dC,fpl_eq]
def nwt(n r:Nat):Nat:=frc r fun r=>frc ((r+n/r)/2) fun r=>frc ((r+n/r)/2) fun r=>frc ((r+n/r)/2) fun r=>frc ((r+n/r)/2) fun r=>frc ((r+n/r)/2) fun r=>(r+n/r)/2
def isF(X:Nat):Nat:=frc (nwt X 27021597764222976) fun q=>frc (bif Nat.ble (q*q) X then q else q - 1) fun r=>bif Nat.ble (r*r) X&&Nat.blt X ((r+1)*(r+1))then r else isq X
theorem isq_uni{X r:Nat}(h1:r*r<=X)(h2:X<(r+1)*(r+1)):r=isq X:=by
 obtain⟨a,b⟩:=zL X
 generalize isq X=q at*
 rcases Nat.lt_trichotomy r q with h | h | h
 ·have:(r+1)*(r+1)<=q*q:=Nat.mul_le_mul h h
  omega
 ·exact h
 ·have:(q+1)*(q+1)<=r*r:=Nat.mul_le_mul h h
  omega
theorem isF_eq(X:Nat):isF X=isq X:=by
 unfold isF
 simp only[dC]
 refine dH fun h=> ?_
 rw[Bool.and_eq_true]at h
 exact isq_uni (by simpa using h.1) (by simpa using h.2)
def stF(X:Nat):Nat:=frc X fun X=>frc (isF X) fun q=>2*q+(bif Nat.beq (q*q) X then 0 else 1)
theorem stF_eq(X:Nat):stF X=stW X:=by
 unfold stF stW
 simp only[dC,isF_eq]
 congr 1
 by_cases c:isq X*isq X=X
 ·rw[show Nat.beq (isq X*isq X) X=true by simpa using c,show(isq X*isq X != X)=false by rw[bne_eq_false_iff_eq];exact c];rfl
 ·rw[show Nat.beq (isq X*isq X) X=false by rw[Bool.eq_false_iff];intro k;exact c (by simpa using k),show(isq X*isq X != X)=true from bne_iff_ne.2 c];rfl
theorem sqrt_exp{T:Nat}(hT:T<18446744073709551616)(hn:ng T=false)(h1:4503599627370496<=mg T)(h2:mg T<9218868437227405312):
  ∃s d,(56<=s/\s<=57)/\mg T/4503599627370496 - 1+1074=s+(2*d+2)/\rtB T=rung 52 0 (stW ((4503599627370496+mg T%4503599627370496) <<< s)*2 ^ d):=by
 have e1:=sqrt_eq hT hn h1 h2
 have hq:mg T%4503599627370496<4503599627370496:=Nat.mod_lt _ (by omega)
 generalize hm:4503599627370496+mg T%4503599627370496=m at e1 ⊢
 have hl:m.log2=52:=by rw[<- hm];exact zM _ hq
 have hk:mg T/4503599627370496 - 1<=2045:=by omega
 generalize mg T/4503599627370496 - 1=k at e1 hk ⊢
 have hlp:=d_lp
 generalize hi:double.leastPlace+(k:Int)=i at e1
 obtain⟨m1,m2,m3,m4⟩:=rtM_val i hl
 generalize rtM m i=s at*
 obtain⟨w1,w2⟩:=rtW_val (m:=m) (s:=s) (by omega) (by omega) ⟨m1,m2⟩
 have hst:rtW m s=stW (m <<< s):=rfl
 obtain⟨d,hd⟩: ∃d:Nat,(i - (s:Int))/2 - 1=double.leastPlace+(d:Int):=⟨((i - (s:Int))/2 - 1 - double.leastPlace).toNat,by omega⟩
 have hdle:d<=1531:=by omega
 have hks:k+K=s+(2*d+2):=by
  have:K=1074:=rfl
  omega
 rw[fX double false (rtW m s) d _ hd,eT,cF]at e1
 generalize rtW m s=W at*
 have h0:W*2 ^ d≠0:=Nat.mul_ne_zero (by omega) (by have:=Nat.two_pow_pos d;omega)
 have hlog:52+0<=(W*2 ^ d).log2:=by
  refine(Nat.le_log2 h0).2 ?_
  have e:(2:Nat) ^ (52+0)=4503599627370496:=by decide
  rw[e]
  have:=Nat.two_pow_pos d
  exact Nat.le_trans (by omega) (Nat.le_mul_of_pos_right W this)
 have hb:=zK hlog h0
 have hW57:W<=2 ^ 57:=by
  have e:(2:Nat) ^ 57=144115188075855872:=by decide
  omega
 have hle:=rung_E16 (le_E16 hW57 hdle)
 have hfb:double.fractionBits=52:=rfl
 rw[hfb]at e1
 refine⟨s,d,⟨m1,m2⟩,?_,?_⟩
 ·have:K=1074:=rfl
  omega
 ·rw[<- hst]
  generalize rung 52 0 (W*2 ^ d)=r at*
  simp only[Bool.false_eq_true,if_false]at e1
  rw[Nat.min_eq_left (by omega)]at e1
  have hmr:mg r=r:=aN (by omega)
  have c1:canonB r=r:=by unfold canonB;rw[if_neg (by rw[bV];omega),if_neg (by omega)]
  rw[iJ e1,c1]
def frt(T:Nat):Nat:=frc T fun T=>
 bif nrmF T&&Nat.blt T 9218868437227405312&&Nat.ble 100 (pe T)then nrmV (stF (pm T <<< (56+pe T%2))) ((pe T+1074 - (56+pe T%2))/2 - 1)else rtB T
theorem frt_eq(T:Nat):frt T=rtB T:=by
 unfold frt
 simp only[dC,lZ,stF_eq]
 refine dH fun h=> ?_
 simp only[Bool.and_eq_true]at h
 obtain⟨⟨h1,h2⟩,h3⟩:=h
 obtain⟨a1,a2,a3⟩:=fP h1
 have h2:T<9218868437227405312:=by simpa using h2
 have h3:100<=pe T:=by simpa using h3
 obtain⟨s,d,⟨s1,s2⟩,hs,e⟩:=sqrt_exp a1 (bH (by omega)) a2 a3
 rw[e]
 have hpe:=CK T
 rw[hpe]at hs
 have es:56+pe T%2=s:=by omega
 have ed:(pe T+1074 - s)/2 - 1=d:=by omega
 have hpm:=CJ T
 rw[es,ed,hpm]
theorem cw(c:Bool)(r:Nat)(h1:1<=r)(h2:r<=9218868437227405312):wdF c r=canonB (if c=true then 9223372036854775808+r else r):=by
 cases c
 ·have hm:mg r=r:=aN (by omega)
  unfold wdF canonB
  rw[cond_false,if_neg Bool.false_ne_true,if_neg (by rw[bV,hm];omega),if_neg (by rw[hm];omega)]
 ·have hm:mg (9223372036854775808+r)=r:=by unfold mg;omega
  unfold wdF canonB
  rw[cond_true,if_pos rfl,if_neg (by rw[bV,hm];omega),if_neg (by rw[hm];omega)]
def fdq(m n:Nat):Nat:=frc (m <<< 54) fun p=>frc n fun n=>2*(p/n)+(bif Nat.beq (p%n) 0 then 0 else 1)
def fdv(a b:Nat):Nat:=frc a fun a=>frc b fun b=>frc (nrmV (fdq (pm a) (pm b)) (pe a+1019 - pe b)) fun r=>
 bif nrmF a&&nrmF b&&Nat.ble (pe b) (pe a+1019)&&Nat.ble 1 r&&Nat.ble r 9218868437227405312 then wdF (xor (ngF a) (ngF b)) r else dvB a b
theorem fdv_eq(a b:Nat):fdv a b=dvB a b:=by
 unfold fdv
 simp only[dC,lZ]
 refine dH fun h=> ?_
 simp only[Bool.and_eq_true]at h
 obtain⟨⟨⟨⟨h1,h2⟩,h3⟩,h4⟩,h5⟩:=h
 obtain⟨a0,a1,a2⟩:=fP h1
 obtain⟨b0,b1,b2⟩:=fP h2
 have h3:pe b<=pe a+1019:=by simpa using h3
 have h4:1<=rung 52 0 (fdq (pm a) (pm b)*2 ^ (pe a+1019 - pe b)):=by simpa using h4
 have h5:rung 52 0 (fdq (pm a) (pm b)*2 ^ (pe a+1019 - pe b))<=9218868437227405312:=by simpa using h5
 have hfd: ∀m n,fdq m n=2*((m <<< 54)/n)+((m <<< 54)%n != 0).toNat:=by
  intro m n
  unfold fdq
  simp only[dC]
  by_cases c:(m <<< 54)%n=0
  ·have:Nat.beq ((m <<< 54)%n) 0=true:=by rw[c];decide
   rw[this,show((m <<< 54)%n != 0)=false by rw[c];decide];simp only[cond_true,Bool.toNat_false]
  ·have:Nat.beq ((m <<< 54)%n) 0=false:=by rw[Bool.eq_false_iff];intro k;exact c (by simpa using k)
   rw[this,show((m <<< 54)%n != 0)=true from bne_iff_ne.2 c];simp only[cond_false,Bool.toNat_true]
 have hd:double.div a b=some (double.nearest (sgn a ^^ sgn b) (fdq (pm a) (pm b)) (double.leastPlace+((pe a+1019 - pe b:Nat):Int))):=by
  show((double.read a).quotient 54 (double.read b)).map double.write=_
  rw[jO a1 a2,jO b1 b2,hfd]
  have l1:=zM (mg a%4503599627370496) (Nat.mod_lt _ (by omega))
  have l2:=zM (mg b%4503599627370496) (Nat.mod_lt _ (by omega))
  have hn:4503599627370496+mg b%4503599627370496≠0:=by omega
  have hlp:=d_lp
  have q1:=CJ a
  have q2:=CJ b
  have q3:=CK a
  have q4:=CK b
  rw[q1]at l1 ⊢
  rw[q2]at l2 hn ⊢
  rw[q3,q4]
  clear h4 h5 hfd q1 q2 q3 q4 h1 h2
  generalize pm a=m at*
  generalize pm b=n at*
  generalize pe a=x at*
  generalize pe b=y at*
  unfold Datum.quotient
  dsimp only
  rw[if_neg hn,l1,l2]
  simp only[Option.map_some,Format.write]
  have e:double.leastPlace+(x:Int) - (double.leastPlace+(y:Int)) - ((54+52 - 52:Nat):Int) - 1=double.leastPlace+((x+1019 - y:Nat):Int):=by omega
  rw[e]
 rw[fN hd,fX double _ _ _ _ rfl,eT,cF,sQ a0,sQ b0,kE,kE,show double.fractionBits=52 from rfl,Nat.min_eq_left h5]
 exact cw _ _ h4 h5
def fln(x y z:Nat):Nat:=frc x fun x=>frc y fun y=>frc z fun z=>frt (fth (fml x x) (fml y y) (fml z z))
theorem fln_eq(x y z:Nat):fln x y z=lnB x y z:=by unfold fln lnB sqB;simp only[dC,frt_eq,fth_eq,fml_eq]
def fBF(k:Int):Nat:=frc k.natAbs fun m=>frc (nrmV m K) fun r=>bif Nat.beq m 0 then 0 else bif Nat.ble r 9218868437227405312 then wdF (decide (k<0)) r else fB k
theorem fBF_eq(k:Int):fBF k=fB k:=by
 unfold fBF
 simp only[dC,lZ]
 by_cases c:k=0
 ·have:Nat.beq k.natAbs 0=true:=by rw[c];decide
  rw[this,cond_true]
  have z:fB k=0:=by rw[c];decide+kernel
  rw[z]
 ·have h0:Nat.beq k.natAbs 0=false:=by
     rw[Bool.eq_false_iff];intro q;have:k.natAbs=0:=by simpa using q
     omega
  rw[h0,cond_false]
  refine dH fun q=> ?_
  have q:rung 52 0 (k.natAbs*2 ^ K)<=9218868437227405312:=by simpa using q
  unfold fB
  rw[eK]
  have hp:=Nat.two_pow_pos K
  generalize 2 ^ K=P at*
  have hna:(k*(P:Int)).natAbs=k.natAbs*P:=by rw[Int.natAbs_mul,Int.natAbs_natCast]
  have hz: ¬k*(P:Int)=0:=by
   intro h
   rcases Int.mul_eq_zero.1 h with h | h
   ·exact c h
   ·omega
  have hs:decide (k*(P:Int)<0)=decide (k<0):=by
   by_cases d:k<0
   ·rw[decide_eq_true d,decide_eq_true (Int.mul_neg_of_neg_of_pos d (by omega))]
   ·rw[decide_eq_false d,decide_eq_false (by
      have:0<=k*(P:Int):=Int.mul_nonneg (by omega) (by omega)
      omega)]
  unfold rn wdF
  rw[if_neg hz,hna,hs,Nat.min_eq_left q]
  cases decide (k<0)
  ·rw[cond_false,if_neg Bool.false_ne_true]
  ·rw[cond_true,if_pos rfl]
def fqo(n:Nat)(k:Int):Nat:=bif decide (k=0)&&Nat.ble 1 n&&Nat.ble n 32 then 0 else fdv (fBF k) (fBF n)
theorem fqo_eq(n:Nat)(k:Int):fqo n k=qo n k:=by
 unfold fqo
 rw[fdv_eq,fBF_eq,fBF_eq]
 refine dH fun h=> ?_
 simp only[Bool.and_eq_true,decide_eq_true_eq]at h
 obtain⟨⟨h1,h2⟩,h3⟩:=h
 have h2:1<=n:=by simpa using h2
 have h3:n<=32:=by simpa using h3
 obtain⟨b1,b2⟩:=E0 n (by omega) h2
 have z:fB k=0:=by rw[h1];decide+kernel
 rw[z,sX _ b1 b2 0 (by decide)]
def lvF(l:Nat):Bool:=(Nat.ble 4503599627370496 l&&Nat.blt l 9218868437227405312)||lvB l
theorem lvF_eq(l:Nat):lvF l=lvB l:=by
 unfold lvF
 cases h:(Nat.ble 4503599627370496 l&&Nat.blt l 9218868437227405312)
 ·rfl
 ·rw[Bool.and_eq_true]at h
  have h1:4503599627370496<=l:=by simpa using h.1
  have h2:l<9218868437227405312:=by simpa using h.2
  have hm:mg l=l:=aN (by omega)
  rw[zU (by omega) (bH (by omega))]
  unfold classB
  rw[hm,if_neg (by omega),if_neg (by omega),if_pos h2]
  rfl
def fun'(l x:Nat):Nat:=bif lvF l then(bif Nat.beq x 0&&Nat.ble 4503599627370496 l&&Nat.blt l 9218868437227405312 then 0 else fdv x l)else 0
theorem fun_eq(l x:Nat):fun' l x=unB l x:=by
 unfold fun' unB
 rw[lvF_eq,fdv_eq]
 cases lvB l
 ·rfl
 ·rw[cond_true,if_pos rfl]
  refine dH fun h=> ?_
  simp only[Bool.and_eq_true]at h
  obtain⟨⟨h1,h2⟩,h3⟩:=h
  have h1:x=0:=by simpa using h1
  have h2:4503599627370496<=l:=by simpa using h2
  have h3:l<9218868437227405312:=by simpa using h3
  have hm:mg l=l:=aN (by omega)
  rw[h1,sX l (by rw[hm];omega) (by rw[hm];exact h3) 0 (by decide)]
def fpt{β:Type}(n:Nat)(k h:Int)(f:Nat->Nat->Nat->β):β:=
 frc (fqo n n) fun a=>frc (fqo n k) fun b=>frc (fqo n h) fun c=>frc (fln a b c) fun l=>frc (fun' l a) fun x=>frc (fun' l b) fun y=>frc (fun' l c) fun z=>f x y z
theorem xO{β:Type}(n:Nat)(k h:Int)(f:Nat->Nat->Nat->β):fpt n k h f=f (px n (n,k,h)) (py n (n,k,h)) (pz n (n,k,h)):=by
 unfold fpt px py pz pL;simp only[dC,fqo_eq,fln_eq,fun_eq]
def allB(p:Nat->Bool):Nat->Bool
 | 0=>true
 | k+1=>bif p k then allB p k else false
theorem xP{p:Nat->Bool}{n:Nat}(h:allB p n=true): ∀k,k<n->p k=true:=by
 induction n with
 | zero=>intro k hk;omega
 | succ n ih=>
  intro k hk
  have h':(bif p n then allB p n else false)=true:=h
  cases c:p n
  ·rw[c,cond_false]at h';cases h'
  ·rw[c,cond_true]at h'
   by_cases e:k=n
   ·rw[e];exact c
   ·exact ih h' k (by omega)
end
section
open Tf Ieee Cu
def arP(n:Nat)(k h k' h':Int):Bool:=fpt n k h fun x0 y0 z0=>fpt n k' h fun x1 y1 z1=>fpt n k' h' fun x2 y2 z2=>fpt n k h' fun x3 y3 z3=>
 frc (fsb x2 x0) fun a=>frc (fsb y2 y0) fun b=>frc (fsb z2 z0) fun c=>frc (fsb x3 x1) fun u=>frc (fsb y3 y1) fun v=>frc (fsb z3 z1) fun t=>
 frc (fln (fsb (fml b t) (fml c v)) (fsb (fml c u) (fml a t)) (fsb (fml a v) (fml b u))) fun l=>Nat.ble l 4616189618054758400
def arN(n:Nat):Bool:=allB (fun i=>allB (fun j=>arP n ((2*i:Nat) - (n%2:Nat):Int) ((2*(i+j):Nat) - (n%2:Nat):Int) ((2*i+2:Nat) - (n%2:Nat):Int) ((2*(i+j)+2:Nat) - (n%2:Nat):Int)) ((n+n%2)/2 - i)) ((n+n%2)/2)
end
section
theorem ar_all:(allB (fun m=>arN (m+1)) 32)=true:=by kernel_rfl
end
section
open Tf Ieee Cu
theorem ar_of{n:Nat}{k h k' h':Int}(e:arP n k h k' h'=true):ar n (n,k,h) (n,k',h) (n,k',h') (n,k,h')<=4616189618054758400:=by
 unfold arP at e
 rw[xO,xO,xO,xO]at e
 simp only[dC,fln_eq,fsb_eq,fml_eq]at e
 unfold ar cl
 simpa using e
theorem turn_to: ∀f<6,∀s<4,∃t,t<24/\tf t f=0/\(s+tq t f)%4=0:=by decide+kernel
def nl(n:Nat)(v:P3):Nat:=lnB (px n v) (py n v) (pz n v)
theorem cl_sw{x y z u v t:Nat}(hx:x<18446744073709551616)(hy:y<18446744073709551616)(hz:z<18446744073709551616)(hu:u<18446744073709551616)(hv:v<18446744073709551616)(ht:t<18446744073709551616):cl u v t x y z=cl x y z u v t:=by
 unfold cl
 have a:=aZ (aM hy ht) (aM hz hv)
 have b:=aZ (aM hz hu) (aM hx ht)
 have c:=aZ (aM hx hv) (aM hy hu)
 rw[bX v z,bX t y,bX t x,bX u z,bX u y,bX v x]
 rw[fE (aM hy ht) (aM hz hv),fE (aM hz hu) (aM hx ht),fE (aM hx hv) (aM hy hu)]
 rw[kC a,kD a b,lW a b c]
theorem Fi(n:Nat)(p q r s:P3):ar n q p s r=ar n p q r s:=by
 unfold ar
 exact cl_sw (aZ (cZ n r) (cZ n p)) (aZ (dN n r) (dN n p)) (aZ (dP n r) (dP n p)) (aZ (cZ n s) (cZ n q)) (aZ (dN n s) (dN n q)) (aZ (dP n s) (dP n q))
theorem ar_tr(n:Nat)(p q r s:P3):ar n p s r q=ar n p q r s:=(ar_cyc n q p s r).trans (Fi n p q r s)
def a0(n:Nat)(k h:Int):Nat:=ar n (n,k,h) (n,k+2,h) (n,k+2,h+2) (n,k,h+2)
theorem a0_23{n:Nat}(h1:1<=n)(h2:n<=32)(k h:Int):a0 n h k=a0 n k h:=by
 have e:ar n (n,h,k) (n,h,k+2) (n,h+2,k+2) (n,h+2,k)=ar n (n,k,h) (n,k+2,h) (n,k+2,h+2) (n,k,h+2):=zZ h1 h2 (n,k,h) (n,k+2,h) (n,k+2,h+2) (n,k,h+2) 1
 unfold a0
 rw[<- e]
 exact ar_tr n (n,h,k) (n,h,k+2) (n,h+2,k+2) (n,h+2,k)
theorem ar_s2{n:Nat}(h1:1<=n)(h2:n<=32)(a b c a' b' c' a'' b'' c'' x y z:Int):ar n (a,-b,c) (a',-b',c') (a'',-b'',c'') (x,-y,z)=ar n (a,b,c) (a',b',c') (a'',b'',c'') (x,y,z):=by
 have r0:ar n (b,a,c) (b',a',c') (b'',a'',c'') (y,x,z)=ar n (a,b,c) (a',b',c') (a'',b'',c'') (x,y,z):=zZ h1 h2 (a,b,c) (a',b',c') (a'',b'',c'') (x,y,z) 0
 have r2:ar n (-b,a,c) (-b',a',c') (-b'',a'',c'') (-y,x,z)=ar n (b,a,c) (b',a',c') (b'',a'',c'') (y,x,z):=zZ h1 h2 (b,a,c) (b',a',c') (b'',a'',c'') (y,x,z) 2
 have r3:ar n (a,-b,c) (a',-b',c') (a'',-b'',c'') (x,-y,z)=ar n (-b,a,c) (-b',a',c') (-b'',a'',c'') (-y,x,z):=zZ h1 h2 (-b,a,c) (-b',a',c') (-b'',a'',c'') (-y,x,z) 0
 rw[r3,r2,r0]
theorem a0_s2{n:Nat}(h1:1<=n)(h2:n<=32)(k h:Int):a0 n (-(k+2)) h=a0 n k h:=by
 unfold a0
 rw[show -(k+2)+2= -k by omega,ar_s2 h1 h2]
 exact Fi n (n,k,h) (n,k+2,h) (n,k+2,h+2) (n,k,h+2)
theorem a0_s3{n:Nat}(h1:1<=n)(h2:n<=32)(k h:Int):a0 n k (-(h+2))=a0 n k h:=by
 rw[<- a0_23 h1 h2,a0_s2 h1 h2,a0_23 h1 h2]
theorem a0_nn{n:Nat}{k h:Int}(hn:1<=n/\n<=32)(k1: -1<=k)(kh:k<=h)(h2:h+2<=n)(pk:k%2=(n:Int)%2)(ph:h%2=(n:Int)%2):a0 n k h<=4616189618054758400:=by
 have e:=xP ar_all (n - 1) (by omega)
 rw[show n - 1+1=n by omega]at e
 unfold arN at e
 obtain⟨i,hi⟩: ∃i:Nat,((2*i:Nat) - (n%2:Nat):Int)=k:=⟨((k+(n%2:Nat))/2).toNat,by omega⟩
 obtain⟨j,hj⟩: ∃j:Nat,((2*(i+j):Nat) - (n%2:Nat):Int)=h:=⟨((h - k)/2).toNat,by omega⟩
 have e3:=xP e i (by omega)
 have e4:=xP e3 j (by omega)
 have q1:((2*i+2:Nat) - (n%2:Nat):Int)=k+2:=by omega
 have q2:((2*(i+j)+2:Nat) - (n%2:Nat):Int)=h+2:=by omega
 rw[hi,hj,q1,q2]at e4
 exact ar_of e4
theorem a0_any{n:Nat}{k h:Int}(hn:1<=n/\n<=32)(k1: -n<=k)(k2:k+2<=n)(h1: -n<=h)(h2:h+2<=n)(pk:k%2=(n:Int)%2)(ph:h%2=(n:Int)%2):a0 n k h<=4616189618054758400:=by
 have A: ∀(k h:Int),-1<=k-> -1<=h->k+2<=n->h+2<=n->k%2=(n:Int)%2->h%2=(n:Int)%2->a0 n k h<=4616189618054758400:=by
  intro k h a b c d e f
  rcases Int.le_total k h with g | g
  ·exact a0_nn hn a g d e f
  ·rw[<- a0_23 hn.1 hn.2];exact a0_nn hn b g c f e
 have B: ∀(k h:Int),-1<=k-> -n<=h->k+2<=n->h+2<=n->k%2=(n:Int)%2->h%2=(n:Int)%2->a0 n k h<=4616189618054758400:=by
  intro k h a b c d e f
  by_cases g: -1<=h
  ·exact A k h a g c d e f
  ·rw[<- a0_s3 hn.1 hn.2];exact A k _ a (by omega) c (by omega) e (by omega)
 by_cases g: -1<=k
 ·exact B k h g h1 k2 h2 pk ph
 ·rw[<- a0_s2 hn.1 hn.2];exact B _ h (by omega) h1 (by omega) h2 (by omega) ph
theorem ArC_le{n c:Nat}(hn:1<=n/\n<=32)(hc:c<6*n*n):ArC n c<=4616189618054758400:=by
 have hf:=(gP hn.1 hc).1
 obtain⟨t,ht,t1,-⟩:=turn_to _ hf 0 (by omega)
 obtain⟨h1,-⟩:=tA (k:=c) hn.1 rfl hc (show 0<4 by omega) ht hc
 rw[<- Gw hn.1 hn.2 hc ht h1.1]
 have ef:cf n (tnC n t c)=0:=by rw[(tn_dec hn.1 hc ht).1];exact t1
 obtain⟨-,d2,d3,-⟩:=gP hn.1 h1.1
 clear h1 hf t1 hc
 generalize tnC n t c=c' at*
 have e:ArC n c'=a0 n (2*((ci n c':Nat):Int) - n) (2*((cj n c':Nat):Int) - n):=by
  unfold ArC a0
  rw[ef]
  congr 1<;>simp[cr,pl,sc,cC,cR,cU]<;>omega
 rw[e]
 exact a0_any hn (by omega) (by omega) (by omega) (by omega) (by omega) (by omega)
end
namespace Sh
def part(x y z:Int):Int:=if x<0\/y<0\/z<=0 then 0 else if 9223372036854775807<x*y/z then 9223372036854775807 else x*y/z
theorem hJ(x y z:Int):0<=part x y z/\part x y z<=9223372036854775807:=by
 unfold part
 split
 ·omega
 ·rename_i h
  have q:0<=x*y/z:=Int.ediv_nonneg (Int.mul_nonneg (by omega) (by omega)) (by omega)
  split<;>omega
theorem xQ{x y z:Int}(hx:0<=x)(hz:0<z)(h:y<=z):x*y/z<=x:=by
 have h1:x*y<=x*z:=Int.mul_le_mul_of_nonneg_left h hx
 exact Int.ediv_le_of_le_mul hz h1
theorem kF{x y z:Int}(hx:0<=x)(hx2:x<=9223372036854775807)(hy:0<=y)(hz:0<z)(h:y<=z):part x y z=x*y/z/\0<=part x y z/\part x y z<=x:=by
 have l:=xQ hx hz h
 have n: ¬(x<0\/y<0\/z<=0):=by omega
 have n2: ¬9223372036854775807<x*y/z:=by omega
 have e:part x y z=x*y/z:=by unfold part;rw[if_neg n,if_neg n2]
 exact⟨e,by rw[e];exact Int.ediv_nonneg (Int.mul_nonneg hx hy) (by omega),by rw[e];exact l⟩
theorem nZ{a z:Int}(hz:0<z):z*(a/z)<=a/\a<z*(a/z)+z:=by
 have h1:=Int.mul_ediv_add_emod a z
 have h2:=Int.emod_nonneg a (show z≠0 by omega)
 have h3:=Int.emod_lt_of_pos a hz
 constructor<;>omega
def sumN(f:Nat->Int):Nat->Int
 | 0=>0
 | n+1=>sumN f n+f n
theorem cV{f g:Nat->Int}: ∀{n:Nat},(∀i,i<n->f i=g i)->sumN f n=sumN g n
 | 0,_=>rfl
 | n+1,h=>by
  show sumN f n+f n=sumN g n+g n
  rw[cV (n:=n) (fun i hi=>h i (by omega)),h n (by omega)]
theorem gH{f:Nat->Int}: ∀{n:Nat},(∀i,i<n->0<=f i)->0<=sumN f n
 | 0,_=>by show(0:Int)<=0;omega
 | n+1,h=>by
  show 0<=sumN f n+f n
  have a:=gH (n:=n) (fun i hi=>h i (by omega))
  have b:=h n (by omega)
  omega
theorem gC{f:Nat->Int}{n:Nat}(h: ∀i,i<n->0<=f i): ∀{m:Nat},m<=n->sumN f m<=sumN f n:=by
 intro m hm
 induction n with
 | zero=>
    obtain rfl:m=0:=by omega
    omega
 | succ n ih=>
  by_cases e:m=n+1
  ·subst e;omega
  ·have a:=ih (fun i hi=>h i (by omega)) (by omega)
   have b:=h n (by omega)
   show sumN f m<=sumN f n+f n
   omega
theorem vQ{f:Nat->Int}{W S:Int}(hS:0<S): ∀n:Nat,S*sumN (fun i=>f i*W/S) n<=sumN f n*W/\sumN f n*W<=S*sumN (fun i=>f i*W/S) n+n*(S - 1)
 | 0=>by
  show S*0<=0*W/\0*W<=S*0+((0:Nat):Int)*(S - 1)
  simp
 | n+1=>by
  obtain⟨h1,h2⟩:=vQ (f:=f) (W:=W) hS n
  obtain⟨q1,q2⟩:=nZ (a:=f n*W) hS
  show S*(sumN (fun i=>f i*W/S) n+f n*W/S)<=(sumN f n+f n)*W/\(sumN f n+f n)*W<=S*(sumN (fun i=>f i*W/S) n+f n*W/S)+((n+1:Nat):Int)*(S - 1)
  rw[Int.mul_add,Int.add_mul]
  have e:((n+1:Nat):Int)*(S - 1)=n*(S - 1)+(S - 1):=by
   rw[Int.natCast_add,Int.add_mul]
   omega
  rw[e]
  constructor<;>omega
def mY(W S x:Int):Int:=if W<S then part x W S else x
theorem Fj{W S x:Int}(hW:0<=W)(hx:0<=x)(hx2:x<=9223372036854775807):0<=mY W S x/\mY W S x<=x:=by
 unfold mY
 split
 ·rename_i h
  exact(kF hx hx2 hW (by omega) (by omega)).2
 ·omega
theorem GI{W S:Int}(hW:0<=W):mY W S 0=0:=by
 have:=Fj (S:=S) hW (Int.le_refl 0) (by omega)
 omega
theorem cut_sum{f:Nat->Int}{W:Int}{n:Nat}(hW:0<=W)(hf: ∀i,i<n->0<=f i)(hS:sumN f n<=9223372036854775807):
  (sumN f n<=W->sumN (fun i=>mY W (sumN f n) (f i)) n=sumN f n)/\(W<sumN f n->sumN (fun i=>mY W (sumN f n) (f i)) n<=W/\W - n<sumN (fun i=>mY W (sumN f n) (f i)) n):=by
 constructor
 ·intro h
  refine cV (fun i _=> ?_)
  unfold mY
  rw[if_neg (by omega)]
 ·intro h
  have e:sumN (fun i=>mY W (sumN f n) (f i)) n=sumN (fun i=>f i*W/sumN f n) n:=by
   refine cV (fun i hi=> ?_)
   have m:=gC hf (m:=i+1) (by omega)
   have m0:=gH (f:=f) (n:=i) (fun j hj=>hf j (by omega))
   have m1:sumN f (i+1)=sumN f i+f i:=rfl
   have hi0:=hf i hi
   unfold mY
   rw[if_pos h]
   exact(kF hi0 (by omega) hW (by omega) (by omega)).1
  rw[e]
  have hn:0<n:=by
   rcases Nat.eq_zero_or_pos n with h0 | h0
   ·subst h0
    have z:sumN f 0=0:=rfl
    omega
   ·exact h0
  obtain⟨h1,h2⟩:=vQ (f:=f) (W:=W) (S:=sumN f n) (by omega) n
  generalize sumN (fun i=>f i*W/sumN f n) n=T at*
  generalize sumN f n=S at*
  constructor
  ·exact Int.le_of_mul_le_mul_left h1 (by omega)
  ·have h3:(n:Int)*(S - 1)<n*S:=Int.mul_lt_mul_of_pos_left (by omega) (by omega)
   have h4:S*(W - n)<S*T:=by
    rw[Int.mul_sub,Int.mul_comm S n]
    omega
   exact Int.lt_of_mul_lt_mul_left h4 (by omega)
end Sh
section
namespace Rv
open Sh
def lt2(K:Nat->Nat)(a b:Nat):Bool:=decide (K a<K b)||(decide (K a=K b)&&decide (a<b))
theorem Fk{K:Nat->Nat}{a b:Nat}:lt2 K a b=true ↔ K a<K b\/(K a=K b/\a<b):=by
 unfold lt2
 simp
def bst(K:Nat->Nat)(nb:Nat->Nat):Nat->Nat
 | 0=>nb 0
 | k+1=>if lt2 K (nb (k+1)) (bst K nb k)=true then nb (k+1)else bst K nb k
theorem bst_in(K nb:Nat->Nat): ∀k,∃s,s<=k/\bst K nb k=nb s
 | 0=>⟨0,Nat.le_refl _,rfl⟩
 | k+1=>by
  obtain⟨s,h1,h2⟩:=bst_in K nb k
  by_cases c:lt2 K (nb (k+1)) (bst K nb k)=true
  ·exact⟨k+1,Nat.le_refl _,by unfold bst;rw[if_pos c]⟩
  ·exact⟨s,by omega,by unfold bst;rw[if_neg c];exact h2⟩
theorem vR(K nb:Nat->Nat): ∀k s,s<=k-> ¬(K (nb s)<K (bst K nb k)\/(K (nb s)=K (bst K nb k)/\nb s<bst K nb k))
 | 0,s,h=>by
  obtain rfl:s=0:=by omega
  show¬(K (nb 0)<K (nb 0)\/(K (nb 0)=K (nb 0)/\nb 0<nb 0))
  omega
 | k+1,s,h=>by
  have ih:=vR K nb k
  by_cases c:lt2 K (nb (k+1)) (bst K nb k)=true
  ·have e:bst K nb (k+1)=nb (k+1):=by show(if _ then _ else _)=_;rw[if_pos c]
   rw[e]
   have c':=Fk.1 c
   by_cases q:s=k+1
   ·subst q;omega
   ·have:=ih s (by omega)
    omega
  ·have e:bst K nb (k+1)=bst K nb k:=by show(if _ then _ else _)=_;rw[if_neg c]
   rw[e]
   by_cases q:s=k+1
   ·subst q
    exact fun h=>c (Fk.2 h)
   ·exact ih s (by omega)
def dnI(K:Nat->Nat)(nb:Nat->Nat)(c:Nat):Int:=if K (bst K nb 3)<K c then((bst K nb 3:Nat):Int)else -1
theorem dnI_yes{K nb:Nat->Nat}{c:Nat}(h: ¬dnI K nb c<0): ∃d:Nat,dnI K nb c=(d:Nat)/\K d<K c/\(∃s,s<4/\nb s=d)/\ ∀s,s<4-> ¬(K (nb s)<K d\/(K (nb s)=K d/\nb s<d)):=by
 unfold dnI at h ⊢
 by_cases q:K (bst K nb 3)<K c
 ·rw[if_pos q]
  obtain⟨s,h1,h2⟩:=bst_in K nb 3
  exact⟨_,rfl,q,⟨s,by omega,h2.symm⟩,fun s hs=>vR K nb 3 s (by omega)⟩
 ·rw[if_neg q]at h;omega
/-! ### the order -/
def bf(K:Nat->Nat)(a b:Nat):Prop:=K b<K a\/(K a=K b/\a<b)
def IsOrd(K:Nat->Nat)(n:Nat)(l:List Nat):Prop:=l.Pairwise (bf K)/\l.Perm (List.range n)
def leB(K:Nat->Nat)(a b:Nat):Bool:=decide (K b<K a)||(decide (K a=K b)&&decide (a<=b))
def ordL(K:Nat->Nat)(n:Nat):List Nat:=(List.range n).mergeSort (leB K)
theorem rL{K:Nat->Nat}{a b:Nat}:leB K a b=true ↔ K b<K a\/(K a=K b/\a<=b):=by
 unfold leB
 simp
theorem ordL_ord(K:Nat->Nat)(n:Nat):IsOrd K n (ordL K n):=by
 have p:(ordL K n).Perm (List.range n):=List.mergeSort_perm _ _
 refine⟨?_,p⟩
 have s:(ordL K n).Pairwise (fun a b=>leB K a b=true):=List.pairwise_mergeSort (fun a b c h1 h2=>by
  rw[rL]at*
  omega) (fun a b=>by
  rw[Bool.or_eq_true,rL,rL]
  omega) _
 have nd:(ordL K n).Nodup:=p.nodup_iff.2 List.nodup_range
 have nd2:(ordL K n).Pairwise (fun a b=>a≠b):=nd
 refine(s.and nd2).imp ?_
 rintro a b ⟨h1,h2⟩
 rw[rL]at h1
 unfold bf
 omega
theorem ordL_mem{K:Nat->Nat}{n c:Nat}:c ∈ ordL K n ↔ c<n:=by rw[(ordL_ord K n).2.mem_iff,List.mem_range]
/-! ### a step of rivers -/
def gvW(x:Int):Int:=x/4
def rv1(dn:Nat->Int)(sh:Int->Nat->Bool)(X:(Nat->Int) × (Nat->Int))(c:Nat):(Nat->Int) × (Nat->Int):=
 if dn c<0\/X.1 c<=0\/sh (X.1 c) c=false then X else
  (fun i=>if i=(dn c).toNat then X.1 i+gvW (X.1 c)else if i=c then X.1 c - gvW (X.1 c)else X.1 i,
   fun i=>if i=(dn c).toNat then X.2 i+Sh.part (X.2 c) (gvW (X.1 c)) (X.1 c)else if i=c then X.2 c - Sh.part (X.2 c) (gvW (X.1 c)) (X.1 c)else X.2 i)
def rvL(dn:Nat->Int)(sh:Int->Nat->Bool)(X:(Nat->Int) × (Nat->Int))(l:List Nat):(Nat->Int) × (Nat->Int):=l.foldl (rv1 dn sh) X
def okD(n:Nat)(dn:Nat->Int):Prop:= ∀c,c<n-> ¬dn c<0->(dn c).toNat<n/\(dn c).toNat≠c
def okV(n:Nat)(f:Nat->Int):Prop:=(∀c,c<n->0<=f c)/\sumN f n<=4503599627370496
theorem tG(f:Nat->Int)(c:Nat)(d:Int): ∀n,sumN (fun i=>if i=c then f i+d else f i) n=sumN f n+if c<n then d else 0
 | 0=>by
  show(0:Int)=0+if c<0 then d else 0
  rw[if_neg (by omega)]
  rfl
 | n+1=>by
  show sumN (fun i=>if i=c then f i+d else f i) n+(if n=c then f n+d else f n)=sumN f n+f n+if c<n+1 then d else 0
  rw[tG f c d n]
  by_cases e:n=c
  ·subst e
   rw[if_pos rfl,if_neg (by omega),if_pos (by omega)]
   omega
  ·rw[if_neg e]
   by_cases l:c<n
   ·rw[if_pos l,if_pos (by omega)]
    omega
   ·rw[if_neg l,if_neg (by omega)]
    omega
theorem mA{f:Nat->Int}{n c d:Nat}{m:Int}(hc:c<n)(hd:d<n)(h:d≠c):sumN (fun i=>if i=d then f i+m else if i=c then f c - m else f i) n=sumN f n:=by
 have e:sumN (fun i=>if i=d then f i+m else if i=c then f c - m else f i) n=sumN (fun i=>if i=d then(fun j=>if j=c then f j+ -m else f j) i+m else(fun j=>if j=c then f j+ -m else f j) i) n:=by
  refine cV (fun i _=> ?_)
  dsimp only
  by_cases e1:i=d
  ·subst e1
   rw[if_pos rfl,if_pos rfl,if_neg h]
  ·rw[if_neg e1,if_neg e1]
   by_cases e2:i=c
   ·subst e2
    rw[if_pos rfl,if_pos rfl]
    omega
   ·rw[if_neg e2,if_neg e2]
 rw[e,tG,tG,if_pos hc,if_pos hd]
 omega
theorem elem_le{f:Nat->Int}{n c:Nat}(h: ∀i,i<n->0<=f i)(hc:c<n):f c<=sumN f n:=by
 have a:=gC h (m:=c+1) (by omega)
 have b:=gH (f:=f) (n:=c) (fun i hi=>h i (by omega))
 have e:sumN f (c+1)=sumN f c+f c:=rfl
 omega
theorem okV.b{n:Nat}{f:Nat->Int}(h:okV n f){c:Nat}(hc:c<n):0<=f c/\f c<=4503599627370496:=⟨h.1 c hc,by have:=elem_le h.1 hc;have:=h.2;omega⟩
section
variable {n:Nat} {dn:Nat->Int} {sh:Int->Nat->Bool} {X:(Nat->Int) × (Nat->Int)}
theorem gv_in{x t:Int}(hx:0<x)(ht:0<=t/\t<=4503599627370496):(0<=gvW x/\gvW x<=x)/\0<=Sh.part t (gvW x) x/\Sh.part t (gvW x) x<=t:=by
 have g:0<=gvW x/\gvW x<=x:=by unfold gvW;omega
 exact⟨g,(kF ht.1 (by omega) g.1 hx g.2).2⟩
theorem rv1_ok(hd:okD n dn)(hX:okV n X.1/\okV n X.2){c:Nat}(hc:c<n):okV n (rv1 dn sh X c).1/\okV n (rv1 dn sh X c).2:=by
 unfold rv1
 by_cases q:dn c<0\/X.1 c<=0\/sh (X.1 c) c=false
 ·rw[if_pos q];exact hX
 ·rw[if_neg q]
  obtain⟨d1,d2⟩:=hd c hc (by omega)
  have g:=gv_in (x:=X.1 c) (t:=X.2 c) (by omega) (hX.2.b hc)
  have w0:=hX.1.b hc
  refine⟨⟨fun i hi=> ?_,?_⟩,⟨fun i hi=> ?_,?_⟩⟩
  ·dsimp only
   have:=hX.1.1 i hi
   split
   ·omega
   ·split<;>omega
  ·dsimp only
   rw[mA hc d1 d2]
   exact hX.1.2
  ·dsimp only
   have:=hX.2.1 i hi
   split
   ·omega
   ·split<;>omega
  ·dsimp only
   rw[mA hc d1 d2]
   exact hX.2.2
theorem rv1_sum(hd:okD n dn){c:Nat}(hc:c<n):sumN (rv1 dn sh X c).1 n=sumN X.1 n/\sumN (rv1 dn sh X c).2 n=sumN X.2 n:=by
 unfold rv1
 by_cases q:dn c<0\/X.1 c<=0\/sh (X.1 c) c=false
 ·rw[if_pos q];exact⟨rfl,rfl⟩
 ·rw[if_neg q]
  obtain⟨d1,d2⟩:=hd c hc (by omega)
  exact⟨mA hc d1 d2,mA hc d1 d2⟩
theorem rvL_ok(hd:okD n dn): ∀{l:List Nat} {X:(Nat->Int) × (Nat->Int)},(∀c,c ∈ l->c<n)->(okV n X.1/\okV n X.2)->(okV n (rvL dn sh X l).1/\okV n (rvL dn sh X l).2)/\sumN (rvL dn sh X l).1 n=sumN X.1 n/\sumN (rvL dn sh X l).2 n=sumN X.2 n
 | [],X,_,hX=>⟨hX,rfl,rfl⟩
 | c :: l,X,hl,hX=>by
  have hc:=hl c (List.mem_cons_self ..)
  have a:=rvL_ok hd (l:=l) (X:=rv1 dn sh X c) (fun c h=>hl c (List.mem_cons_of_mem _ h)) (rv1_ok hd hX hc)
  have b:=rv1_sum (sh:=sh) (X:=X) hd hc
  exact⟨a.1,a.2.1.trans b.1,a.2.2.trans b.2⟩
end
end Rv
end
section
namespace Rn
open Sh
def dn(a s x:Int):Int:=if a<0 then -(if x< -a then x else -a)else(if s<a then s else a)
def fallB(st:Int)(r:Int × Int × Int × Int):Bool:=decide (r.2.2.1<=st)&&decide (st<r.2.2.2)
def rn1(st:Int)(r:Int × Int × Int × Int)(X:(Nat->Int) × Int):(Nat->Int) × Int:=
 if fallB st r=true then(fun i=>if i=r.1.toNat then X.1 i+dn r.2.1 X.2 (X.1 r.1.toNat)else X.1 i,X.2 - dn r.2.1 X.2 (X.1 r.1.toNat))else X
def rnN(st:Int)(R:Nat->Int × Int × Int × Int)(X:(Nat->Int) × Int):Nat->(Nat->Int) × Int
 | 0=>X
 | k+1=>rn1 st (R k) (rnN st R X k)
def okR(n:Nat)(r:Int × Int × Int × Int):Prop:=0<=r.1/\r.1<n/\ -4503599627370496<=r.2.1/\r.2.1<=4503599627370496/\0<=r.2.2.1/\r.2.2.1<=r.2.2.2
def tH(lw:Nat)(W:Nat->Int)(s:Int)(lr:Nat)(R:Nat->Int × Int × Int × Int)(st:Int):Prop:=
 0<=st/\(0<=s/\s<=4503599627370496)/\lr<=1024/\(∀i,i<lw->0<=W i/\W i<=4503599627370496)/\ ∀k,k<lr->okR lw (R k)
theorem dn_in{a s x:Int}(hs:0<=s)(hx:0<=x): -x<=dn a s x/\dn a s x<=s:=by
 unfold dn
 split<;>split<;>omega
theorem dn_bd{a s x m:Int}(hs:0<=s)(hx:0<=x)(h: -m<=a/\a<=m): -m<=dn a s x/\dn a s x<=m:=by
 unfold dn
 split<;>split<;>omega
section
variable {st:Int} {R:Nat->Int × Int × Int × Int} {X:(Nat->Int) × Int} {n:Nat} {r:Int × Int × Int × Int}
theorem rn1_no(h:fallB st r=false):rn1 st r X=X:=by unfold rn1;rw[if_neg (by rw[h];decide)]
theorem rn1_nn(ho:okR n r)(hX:(∀i,i<n->0<=X.1 i)/\0<=X.2):(∀i,i<n->0<=(rn1 st r X).1 i)/\0<=(rn1 st r X).2:=by
 unfold rn1
 split
 ·have hc:r.1.toNat<n:=by have:=ho.1;have:=ho.2.1;omega
  have d:=dn_in (a:=r.2.1) hX.2 (hX.1 _ hc)
  refine⟨fun i hi=> ?_,?_⟩
  ·dsimp only
   split
   ·rename_i e;subst e;omega
   ·exact hX.1 i hi
  ·dsimp only
   omega
 ·exact hX
theorem xR(hX:(∀i,i<n->0<=X.1 i)/\0<=X.2): ∀{k:Nat},(∀j,j<k->okR n (R j))->(∀i,i<n->0<=(rnN st R X k).1 i)/\0<=(rnN st R X k).2
 | 0,_=>hX
 | k+1,ho=>rn1_nn (ho k (by omega)) (xR hX (fun j hj=>ho j (by omega)))
theorem rnN_le{B:Int}(hX:(∀i,i<n->0<=X.1 i)/\0<=X.2)(hB:(∀i,i<n->X.1 i<=B)/\X.2<=B): ∀{k:Nat},(∀j,j<k->okR n (R j))->(∀i,i<n->(rnN st R X k).1 i<=B+4503599627370496*k)/\(rnN st R X k).2<=B+4503599627370496*k
 | 0,_=>⟨fun i hi=>by show X.1 i<=_;have:=hB.1 i hi;omega,by show X.2<=_;have:=hB.2;omega⟩
 | k+1,ho=>by
  obtain⟨h1,h2⟩:=rnN_le hX hB (k:=k) (fun j hj=>ho j (by omega))
  obtain⟨p1,p2⟩:=xR (st:=st) hX (k:=k) (fun j hj=>ho j (by omega))
  have o:=ho k (by omega)
  show(∀i,i<n->(rn1 st (R k) (rnN st R X k)).1 i<=_)/\(rn1 st (R k) (rnN st R X k)).2<=_
  have e:(4503599627370496:Int)*((k+1:Nat):Int)=4503599627370496*k+4503599627370496:=by omega
  rw[e]
  generalize rnN st R X k=Y at*
  unfold rn1
  split
  ·have hc:(R k).1.toNat<n:=by have:=o.1;have:=o.2.1;omega
   have d:=dn_bd (a:=(R k).2.1) (m:=4503599627370496) p2 (p1 _ hc) ⟨o.2.2.1,o.2.2.2.1⟩
   refine⟨fun i hi=> ?_,?_⟩
   ·dsimp only
    have:=h1 i hi
    split
    ·rename_i q;subst q;omega
    ·omega
   ·dsimp only
    omega
  ·exact⟨fun i hi=>by have:=h1 i hi;omega,by omega⟩
theorem Aj(f:Nat->Int)(c:Nat)(d:Int): ∀n,sumN (fun i=>if i=c then f i+d else f i) n=sumN f n+if c<n then d else 0
 | 0=>by
  show(0:Int)=0+if c<0 then d else 0
  rw[if_neg (by omega)]
  rfl
 | n+1=>by
  show sumN (fun i=>if i=c then f i+d else f i) n+(if n=c then f n+d else f n)=sumN f n+f n+if c<n+1 then d else 0
  rw[Aj f c d n]
  by_cases e:n=c
  ·subst e
   rw[if_pos rfl,if_neg (by omega),if_pos (by omega)]
   omega
  ·rw[if_neg e]
   by_cases l:c<n
   ·rw[if_pos l,if_pos (by omega)]
    omega
   ·rw[if_neg l,if_neg (by omega)]
    omega
theorem rn1_kept(ho:okR n r):sumN (rn1 st r X).1 n+(rn1 st r X).2=sumN X.1 n+X.2:=by
 unfold rn1
 split
 ·have hc:r.1.toNat<n:=by have:=ho.1;have:=ho.2.1;omega
  dsimp only
  rw[Aj,if_pos hc]
  omega
 ·rfl
theorem Ak: ∀{k:Nat},(∀j,j<k->okR n (R j))->sumN (rnN st R X k).1 n+(rnN st R X k).2=sumN X.1 n+X.2
 | 0,_=>rfl
 | k+1,ho=>(rn1_kept (ho k (by omega))).trans (Ak (fun j hj=>ho j (by omega)))
theorem GJ{lw lr:Nat}{W:Nat->Int}{s:Int}(g:tH lw W s lr R st):(∀i,i<lw->0<=(rnN st R (W,s) lr).1 i/\(rnN st R (W,s) lr).1 i<=4616189618054758400)/\0<=(rnN st R (W,s) lr).2/\(rnN st R (W,s) lr).2<=4616189618054758400:=by
 obtain⟨_,gs,gl,gw,gr⟩:=g
 have a:=xR (st:=st) (R:=R) (X:=(W,s)) (n:=lw) (k:=lr) ⟨fun i hi=>(gw i hi).1,gs.1⟩ gr
 have b:=rnN_le (st:=st) (R:=R) (X:=(W,s)) (n:=lw) (k:=lr) (B:=4503599627370496) ⟨fun i hi=>(gw i hi).1,gs.1⟩ ⟨fun i hi=>(gw i hi).2,gs.2⟩ gr
 exact⟨fun i hi=>⟨a.1 i hi,by have:=b.1 i hi;omega⟩,a.2,by have:=b.2;omega⟩
end
end Rn
end
section
open Tf Ieee
theorem mv_2:mv 4611686018427387904=2*2 ^ K:=by rw[<- mv_ONE];exact mv_dbl (r:=4607182418800017408) (by omega)
theorem Fl{a b:Nat}(ha:a<9218868437227405312)(hb:b<9218868437227405312):mlB a b=min (rung 52 1074 (mv a*mv b)) 9218868437227405312:=by
 have ma:mg a=a:=aN (by omega)
 have mb:mg b=b:=aN (by omega)
 rw[mul_w (by omega) (by omega) (by omega) (by omega),bH (by omega),bH (by omega),ma,mb]
 simp only[Bool.xor_self,Bool.false_eq_true,if_false]
theorem mv_sm{r:Nat}(h:r<9007199254740992):mv r=r:=by
 by_cases c:r<4503599627370496
 ·have:=iV
  unfold mv mag
  rw[if_pos c]
 ·rw[kY (by omega),show r%4503599627370496=r - 4503599627370496 by omega,show r/4503599627370496 - 1=0 by omega,Nat.pow_zero,Nat.mul_one]
  omega
theorem dbl_ex(a:Nat): ∃r,mv r=2*mv a/\a<=r/\(a≠0->a<r):=by
 by_cases h:4503599627370496<=a
 ·exact⟨a+4503599627370496,mv_dbl h,by omega,fun _=>by omega⟩
 ·refine⟨2*a,?_,by omega,fun _=>by omega⟩
  rw[mv_sm (r:=2*a) (by omega),mv_sm (r:=a) (by omega)]
theorem xS{a:Nat}(ha:a<9218868437227405312):mlB 4611686018427387904 a=min (rung 52 0 (2*mv a)) 9218868437227405312:=by
 rw[Fl (by omega) ha,mv_2,show 2*2 ^ K*mv a=(2*mv a)*2 ^ K by rw[Nat.mul_right_comm]]
 have h:=sJ 52 0 K (2*mv a)
 rw[Nat.zero_add]at h
 exact congrArg (min · 9218868437227405312) h
theorem iO{a:Nat}(ha:a<=9218868437227405312):mlB 4611686018427387904 a<=9218868437227405312/\a<=mlB 4611686018427387904 a/\(mlB 4611686018427387904 a<9218868437227405312->mv (mlB 4611686018427387904 a)=2*mv a):=by
 by_cases h:a<9218868437227405312
 ·obtain⟨r,h1,h2,-⟩:=dbl_ex a
  rw[xS h,<- h1,lN]
  refine⟨Nat.min_le_right _ _,by omega,fun k=> ?_⟩
  rw[Nat.min_eq_left (by omega),h1]
 ·obtain rfl:a=9218868437227405312:=by omega
  have e:mlB 4611686018427387904 9218868437227405312=9218868437227405312:=by decide+kernel
  rw[e]
  exact⟨Nat.le_refl _,Nat.le_refl _,fun k=>by omega⟩
theorem d2_mono{a b:Nat}(h:a<=b)(hb:b<=9218868437227405312):mlB 4611686018427387904 a<=mlB 4611686018427387904 b:=by
 by_cases k:b<9218868437227405312
 ·rw[xS (by omega),xS k]
  have:=fW (p:=52) (d:=0) (V:=2*mv a) (V':=2*mv b) (by omega) (Nat.mul_le_mul_left 2 (mN.2 h))
  omega
 ·obtain rfl:b=9218868437227405312:=by omega
  have e:mlB 4611686018427387904 9218868437227405312=9218868437227405312:=by decide+kernel
  rw[e]
  exact(iO (by omega)).1
def sbee(a b:Nat):Nat:=max (min (mlB 4611686018427387904 a) b) (min a (mlB 4611686018427387904 b))
theorem CU{a b:Nat}(ha:a<=9218868437227405312)(hb:b<=9218868437227405312):min a b<=sbee a b/\sbee a b<=max a b/\sbee a b<=mlB 4611686018427387904 (min a b):=by
 have fa:=iO ha
 have fb:=iO hb
 have mono: ∀x y,x<=y->y<=9218868437227405312->mlB 4611686018427387904 x<=mlB 4611686018427387904 y:=fun x y h k=>d2_mono h k
 unfold sbee
 rcases Nat.le_total a b with h | h
 ·rw[Nat.min_eq_left h]
  omega
 ·rw[Nat.min_eq_right h]
  omega
end
section
open Tf Ieee
def Er17:Nat:=2030
theorem mv_E17:mv 9146810843189477376=2 ^ (52+Er17):=fY Er17 _ (by decide)
theorem le_E17{W d:Nat}(hW:W<=2 ^ 57)(hd:d<=2025):W*2 ^ d<=mv 9146810843189477376:=by
 rw[mv_E17]
 have h1:2 ^ d<=2 ^ (Er17 - 5):=Nat.pow_le_pow_right (by omega) (by unfold Er17;omega)
 have h2:=Nat.mul_le_mul hW h1
 have e:2 ^ 57*2 ^ (Er17 - 5)=2 ^ (52+Er17):=by rw[<- Nat.pow_add];congr 1
 rw[e]at h2
 exact h2
theorem quo_lo{m n:Nat}(m1:4503599627370496<=m)(m2:m<9007199254740992)(n1:4503599627370496<=n)(n2:n<9007199254740992):9007199254740992<=m <<< 54/n/\m <<< 54/n<=36028797018963968:=by
 rw[Nat.shiftLeft_eq]
 constructor
 ·rw[Nat.le_div_iff_mul_le (by omega)]
  have:=Nat.mul_le_mul_right (2 ^ 54) m1
  omega
 ·refine Nat.div_le_of_le_mul ?_
  omega
theorem div_pos{x l:Nat}(x1:4503599627370496<=x)(x2:x<9218868437227405312)(l1:4503599627370496<=l)(l2:l<9218868437227405312):
  ∃W,18014398509481984<=W/\W<=2 ^ 57/\W=2*((4503599627370496+x%4503599627370496) <<< 54/(4503599627370496+l%4503599627370496))+((4503599627370496+x%4503599627370496) <<< 54%(4503599627370496+l%4503599627370496) != 0).toNat/\double.div x l=some (double.nearest false W (((x/4503599627370496 - 1:Nat):Int) - ((l/4503599627370496 - 1:Nat):Int) - 55)):=by
 have ml:mg l=l:=aN (by omega)
 have mx:mg x=x:=aN (by omega)
 have el:=jO (x:=l) (by omega) (by omega)
 rw[ml,sQ (by omega),bH (by omega)]at el
 have ex:=jO (x:=x) (by omega) (by omega)
 rw[mx,sQ (by omega),bH (by omega)]at ex
 have hn:4503599627370496+l%4503599627370496≠0:=by omega
 have lx:(4503599627370496+x%4503599627370496).log2=52:=zM _ (Nat.mod_lt _ (by omega))
 have ll:(4503599627370496+l%4503599627370496).log2=52:=zM _ (Nat.mod_lt _ (by omega))
 have hq:=quo_lo (m:=4503599627370496+x%4503599627370496) (n:=4503599627370496+l%4503599627370496) (by omega) (by omega) (by omega) (by omega)
 refine⟨_,?_,?_,rfl,?_⟩
 ·omega
 ·have:((4503599627370496+x%4503599627370496) <<< 54%(4503599627370496+l%4503599627370496) != 0).toNat<=1:=by cases((4503599627370496+x%4503599627370496) <<< 54%(4503599627370496+l%4503599627370496) != 0)<;>simp
  omega
 ·show((double.read x).quotient 54 (double.read l)).map double.write=_
  rw[ex,el]
  unfold Datum.quotient
  dsimp only
  rw[if_neg hn,lx,ll]
  simp only[Bool.xor_false]
  show some (double.nearest false _ _)=some (double.nearest false _ _)
  congr 2
  omega
theorem rung_E17{V:Nat}(h:V<=mv 9146810843189477376):rung 52 0 V<=9146810843189477376:=by
 refine rE (by omega) ?_
 rw[Nat.pow_zero,Nat.mul_one]
 exact h
end
section
open Tf Ieee
def stQ(N n:Nat):Nat:=2*(N/n)+(N%n != 0).toNat
theorem sq_lt{N n y:Nat}(hn:0<n)(h:y*n<N):2*y<stQ N n:=by
 have e:=Nat.div_add_mod N n
 have l:=Nat.mod_lt N hn
 unfold stQ
 have h1:y<=N/n:=(Nat.le_div_iff_mul_le hn).2 (by omega)
 by_cases c:y=N/n
 ·have:(N%n != 0)=true:=by
   simp
   intro z
   rw[z,<- c,Nat.mul_comm]at e
   omega
  rw[this];simp;omega
 ·omega
theorem sq_gt{N n y:Nat}(hn:0<n)(h:N<y*n):stQ N n<2*y:=by
 unfold stQ
 have h1:N/n<y:=(Nat.div_lt_iff_lt_mul hn).2 h
 have:(N%n != 0).toNat<=1:=by cases(N%n != 0)<;>decide
 omega
theorem q_low{N n d r:Nat}(hn:0<n)(hW:18014398509481984<=stQ N n)(h:(mv r+mv (r+1))*n<N*2 ^ (d+2)):r+1<=rung 52 0 (stQ N n*2 ^ d):=by
 rcases Nat.lt_or_ge (stQ N n*2 ^ d) (mv (r+1))with c | c
 ·have hr:=sT hW c
  obtain⟨y,hy⟩:=sS (r:=r) (d:=d) (by omega)
  rw[hy,Nat.mul_right_comm]at h
  have h1:y*n<N:=Nat.lt_of_mul_lt_mul_right h
  have h2:=sq_lt hn h1
  have h3:mv r+mv (r+1)<2*(stQ N n*2 ^ d):=by
   rw[hy,show d+2=d+1+1 by omega,Nat.pow_succ,Nat.pow_succ]
   have:=(Nat.mul_lt_mul_right (Nat.two_pow_pos d)).2 h2
   generalize 2 ^ d=b at*
   generalize stQ N n=W at*
   have e1:y*(b*2*2)=2*(2*y*b):=by rw[show b*2*2=b*4 by omega,show 2*(2*y*b)=y*b*4 by rw[Nat.mul_assoc 2 y b];omega,Nat.mul_assoc]
   omega
  have hlow:mv r<=stQ N n*2 ^ d:=by
   have:=mN (r:=r) (r':=r+1)
   omega
  have:=eJ 52 0 r (stQ N n*2 ^ d) (by omega) (by rw[Nat.pow_zero,Nat.mul_one];exact hlow) (by rw[Nat.pow_zero,Nat.mul_one];exact c)
  rw[if_pos (.inl (by rw[Nat.pow_zero,Nat.mul_one];exact h3))]at this
  omega
 ·exact nP (by omega) (by rw[Nat.pow_zero,Nat.mul_one];exact c)
theorem q_up{N n d r:Nat}(hn:0<n)(hW:18014398509481984<=stQ N n)(h:N*2 ^ (d+2)<(mv r+mv (r+1))*n):rung 52 0 (stQ N n*2 ^ d)<=r:=by
 rcases Nat.lt_or_ge (stQ N n*2 ^ d) (mv (r+1))with c | c
 ·rcases Nat.lt_or_ge (mv r) (stQ N n*2 ^ d)with c2 | c2
  ·have hr:=sT hW c
   obtain⟨y,hy⟩:=sS (r:=r) (d:=d) (by omega)
   rw[hy,Nat.mul_right_comm]at h
   have h1:N<y*n:=Nat.lt_of_mul_lt_mul_right h
   have h2:=sq_gt hn h1
   have h3:2*(stQ N n*2 ^ d)<mv r+mv (r+1):=by
    rw[hy,show d+2=d+1+1 by omega,Nat.pow_succ,Nat.pow_succ]
    have:=(Nat.mul_lt_mul_right (Nat.two_pow_pos d)).2 h2
    generalize 2 ^ d=b at*
    generalize stQ N n=W at*
    have e1:y*(b*2*2)=2*(2*y*b):=by rw[show b*2*2=b*4 by omega,show 2*(2*y*b)=y*b*4 by rw[Nat.mul_assoc 2 y b];omega,Nat.mul_assoc]
    omega
   have:=eJ 52 0 r (stQ N n*2 ^ d) (by omega) (by rw[Nat.pow_zero,Nat.mul_one];exact Nat.le_of_lt c2) (by rw[Nat.pow_zero,Nat.mul_one];exact c)
   rw[if_neg (by rw[Nat.pow_zero,Nat.mul_one];show¬(mv r+mv (r+1)<_\/(mv r+mv (r+1)=_/\_));omega)]at this
   omega
  ·exact rE (by omega) (by rw[Nat.pow_zero,Nat.mul_one];exact c2)
 ·exfalso
  have hr:2*mv (r+1)<=2*(stQ N n*2 ^ d):=by omega
  have hn':=(mN (r:=r) (r':=r+1)).2 (by omega)
  have c3:mv r+mv (r+1)<=2*mv (r+1):=by omega
  by_cases g:(d+3)*4503599627370496<=r
  ·obtain⟨y,hy⟩:=sS (r:=r) (d:=d) g
   rw[hy,Nat.mul_right_comm]at h
   have h1:N<y*n:=Nat.lt_of_mul_lt_mul_right h
   have h2:=sq_gt hn h1
   have:=(Nat.mul_lt_mul_right (Nat.two_pow_pos d)).2 h2
   rw[hy,show d+2=d+1+1 by omega,Nat.pow_succ,Nat.pow_succ]at c3
   generalize 2 ^ d=b at*
   generalize stQ N n=W at*
   have e1:y*(b*2*2)=2*(2*y*b):=by rw[show b*2*2=b*4 by omega,show 2*(2*y*b)=y*b*4 by rw[Nat.mul_assoc 2 y b];omega,Nat.mul_assoc]
   omega
  ·have e2:=fY (d+2) ((d+3)*4503599627370496) (by
    have e:(2:Nat) ^ 52=4503599627370496:=by decide
    rw[e])
   have hle:mv (r+1)<=mv ((d+3)*4503599627370496):=mN.2 (by omega)
   have h5:(mv r+mv (r+1))*n<=2*2 ^ (52+(d+2))*n:=Nat.mul_le_mul_right n (by omega)
   have h6:2*2 ^ (52+(d+2))*n=9007199254740992*n*2 ^ (d+2):=by
    rw[show 2*2 ^ (52+(d+2))=9007199254740992*2 ^ (d+2)by rw[Nat.pow_add 2 52 (d+2),<- Nat.mul_assoc],Nat.mul_right_comm]
   have h7:N<9007199254740992*n:=by
    refine Nat.lt_of_mul_lt_mul_right (a:=2 ^ (d+2)) ?_
    omega
   have:=sq_gt hn h7
   omega
theorem vS{q:Nat}(q1:4503599627370496<=q)(q2:q<9218868437227405312):canonB q=q:=by
 have mq:mg q=q:=aN (by omega)
 unfold canonB
 rw[mq,if_neg (by unfold isN;rw[mq];simp;omega),if_neg (by omega)]
theorem xT{x l:Nat}(x1:4503599627370496<=x)(x2:x<9218868437227405312)(l1:4503599627370496<=l)(l2:l<9218868437227405312)
  (h1:l/4503599627370496<=x/4503599627370496+1010) (h2:x/4503599627370496<=l/4503599627370496+1006):
  ∃N n d g,0<g/\0<n/\18014398509481984<=stQ N n/\dvB x l=rung 52 0 (stQ N n*2 ^ d)/\n*g=mv l/\N*2 ^ (d+2)*g=2*(mv x*2 ^ K)/\4503599627370496<=dvB x l/\dvB x l<=9146810843189477376:=by
 obtain⟨W,w1,w2,w3,e1⟩:=div_pos x1 x2 l1 l2
 have hq:W=stQ ((4503599627370496+x%4503599627370496)*2 ^ 54) (4503599627370496+l%4503599627370496):=by rw[w3];unfold stQ;rw[Nat.shiftLeft_eq]
 have px:=kY x1
 have pl:=kY l1
 have hlp:=d_lp
 have ha:1<=x/4503599627370496/\1<=l/4503599627370496:=by omega
 clear w3
 generalize x/4503599627370496=a at*
 generalize l/4503599627370496=c at*
 obtain⟨d,hd⟩: ∃d:Nat,(((a - 1:Nat):Int) - ((c - 1:Nat):Int) - 55)=double.leastPlace+(d:Int):=⟨((((a - 1:Nat):Int) - ((c - 1:Nat):Int) - 55) - double.leastPlace).toNat,by omega⟩
 have hdle:d<=2025:=by omega
 have hdk:d+2+54+(c - 1)=(a - 1)+1+K:=by unfold K;omega
 rw[fX double false W d _ hd,eT,cF]at e1
 have h0:W*2 ^ d≠0:=Nat.mul_ne_zero (by omega) (by have:=Nat.two_pow_pos d;omega)
 have hlog:52+0<=(W*2 ^ d).log2:=by
  refine(Nat.le_log2 h0).2 ?_
  have e:(2:Nat) ^ (52+0)=4503599627370496:=by decide
  rw[e]
  have:=Nat.two_pow_pos d
  exact Nat.le_trans (by omega) (Nat.le_mul_of_pos_right W this)
 have hb:=zK hlog h0
 have hle:=rung_E17 (le_E17 w2 hdle)
 have hfb:double.fractionBits=52:=rfl
 rw[hfb]at e1
 refine⟨(4503599627370496+x%4503599627370496)*2 ^ 54,4503599627370496+l%4503599627370496,d,2 ^ (c - 1),Nat.two_pow_pos _,by omega,by omega,?_,pl.symm,?_,?_⟩
 ·rw[<- hq]
  generalize rung 52 0 (W*2 ^ d)=r at*
  simp only[Bool.false_eq_true,if_false]at e1
  rw[Nat.min_eq_left (by omega)]at e1
  rw[fN e1]
  exact vS hb (by omega)
 ·rw[px]
  generalize 4503599627370496+x%4503599627370496=m
  rw[show m*2 ^ 54*2 ^ (d+2)*2 ^ (c - 1)=m*2 ^ (d+2+54+(c - 1))by rw[Nat.mul_assoc,Nat.mul_assoc,<- Nat.pow_add,<- Nat.pow_add];congr 2;omega,hdk,Nat.pow_add,Nat.pow_add,Nat.pow_one]
  generalize 2 ^ (a - 1)=u
  generalize 2 ^ K=v
  rw[show u*2*v=2*(u*v)by rw[Nat.mul_comm u 2,Nat.mul_assoc],<- Nat.mul_assoc m 2,Nat.mul_comm m 2,Nat.mul_assoc,Nat.mul_assoc]
 ·generalize rung 52 0 (W*2 ^ d)=r at*
  simp only[Bool.false_eq_true,if_false]at e1
  rw[Nat.min_eq_left (by omega)]at e1
  rw[fN e1,vS hb (by omega)]
  exact⟨hb,hle⟩
end
end Go.Proofs.YtaphajlpbgcfjaaGreatDoor
