/-
  Some of the texts of this proof, one behind the other.
-/
import Derived.WalkKit
import Derived.Test.YtmhnilnaffjhmaaGreatDoorCeg06
set_option maxRecDepth 100000
set_option maxHeartbeats 400000000
namespace Go.Proofs.YtmhnilnaffjhmaaGreatDoor
open _root_.Go.Proofs.Tryz
section
open Tf Ieee Cu
theorem gap_of{n:Nat}{k h k' h':Int}(e:gapP n k h k' h'=true):1<=gp n (n,k,h) (n,k',h')/\gp n (n,k,h) (n,k',h')<=4611686018427387904:=by
 unfold gapP at e
 rw[AJ,AJ]at e
 simp only[cJ,AI,fsb_eq,Bool.and_eq_true]at e
 unfold gp
 exact⟨by simpa using e.1,by simpa using e.2⟩
theorem gp_s2{n:Nat}(h1:1<=n)(h2:n<=32)(a b c a' b' c':Int):gp n (a,-b,c) (a',-b',c')=gp n (a,b,c) (a',b',c'):=by
 have e0:=tR h1 h2 (b,a,c) (b',a',c') 0
 have e2:=tR h1 h2 (b,a,c) (b',a',c') 2
 have e3:=tR h1 h2 (-b,a,c) (-b',a',c') 0
 have r0:gp n (a,b,c) (a',b',c')=gp n (b,a,c) (b',a',c'):=e0
 have r2:gp n (-b,a,c) (-b',a',c')=gp n (b,a,c) (b',a',c'):=e2
 have r3:gp n (a,-b,c) (a',-b',c')=gp n (-b,a,c) (-b',a',c'):=e3
 rw[r0,r3,r2]
theorem gp_s3{n:Nat}(h1:1<=n)(h2:n<=32)(a b c a' b' c':Int):gp n (a,b,-c) (a',b',-c')=gp n (a,b,c) (a',b',c'):=by
 have e1:gp n (a,-c,b) (a',-c',b')=gp n (a,b,-c) (a',b',-c'):=tR h1 h2 (a,b,-c) (a',b',-c') 1
 have e2:gp n (a,c,b) (a',c',b')=gp n (a,b,c) (a',b',c'):=tR h1 h2 (a,b,c) (a',b',c') 1
 rw[<- e1,gp_s2 h1 h2,e2]
theorem len_nn{n k:Nat}{h:Int}(hn:1<=n/\n<=32)(hk:k<=n)(pk:k%2=n%2)(h1: -1<=h)(h2:h+2<=n)(ph:h%2=(n:Int)%2):
  1<=gp n (n,(k:Int),h) (n,(k:Int),h+2)/\gp n (n,(k:Int),h) (n,(k:Int),h+2)<=4611686018427387904:=by
 have e:=hJ len_all (n - 1) (by omega)
 rw[show n - 1+1=n by omega]at e
 unfold lenN at e
 obtain⟨j,hj⟩: ∃j:Nat,((2*j:Nat) - (n%2:Nat):Int)=h:=⟨((h+(n%2:Nat))/2).toNat,by omega⟩
 have e3:=hJ e (k/2) (by omega)
 have e4:=hJ e3 j (by omega)
 have k1:2*(k/2)+n%2=k:=by omega
 have k2:((2*j+2:Nat) - (n%2:Nat):Int)=h+2:=by omega
 rw[k1,hj,k2]at e4
 exact gap_of e4
theorem len_any{n:Nat}{k h:Int}(hn:1<=n/\n<=32)(k1: -n<=k)(k2:k<=n)(pk:k%2=(n:Int)%2)(h1: -n<=h)(h2:h+2<=n)(ph:h%2=(n:Int)%2):
  1<=gp n (n,k,h) (n,k,h+2)/\gp n (n,k,h) (n,k,h+2)<=4611686018427387904:=by
 have A: ∀(k h:Int),0<=k->k<=n->k%2=(n:Int)%2-> -1<=h->h+2<=n->h%2=(n:Int)%2->1<=gp n (n,k,h) (n,k,h+2)/\gp n (n,k,h) (n,k,h+2)<=4611686018427387904:=by
  intro k h a b c d e f
  obtain⟨m,rfl⟩:=Int.eq_ofNat_of_zero_le a
  exact len_nn hn (by omega) (by omega) d e f
 have B: ∀(k h:Int),0<=k->k<=n->k%2=(n:Int)%2-> -n<=h->h+2<=n->h%2=(n:Int)%2->1<=gp n (n,k,h) (n,k,h+2)/\gp n (n,k,h) (n,k,h+2)<=4611686018427387904:=by
  intro k h a b c d e f
  by_cases g: -1<=h
  ·exact A k h a b c g e f
  ·have q:=A k (-(h+2)) a b c (by omega) (by omega) (by omega)
   rw[show -(h+2)+2= -h by omega,gp_s3 hn.1 hn.2,mP]at q
   exact q
 by_cases g:0<=k
 ·exact B k h g k2 pk h1 h2 ph
 ·have q:=B (-k) h (by omega) (by omega) (by omega) h1 h2 ph
  rw[gp_s2 hn.1 hn.2]at q
  exact q
theorem gap_nn{n h:Nat}{k:Int}(hn:1<=n/\n<=32)(hh:h+1<=n)(ph:h%2=(n+1)%2)(k1: -1<=k)(k2:k+3<=n)(pk:k%2=((n:Int)+1)%2):
  1<=gp n (n,k,(h:Int)) (n,k+2,(h:Int))/\gp n (n,k,(h:Int)) (n,k+2,(h:Int))<=4611686018427387904:=by
 have e:=hJ Dg (n - 1) (by omega)
 rw[show n - 1+1=n by omega,Bool.and_eq_true]at e
 have e:=e.1
 unfold gapN at e
 obtain⟨j,hj⟩: ∃j:Nat,((2*j:Nat) - ((n+1)%2:Nat):Int)=k:=⟨((k+((n+1)%2:Nat))/2).toNat,by omega⟩
 have e3:=hJ e j (by omega)
 have e4:=hJ e3 (h/2) (by omega)
 have q1:2*(h/2)+(n+1)%2=h:=by omega
 have q2:((2*j+2:Nat) - ((n+1)%2:Nat):Int)=k+2:=by omega
 rw[q1,hj,q2]at e4
 exact gap_of e4
theorem gap_any{n:Nat}{k h:Int}(hn:1<=n/\n<=32)(h1: -n+1<=h)(h2:h+1<=n)(ph:h%2=((n:Int)+1)%2)(k1: -n+1<=k)(k2:k+3<=n)(pk:k%2=((n:Int)+1)%2):
  1<=gp n (n,k,h) (n,k+2,h)/\gp n (n,k,h) (n,k+2,h)<=4611686018427387904:=by
 have A: ∀(k h:Int),0<=h->h+1<=n->h%2=((n:Int)+1)%2-> -1<=k->k+3<=n->k%2=((n:Int)+1)%2->1<=gp n (n,k,h) (n,k+2,h)/\gp n (n,k,h) (n,k+2,h)<=4611686018427387904:=by
  intro k h a b c d e f
  obtain⟨m,rfl⟩:=Int.eq_ofNat_of_zero_le a
  exact gap_nn hn (by omega) (by omega) d e f
 have B: ∀(k h:Int),0<=h->h+1<=n->h%2=((n:Int)+1)%2-> -n+1<=k->k+3<=n->k%2=((n:Int)+1)%2->1<=gp n (n,k,h) (n,k+2,h)/\gp n (n,k,h) (n,k+2,h)<=4611686018427387904:=by
  intro k h a b c d e f
  by_cases g: -1<=k
  ·exact A k h a b c g e f
  ·have q:=A (-(k+2)) h a b c (by omega) (by omega) (by omega)
   rw[show -(k+2)+2= -k by omega,gp_s2 hn.1 hn.2,mP]at q
   exact q
 by_cases g:0<=h
 ·exact B k h g h2 ph k1 k2 pk
 ·have q:=B k (-h) (by omega) (by omega) (by omega) k1 k2 pk
  rw[gp_s3 hn.1 hn.2]at q
  exact q
theorem Dh{n h:Nat}(hn:1<=n/\n<=32)(hh:h+1<=n)(ph:h%2=(n+1)%2):
  1<=gp n (n,(n:Int) - 1,(h:Int)) ((n:Int) - 1,n,(h:Int))/\gp n (n,(n:Int) - 1,(h:Int)) ((n:Int) - 1,n,(h:Int))<=4611686018427387904:=by
 have e:=hJ Dg (n - 1) (by omega)
 rw[show n - 1+1=n by omega,Bool.and_eq_true]at e
 have e:=e.2
 unfold overN at e
 have e4:=hJ e (h/2) (by omega)
 have q1:2*(h/2)+(n+1)%2=h:=by omega
 rw[q1,AJ]at e4
 simp only[cJ,AI,fsb_eq,Bool.and_eq_true]at e4
 obtain⟨o1,o2,o3⟩:=p_op0 hn.1 hn.2 ((n:Int),(n:Int) - 1,(h:Int))
 have hop:op8 0 ((n:Int),(n:Int) - 1,(h:Int))=((n:Int) - 1,(n:Int),(h:Int)):=rfl
 rw[hop]at o1 o2 o3
 unfold gp
 rw[o1,o2,o3]
 exact⟨by simpa using e4.1,by simpa using e4.2⟩
theorem over_any{n:Nat}{h:Int}(hn:1<=n/\n<=32)(h1: -n+1<=h)(h2:h+1<=n)(ph:h%2=((n:Int)+1)%2):
  1<=gp n (n,(n:Int) - 1,h) ((n:Int) - 1,n,h)/\gp n (n,(n:Int) - 1,h) ((n:Int) - 1,n,h)<=4611686018427387904:=by
 by_cases g:0<=h
 ·obtain⟨m,rfl⟩:=Int.eq_ofNat_of_zero_le g
  exact Dh hn (by omega) (by omega)
 ·obtain⟨m,hm⟩:=Int.eq_ofNat_of_zero_le (show 0<= -h by omega)
  have q:=Dh (h:=m) hn (by omega) (by omega)
  rw[<- hm,gp_s3 hn.1 hn.2]at q
  exact q
theorem Di: ∀f<6,∀s<4,∃t,t<24/\tf t f=0/\(s+tq t f)%4=0:=by decide+kernel
theorem LnC_le{n c s:Nat}(hn:1<=n/\n<=32)(hc:c<6*n*n)(hs:s<4):1<=LnC n c s/\LnC n c s<=4611686018427387904:=by
 have hf:=(eK hn.1 hc).1
 obtain⟨t,ht,t1,t2⟩:=Di _ hf s hs
 obtain⟨h1,-⟩:=jE (k:=c) hn.1 rfl hc hs ht hc
 rw[<- len_turn hn.1 hn.2 hc hs ht h1.1]
 have e:(s+tnS n t c)%4=0:=t2
 have ef:cf n (tnC n t c)=0:=by rw[(rG hn.1 hc ht).1];exact t1
 obtain⟨-,d2,d3,-⟩:=eK hn.1 h1.1
 rw[e]
 generalize tnC n t c=c' at*
 have k1:C1 n c' 0=((n:Int),2*((ci n c':Nat):Int)+2 - n,2*((cj n c':Nat):Int) - n):=by
  unfold C1 e1;rw[ef];simp[cr,pl,sc,cC,cR,cU];omega
 have k2:C2 n c' 0=((n:Int),2*((ci n c':Nat):Int)+2 - n,2*((cj n c':Nat):Int) - n+2):=by
  unfold C2 e2;rw[ef];simp[cr,pl,sc,cC,cR,cU];omega
 unfold LnC
 rw[k1,k2]
 exact len_any hn (by omega) (by omega) (by omega) (by omega) (by omega) (by omega)
theorem GpC_le{n c s:Nat}(hn:1<=n/\n<=32)(hc:c<6*n*n)(hs:s<4):1<=GpC n c s/\GpC n c s<=4611686018427387904:=by
 have hf:=(eK hn.1 hc).1
 obtain⟨t,ht,t1,t2⟩:=Di _ hf s hs
 obtain⟨h1,-⟩:=jE (k:=c) hn.1 rfl hc hs ht hc
 rw[<- gap_turn hn.1 hn.2 hc hs ht]
 have e:(s+tnS n t c)%4=0:=t2
 have ef:cf n (tnC n t c)=0:=by rw[(rG hn.1 hc ht).1];exact t1
 have h2:=h1.1
 obtain⟨-,d2,d3,-⟩:=eK hn.1 h2
 rw[e]
 clear h1 hc hf t1 t2 e
 generalize tnC n t c=c' at*
 have k1:MD n c'=((n:Int),2*((ci n c':Nat):Int)+1 - n,2*((cj n c':Nat):Int)+1 - n):=by
  unfold MD;rw[ef];simp[md,pl,sc,cC,cR,cU]
 unfold GpC
 obtain⟨f,a,b,hf,ha,hb,rfl⟩:=tG hn.1 h2 (show 0<4 by omega)
 obtain⟨m1,m2⟩:=rF hf (show 0<4 by omega) ha hb
 rw[m2]at ef
 subst ef
 have b1:=(lX (n:=n) (f:=0) (show 0<4 by omega) ha hb).1
 rw[b1,m1]
 by_cases g:a+1<n
 ·rw[if_pos g,(rF hf (show 0<4 by omega) g hb).1]
  have q1:ms n 0 0 a b=((n:Int),2*(a:Int)+1 - n,2*(b:Int)+1 - n):=by simp[ms,pl,sc,cC,cR,cU,wy]
  have q2:ms n 0 0 (a+1) b=((n:Int),2*(a:Int)+1 - n+2,2*(b:Int)+1 - n):=by simp[ms,pl,sc,cC,cR,cU,wy];omega
  rw[q1,q2]
  exact gap_any hn (by omega) (by omega) (by omega) (by omega) (by omega) (by omega)
 ·obtain⟨f1,f2⟩:=qI 0 (by omega) 0 (by omega)
  rw[if_neg g,(rF f1 f2 (show 0<n by omega) hb).1]
  have q1:ms n 0 0 a b=((n:Int),(n:Int) - 1,2*(b:Int)+1 - n):=by simp[ms,pl,sc,cC,cR,cU,wy];omega
  have q2:ms n (nf 0 0) (ns 0 0) 0 b=((n:Int) - 1,(n:Int),2*(b:Int)+1 - n):=by simp[ms,pl,sc,cC,cR,cU,wy,nf,ns];omega
  rw[q1,q2]
  exact over_any hn (by omega) (by omega) (by omega)
def nl(n:Nat)(v:P3):Nat:=lnB (px n v) (py n v) (pz n v)
def a0(n:Nat)(k h:Int):Nat:=ar n (n,k,h) (n,k+2,h) (n,k+2,h+2) (n,k,h+2)
end
namespace Sh
def part(x y z:Int):Int:=if x<0\/y<0\/z<=0 then 0 else if 9223372036854775807<x*y/z then 9223372036854775807 else x*y/z
theorem gK(x y z:Int):0<=part x y z/\part x y z<=9223372036854775807:=by
 unfold part
 split
 ·omega
 ·rename_i h
  have q:0<=x*y/z:=Int.ediv_nonneg (Int.mul_nonneg (by omega) (by omega)) (by omega)
  split<;>omega
theorem vR{x y z:Int}(hx:0<=x)(hz:0<z)(h:y<=z):x*y/z<=x:=by
 have h1:x*y<=x*z:=Int.mul_le_mul_of_nonneg_left h hx
 exact Int.ediv_le_of_le_mul hz h1
theorem jG{x y z:Int}(hx:0<=x)(hx2:x<=9223372036854775807)(hy:0<=y)(hz:0<z)(h:y<=z):part x y z=x*y/z/\0<=part x y z/\part x y z<=x:=by
 have l:=vR hx hz h
 have n: ¬(x<0\/y<0\/z<=0):=by omega
 have n2: ¬9223372036854775807<x*y/z:=by omega
 have e:part x y z=x*y/z:=by unfold part;rw[if_neg n,if_neg n2]
 exact⟨e,by rw[e];exact Int.ediv_nonneg (Int.mul_nonneg hx hy) (by omega),by rw[e];exact l⟩
theorem mQ{a z:Int}(hz:0<z):z*(a/z)<=a/\a<z*(a/z)+z:=by
 have h1:=Int.mul_ediv_add_emod a z
 have h2:=Int.emod_nonneg a (show z≠0 by omega)
 have h3:=Int.emod_lt_of_pos a hz
 constructor<;>omega
def sumN(f:Nat->Int):Nat->Int
 | 0=>0
 | n+1=>sumN f n+f n
theorem cG{f g:Nat->Int}: ∀{n:Nat},(∀i,i<n->f i=g i)->sumN f n=sumN g n
 | 0,_=>rfl
 | n+1,h=>by
  show sumN f n+f n=sumN g n+g n
  rw[cG (n:=n) (fun i hi=>h i (by omega)),h n (by omega)]
theorem fO{f:Nat->Int}: ∀{n:Nat},(∀i,i<n->0<=f i)->0<=sumN f n
 | 0,_=>by show(0:Int)<=0;omega
 | n+1,h=>by
  show 0<=sumN f n+f n
  have a:=fO (n:=n) (fun i hi=>h i (by omega))
  have b:=h n (by omega)
  omega
theorem fI{f:Nat->Int}{n:Nat}(h: ∀i,i<n->0<=f i): ∀{m:Nat},m<=n->sumN f m<=sumN f n:=by
 intro m hm
 induction n with
 | zero=>
    obtain rfl:m=0:=by omega
    omega
 | succ n ih=>
  by_cases e:m=n+1
  ·subst e;omega
  ·have a:=ih (fun i hi=>h i (by omega)) (by omega)
   have b:=h n (by omega)
   show sumN f m<=sumN f n+f n
   omega
theorem tX{f:Nat->Int}{W S:Int}(hS:0<S): ∀n:Nat,S*sumN (fun i=>f i*W/S) n<=sumN f n*W/\sumN f n*W<=S*sumN (fun i=>f i*W/S) n+n*(S - 1)
 | 0=>by
  show S*0<=0*W/\0*W<=S*0+((0:Nat):Int)*(S - 1)
  simp
 | n+1=>by
  obtain⟨h1,h2⟩:=tX (f:=f) (W:=W) hS n
  obtain⟨q1,q2⟩:=mQ (a:=f n*W) hS
  show S*(sumN (fun i=>f i*W/S) n+f n*W/S)<=(sumN f n+f n)*W/\(sumN f n+f n)*W<=S*(sumN (fun i=>f i*W/S) n+f n*W/S)+((n+1:Nat):Int)*(S - 1)
  rw[Int.mul_add,Int.add_mul]
  have e:((n+1:Nat):Int)*(S - 1)=n*(S - 1)+(S - 1):=by
   rw[Int.natCast_add,Int.add_mul]
   omega
  rw[e]
  constructor<;>omega
def lR(W S x:Int):Int:=if W<S then part x W S else x
theorem Dk{W S x:Int}(hW:0<=W)(hx:0<=x)(hx2:x<=9223372036854775807):0<=lR W S x/\lR W S x<=x:=by
 unfold lR
 split
 ·rename_i h
  exact(jG hx hx2 hW (by omega) (by omega)).2
 ·omega
theorem Ey{W S:Int}(hW:0<=W):lR W S 0=0:=by
 have:=Dk (S:=S) hW (Int.le_refl 0) (by omega)
 omega
theorem cut_sum{f:Nat->Int}{W:Int}{n:Nat}(hW:0<=W)(hf: ∀i,i<n->0<=f i)(hS:sumN f n<=9223372036854775807):
  (sumN f n<=W->sumN (fun i=>lR W (sumN f n) (f i)) n=sumN f n)/\(W<sumN f n->sumN (fun i=>lR W (sumN f n) (f i)) n<=W/\W - n<sumN (fun i=>lR W (sumN f n) (f i)) n):=by
 constructor
 ·intro h
  refine cG (fun i _=> ?_)
  unfold lR
  rw[if_neg (by omega)]
 ·intro h
  have e:sumN (fun i=>lR W (sumN f n) (f i)) n=sumN (fun i=>f i*W/sumN f n) n:=by
   refine cG (fun i hi=> ?_)
   have m:=fI hf (m:=i+1) (by omega)
   have m0:=fO (f:=f) (n:=i) (fun j hj=>hf j (by omega))
   have m1:sumN f (i+1)=sumN f i+f i:=rfl
   have hi0:=hf i hi
   unfold lR
   rw[if_pos h]
   exact(jG hi0 (by omega) hW (by omega) (by omega)).1
  rw[e]
  have hn:0<n:=by
   rcases Nat.eq_zero_or_pos n with h0 | h0
   ·subst h0
    have z:sumN f 0=0:=rfl
    omega
   ·exact h0
  obtain⟨h1,h2⟩:=tX (f:=f) (W:=W) (S:=sumN f n) (by omega) n
  generalize sumN (fun i=>f i*W/sumN f n) n=T at*
  generalize sumN f n=S at*
  constructor
  ·exact Int.le_of_mul_le_mul_left h1 (by omega)
  ·have h3:(n:Int)*(S - 1)<n*S:=Int.mul_lt_mul_of_pos_left (by omega) (by omega)
   have h4:S*(W - n)<S*T:=by
    rw[Int.mul_sub,Int.mul_comm S n]
    omega
   exact Int.lt_of_mul_lt_mul_left h4 (by omega)
end Sh
section
namespace Rv
open Sh
def lt2(K:Nat->Nat)(a b:Nat):Bool:=decide (K a<K b)||(decide (K a=K b)&&decide (a<b))
theorem Dl{K:Nat->Nat}{a b:Nat}:lt2 K a b=true ↔ K a<K b\/(K a=K b/\a<b):=by
 unfold lt2
 simp
def bst(K:Nat->Nat)(nb:Nat->Nat):Nat->Nat
 | 0=>nb 0
 | k+1=>if lt2 K (nb (k+1)) (bst K nb k)=true then nb (k+1)else bst K nb k
theorem bst_in(K nb:Nat->Nat): ∀k,∃s,s<=k/\bst K nb k=nb s
 | 0=>⟨0,Nat.le_refl _,rfl⟩
 | k+1=>by
  obtain⟨s,h1,h2⟩:=bst_in K nb k
  by_cases c:lt2 K (nb (k+1)) (bst K nb k)=true
  ·exact⟨k+1,Nat.le_refl _,by unfold bst;rw[if_pos c]⟩
  ·exact⟨s,by omega,by unfold bst;rw[if_neg c];exact h2⟩
theorem tY(K nb:Nat->Nat): ∀k s,s<=k-> ¬(K (nb s)<K (bst K nb k)\/(K (nb s)=K (bst K nb k)/\nb s<bst K nb k))
 | 0,s,h=>by
  obtain rfl:s=0:=by omega
  show¬(K (nb 0)<K (nb 0)\/(K (nb 0)=K (nb 0)/\nb 0<nb 0))
  omega
 | k+1,s,h=>by
  have ih:=tY K nb k
  by_cases c:lt2 K (nb (k+1)) (bst K nb k)=true
  ·have e:bst K nb (k+1)=nb (k+1):=by show(if _ then _ else _)=_;rw[if_pos c]
   rw[e]
   have c':=Dl.1 c
   by_cases q:s=k+1
   ·subst q;omega
   ·have:=ih s (by omega)
    omega
  ·have e:bst K nb (k+1)=bst K nb k:=by show(if _ then _ else _)=_;rw[if_neg c]
   rw[e]
   by_cases q:s=k+1
   ·subst q
    exact fun h=>c (Dl.2 h)
   ·exact ih s (by omega)
def dnI(K:Nat->Nat)(nb:Nat->Nat)(c:Nat):Int:=if K (bst K nb 3)<K c then((bst K nb 3:Nat):Int)else -1
theorem dnI_yes{K nb:Nat->Nat}{c:Nat}(h: ¬dnI K nb c<0): ∃d:Nat,dnI K nb c=(d:Nat)/\K d<K c/\(∃s,s<4/\nb s=d)/\ ∀s,s<4-> ¬(K (nb s)<K d\/(K (nb s)=K d/\nb s<d)):=by
 unfold dnI at h ⊢
 by_cases q:K (bst K nb 3)<K c
 ·rw[if_pos q]
  obtain⟨s,h1,h2⟩:=bst_in K nb 3
  exact⟨_,rfl,q,⟨s,by omega,h2.symm⟩,fun s hs=>tY K nb 3 s (by omega)⟩
 ·rw[if_neg q]at h;omega
/-! ### the order -/
def bf(K:Nat->Nat)(a b:Nat):Prop:=K b<K a\/(K a=K b/\a<b)
def IsOrd(K:Nat->Nat)(n:Nat)(l:List Nat):Prop:=l.Pairwise (bf K)/\l.Perm (List.range n)
def leB(K:Nat->Nat)(a b:Nat):Bool:=decide (K b<K a)||(decide (K a=K b)&&decide (a<=b))
def ordL(K:Nat->Nat)(n:Nat):List Nat:=(List.range n).mergeSort (leB K)
theorem pY{K:Nat->Nat}{a b:Nat}:leB K a b=true ↔ K b<K a\/(K a=K b/\a<=b):=by
 unfold leB
 simp
theorem ordL_ord(K:Nat->Nat)(n:Nat):IsOrd K n (ordL K n):=by
 have p:(ordL K n).Perm (List.range n):=List.mergeSort_perm _ _
 refine⟨?_,p⟩
 have s:(ordL K n).Pairwise (fun a b=>leB K a b=true):=List.pairwise_mergeSort (fun a b c h1 h2=>by
  rw[pY]at*
  omega) (fun a b=>by
  rw[Bool.or_eq_true,pY,pY]
  omega) _
 have nd:(ordL K n).Nodup:=p.nodup_iff.2 List.nodup_range
 have nd2:(ordL K n).Pairwise (fun a b=>a≠b):=nd
 refine(s.and nd2).imp ?_
 rintro a b ⟨h1,h2⟩
 rw[pY]at h1
 unfold bf
 omega
theorem ordL_mem{K:Nat->Nat}{n c:Nat}:c ∈ ordL K n ↔ c<n:=by rw[(ordL_ord K n).2.mem_iff,List.mem_range]
/-! ### a step of rivers -/
def gvW(x:Int):Int:=x/4
def rv1(dn:Nat->Int)(sh:Int->Nat->Bool)(X:(Nat->Int) × (Nat->Int))(c:Nat):(Nat->Int) × (Nat->Int):=
 if dn c<0\/X.1 c<=0\/sh (X.1 c) c=false then X else
  (fun i=>if i=(dn c).toNat then X.1 i+gvW (X.1 c)else if i=c then X.1 c - gvW (X.1 c)else X.1 i,
   fun i=>if i=(dn c).toNat then X.2 i+Sh.part (X.2 c) (gvW (X.1 c)) (X.1 c)else if i=c then X.2 c - Sh.part (X.2 c) (gvW (X.1 c)) (X.1 c)else X.2 i)
def rvL(dn:Nat->Int)(sh:Int->Nat->Bool)(X:(Nat->Int) × (Nat->Int))(l:List Nat):(Nat->Int) × (Nat->Int):=l.foldl (rv1 dn sh) X
def okD(n:Nat)(dn:Nat->Int):Prop:= ∀c,c<n-> ¬dn c<0->(dn c).toNat<n/\(dn c).toNat≠c
def okV(n:Nat)(f:Nat->Int):Prop:=(∀c,c<n->0<=f c)/\sumN f n<=4503599627370496
theorem rN(f:Nat->Int)(c:Nat)(d:Int): ∀n,sumN (fun i=>if i=c then f i+d else f i) n=sumN f n+if c<n then d else 0
 | 0=>by
  show(0:Int)=0+if c<0 then d else 0
  rw[if_neg (by omega)]
  rfl
 | n+1=>by
  show sumN (fun i=>if i=c then f i+d else f i) n+(if n=c then f n+d else f n)=sumN f n+f n+if c<n+1 then d else 0
  rw[rN f c d n]
  by_cases e:n=c
  ·subst e
   rw[if_pos rfl,if_neg (by omega),if_pos (by omega)]
   omega
  ·rw[if_neg e]
   by_cases l:c<n
   ·rw[if_pos l,if_pos (by omega)]
    omega
   ·rw[if_neg l,if_neg (by omega)]
    omega
theorem lA{f:Nat->Int}{n c d:Nat}{m:Int}(hc:c<n)(hd:d<n)(h:d≠c):sumN (fun i=>if i=d then f i+m else if i=c then f c - m else f i) n=sumN f n:=by
 have e:sumN (fun i=>if i=d then f i+m else if i=c then f c - m else f i) n=sumN (fun i=>if i=d then(fun j=>if j=c then f j+ -m else f j) i+m else(fun j=>if j=c then f j+ -m else f j) i) n:=by
  refine cG (fun i _=> ?_)
  dsimp only
  by_cases e1:i=d
  ·subst e1
   rw[if_pos rfl,if_pos rfl,if_neg h]
  ·rw[if_neg e1,if_neg e1]
   by_cases e2:i=c
   ·subst e2
    rw[if_pos rfl,if_pos rfl]
    omega
   ·rw[if_neg e2,if_neg e2]
 rw[e,rN,rN,if_pos hc,if_pos hd]
 omega
theorem elem_le{f:Nat->Int}{n c:Nat}(h: ∀i,i<n->0<=f i)(hc:c<n):f c<=sumN f n:=by
 have a:=fI h (m:=c+1) (by omega)
 have b:=fO (f:=f) (n:=c) (fun i hi=>h i (by omega))
 have e:sumN f (c+1)=sumN f c+f c:=rfl
 omega
theorem okV.b{n:Nat}{f:Nat->Int}(h:okV n f){c:Nat}(hc:c<n):0<=f c/\f c<=4503599627370496:=⟨h.1 c hc,by have:=elem_le h.1 hc;have:=h.2;omega⟩
section
variable {n:Nat} {dn:Nat->Int} {sh:Int->Nat->Bool} {X:(Nat->Int) × (Nat->Int)}
theorem gv_in{x t:Int}(hx:0<x)(ht:0<=t/\t<=4503599627370496):(0<=gvW x/\gvW x<=x)/\0<=Sh.part t (gvW x) x/\Sh.part t (gvW x) x<=t:=by
 have g:0<=gvW x/\gvW x<=x:=by unfold gvW;omega
 exact⟨g,(jG ht.1 (by omega) g.1 hx g.2).2⟩
theorem rv1_ok(hd:okD n dn)(hX:okV n X.1/\okV n X.2){c:Nat}(hc:c<n):okV n (rv1 dn sh X c).1/\okV n (rv1 dn sh X c).2:=by
 unfold rv1
 by_cases q:dn c<0\/X.1 c<=0\/sh (X.1 c) c=false
 ·rw[if_pos q];exact hX
 ·rw[if_neg q]
  obtain⟨d1,d2⟩:=hd c hc (by omega)
  have g:=gv_in (x:=X.1 c) (t:=X.2 c) (by omega) (hX.2.b hc)
  have w0:=hX.1.b hc
  refine⟨⟨fun i hi=> ?_,?_⟩,⟨fun i hi=> ?_,?_⟩⟩
  ·dsimp only
   have:=hX.1.1 i hi
   split
   ·omega
   ·split<;>omega
  ·dsimp only
   rw[lA hc d1 d2]
   exact hX.1.2
  ·dsimp only
   have:=hX.2.1 i hi
   split
   ·omega
   ·split<;>omega
  ·dsimp only
   rw[lA hc d1 d2]
   exact hX.2.2
theorem rv1_sum(hd:okD n dn){c:Nat}(hc:c<n):sumN (rv1 dn sh X c).1 n=sumN X.1 n/\sumN (rv1 dn sh X c).2 n=sumN X.2 n:=by
 unfold rv1
 by_cases q:dn c<0\/X.1 c<=0\/sh (X.1 c) c=false
 ·rw[if_pos q];exact⟨rfl,rfl⟩
 ·rw[if_neg q]
  obtain⟨d1,d2⟩:=hd c hc (by omega)
  exact⟨lA hc d1 d2,lA hc d1 d2⟩
theorem rvL_ok(hd:okD n dn): ∀{l:List Nat} {X:(Nat->Int) × (Nat->Int)},(∀c,c ∈ l->c<n)->(okV n X.1/\okV n X.2)->(okV n (rvL dn sh X l).1/\okV n (rvL dn sh X l).2)/\sumN (rvL dn sh X l).1 n=sumN X.1 n/\sumN (rvL dn sh X l).2 n=sumN X.2 n
 | [],X,_,hX=>⟨hX,rfl,rfl⟩
 | c :: l,X,hl,hX=>by
  have hc:=hl c (List.mem_cons_self ..)
  have a:=rvL_ok hd (l:=l) (X:=rv1 dn sh X c) (fun c h=>hl c (List.mem_cons_of_mem _ h)) (rv1_ok hd hX hc)
  have b:=rv1_sum (sh:=sh) (X:=X) hd hc
  exact⟨a.1,a.2.1.trans b.1,a.2.2.trans b.2⟩
end
end Rv
end
section
namespace Rn
open Sh
def dn(a s x:Int):Int:=if a<0 then -(if x< -a then x else -a)else(if s<a then s else a)
def fallB(st:Int)(r:Int × Int × Int × Int):Bool:=decide (r.2.2.1<=st)&&decide (st<r.2.2.2)
def rn1(st:Int)(r:Int × Int × Int × Int)(X:(Nat->Int) × Int):(Nat->Int) × Int:=
 if fallB st r=true then(fun i=>if i=r.1.toNat then X.1 i+dn r.2.1 X.2 (X.1 r.1.toNat)else X.1 i,X.2 - dn r.2.1 X.2 (X.1 r.1.toNat))else X
def rnN(st:Int)(R:Nat->Int × Int × Int × Int)(X:(Nat->Int) × Int):Nat->(Nat->Int) × Int
 | 0=>X
 | k+1=>rn1 st (R k) (rnN st R X k)
def okR(n:Nat)(r:Int × Int × Int × Int):Prop:=0<=r.1/\r.1<n/\ -4503599627370496<=r.2.1/\r.2.1<=4503599627370496/\0<=r.2.2.1/\r.2.2.1<=r.2.2.2
def rO(lw:Nat)(W:Nat->Int)(s:Int)(lr:Nat)(R:Nat->Int × Int × Int × Int)(st:Int):Prop:=
 0<=st/\(0<=s/\s<=4503599627370496)/\lr<=1024/\(∀i,i<lw->0<=W i/\W i<=4503599627370496)/\ ∀k,k<lr->okR lw (R k)
theorem dn_in{a s x:Int}(hs:0<=s)(hx:0<=x): -x<=dn a s x/\dn a s x<=s:=by
 unfold dn
 split<;>split<;>omega
theorem dn_bd{a s x m:Int}(hs:0<=s)(hx:0<=x)(h: -m<=a/\a<=m): -m<=dn a s x/\dn a s x<=m:=by
 unfold dn
 split<;>split<;>omega
section
variable {st:Int} {R:Nat->Int × Int × Int × Int} {X:(Nat->Int) × Int} {n:Nat} {r:Int × Int × Int × Int}
theorem rn1_no(h:fallB st r=false):rn1 st r X=X:=by unfold rn1;rw[if_neg (by rw[h];decide)]
theorem rn1_nn(ho:okR n r)(hX:(∀i,i<n->0<=X.1 i)/\0<=X.2):(∀i,i<n->0<=(rn1 st r X).1 i)/\0<=(rn1 st r X).2:=by
 unfold rn1
 split
 ·have hc:r.1.toNat<n:=by have:=ho.1;have:=ho.2.1;omega
  have d:=dn_in (a:=r.2.1) hX.2 (hX.1 _ hc)
  refine⟨fun i hi=> ?_,?_⟩
  ·dsimp only
   split
   ·rename_i e;subst e;omega
   ·exact hX.1 i hi
  ·dsimp only
   omega
 ·exact hX
theorem vS(hX:(∀i,i<n->0<=X.1 i)/\0<=X.2): ∀{k:Nat},(∀j,j<k->okR n (R j))->(∀i,i<n->0<=(rnN st R X k).1 i)/\0<=(rnN st R X k).2
 | 0,_=>hX
 | k+1,ho=>rn1_nn (ho k (by omega)) (vS hX (fun j hj=>ho j (by omega)))
theorem rnN_le{B:Int}(hX:(∀i,i<n->0<=X.1 i)/\0<=X.2)(hB:(∀i,i<n->X.1 i<=B)/\X.2<=B): ∀{k:Nat},(∀j,j<k->okR n (R j))->(∀i,i<n->(rnN st R X k).1 i<=B+4503599627370496*k)/\(rnN st R X k).2<=B+4503599627370496*k
 | 0,_=>⟨fun i hi=>by show X.1 i<=_;have:=hB.1 i hi;omega,by show X.2<=_;have:=hB.2;omega⟩
 | k+1,ho=>by
  obtain⟨h1,h2⟩:=rnN_le hX hB (k:=k) (fun j hj=>ho j (by omega))
  obtain⟨p1,p2⟩:=vS (st:=st) hX (k:=k) (fun j hj=>ho j (by omega))
  have o:=ho k (by omega)
  show(∀i,i<n->(rn1 st (R k) (rnN st R X k)).1 i<=_)/\(rn1 st (R k) (rnN st R X k)).2<=_
  have e:(4503599627370496:Int)*((k+1:Nat):Int)=4503599627370496*k+4503599627370496:=by omega
  rw[e]
  generalize rnN st R X k=Y at*
  unfold rn1
  split
  ·have hc:(R k).1.toNat<n:=by have:=o.1;have:=o.2.1;omega
   have d:=dn_bd (a:=(R k).2.1) (m:=4503599627370496) p2 (p1 _ hc) ⟨o.2.2.1,o.2.2.2.1⟩
   refine⟨fun i hi=> ?_,?_⟩
   ·dsimp only
    have:=h1 i hi
    split
    ·rename_i q;subst q;omega
    ·omega
   ·dsimp only
    omega
  ·exact⟨fun i hi=>by have:=h1 i hi;omega,by omega⟩
theorem yE(f:Nat->Int)(c:Nat)(d:Int): ∀n,sumN (fun i=>if i=c then f i+d else f i) n=sumN f n+if c<n then d else 0
 | 0=>by
  show(0:Int)=0+if c<0 then d else 0
  rw[if_neg (by omega)]
  rfl
 | n+1=>by
  show sumN (fun i=>if i=c then f i+d else f i) n+(if n=c then f n+d else f n)=sumN f n+f n+if c<n+1 then d else 0
  rw[yE f c d n]
  by_cases e:n=c
  ·subst e
   rw[if_pos rfl,if_neg (by omega),if_pos (by omega)]
   omega
  ·rw[if_neg e]
   by_cases l:c<n
   ·rw[if_pos l,if_pos (by omega)]
    omega
   ·rw[if_neg l,if_neg (by omega)]
    omega
theorem rn1_kept(ho:okR n r):sumN (rn1 st r X).1 n+(rn1 st r X).2=sumN X.1 n+X.2:=by
 unfold rn1
 split
 ·have hc:r.1.toNat<n:=by have:=ho.1;have:=ho.2.1;omega
  dsimp only
  rw[yE,if_pos hc]
  omega
 ·rfl
theorem yF: ∀{k:Nat},(∀j,j<k->okR n (R j))->sumN (rnN st R X k).1 n+(rnN st R X k).2=sumN X.1 n+X.2
 | 0,_=>rfl
 | k+1,ho=>(rn1_kept (ho k (by omega))).trans (yF (fun j hj=>ho j (by omega)))
theorem Ez{lw lr:Nat}{W:Nat->Int}{s:Int}(g:rO lw W s lr R st):(∀i,i<lw->0<=(rnN st R (W,s) lr).1 i/\(rnN st R (W,s) lr).1 i<=4616189618054758400)/\0<=(rnN st R (W,s) lr).2/\(rnN st R (W,s) lr).2<=4616189618054758400:=by
 obtain⟨_,gs,gl,gw,gr⟩:=g
 have a:=vS (st:=st) (R:=R) (X:=(W,s)) (n:=lw) (k:=lr) ⟨fun i hi=>(gw i hi).1,gs.1⟩ gr
 have b:=rnN_le (st:=st) (R:=R) (X:=(W,s)) (n:=lw) (k:=lr) (B:=4503599627370496) ⟨fun i hi=>(gw i hi).1,gs.1⟩ ⟨fun i hi=>(gw i hi).2,gs.2⟩ gr
 exact⟨fun i hi=>⟨a.1 i hi,by have:=b.1 i hi;omega⟩,a.2,by have:=b.2;omega⟩
end
end Rn
end
section
open Tf Ieee
theorem mv_2:mv 4611686018427387904=2*2 ^ K:=by rw[<- mv_ONE];exact mv_dbl (r:=4607182418800017408) (by omega)
theorem Dm{a b:Nat}(ha:a<9218868437227405312)(hb:b<9218868437227405312):mlB a b=min (rung 52 1074 (mv a*mv b)) 9218868437227405312:=by
 have ma:mg a=a:=aZ (by omega)
 have mb:mg b=b:=aZ (by omega)
 rw[mul_w (by omega) (by omega) (by omega) (by omega),bK (by omega),bK (by omega),ma,mb]
 simp only[Bool.xor_self,Bool.false_eq_true,if_false]
theorem mv_sm{r:Nat}(h:r<9007199254740992):mv r=r:=by
 by_cases c:r<4503599627370496
 ·have:=pP
  unfold mv mag
  rw[if_pos c]
 ·rw[mL (by omega),show r%4503599627370496=r - 4503599627370496 by omega,show r/4503599627370496 - 1=0 by omega,Nat.pow_zero,Nat.mul_one]
  omega
theorem dbl_ex(a:Nat): ∃r,mv r=2*mv a/\a<=r/\(a≠0->a<r):=by
 by_cases h:4503599627370496<=a
 ·exact⟨a+4503599627370496,mv_dbl h,by omega,fun _=>by omega⟩
 ·refine⟨2*a,?_,by omega,fun _=>by omega⟩
  rw[mv_sm (r:=2*a) (by omega),mv_sm (r:=a) (by omega)]
theorem vT{a:Nat}(ha:a<9218868437227405312):mlB 4611686018427387904 a=min (rung 52 0 (2*mv a)) 9218868437227405312:=by
 rw[Dm (by omega) ha,mv_2,show 2*2 ^ K*mv a=(2*mv a)*2 ^ K by rw[Nat.mul_right_comm]]
 have h:=qV 52 0 K (2*mv a)
 rw[Nat.zero_add]at h
 exact congrArg (min · 9218868437227405312) h
theorem gV{a:Nat}(ha:a<=9218868437227405312):mlB 4611686018427387904 a<=9218868437227405312/\a<=mlB 4611686018427387904 a/\(mlB 4611686018427387904 a<9218868437227405312->mv (mlB 4611686018427387904 a)=2*mv a):=by
 by_cases h:a<9218868437227405312
 ·obtain⟨r,h1,h2,-⟩:=dbl_ex a
  rw[vT h,<- h1,pQ]
  refine⟨Nat.min_le_right _ _,by omega,fun k=> ?_⟩
  rw[Nat.min_eq_left (by omega),h1]
 ·obtain rfl:a=9218868437227405312:=by omega
  have e:mlB 4611686018427387904 9218868437227405312=9218868437227405312:=by decide+kernel
  rw[e]
  exact⟨Nat.le_refl _,Nat.le_refl _,fun k=>by omega⟩
theorem d2_mono{a b:Nat}(h:a<=b)(hb:b<=9218868437227405312):mlB 4611686018427387904 a<=mlB 4611686018427387904 b:=by
 by_cases k:b<9218868437227405312
 ·rw[vT (by omega),vT k]
  have:=iL (p:=52) (d:=0) (V:=2*mv a) (V':=2*mv b) (by omega) (Nat.mul_le_mul_left 2 (mv_le.2 h))
  omega
 ·obtain rfl:b=9218868437227405312:=by omega
  have e:mlB 4611686018427387904 9218868437227405312=9218868437227405312:=by decide+kernel
  rw[e]
  exact(gV (by omega)).1
def sbee(a b:Nat):Nat:=max (min (mlB 4611686018427387904 a) b) (min a (mlB 4611686018427387904 b))
theorem AK{a b:Nat}(ha:a<=9218868437227405312)(hb:b<=9218868437227405312):min a b<=sbee a b/\sbee a b<=max a b/\sbee a b<=mlB 4611686018427387904 (min a b):=by
 have fa:=gV ha
 have fb:=gV hb
 have mono: ∀x y,x<=y->y<=9218868437227405312->mlB 4611686018427387904 x<=mlB 4611686018427387904 y:=fun x y h k=>d2_mono h k
 unfold sbee
 rcases Nat.le_total a b with h | h
 ·rw[Nat.min_eq_left h]
  omega
 ·rw[Nat.min_eq_right h]
  omega
end
section
open Tf Ieee
def Er17:Nat:=2030
theorem mv_E17:mv 9146810843189477376=2 ^ (52+Er17):=jD Er17 _ (by decide)
theorem le_E17{W d:Nat}(hW:W<=2 ^ 57)(hd:d<=2025):W*2 ^ d<=mv 9146810843189477376:=by
 rw[mv_E17]
 have h1:2 ^ d<=2 ^ (Er17 - 5):=Nat.pow_le_pow_right (by omega) (by unfold Er17;omega)
 have h2:=Nat.mul_le_mul hW h1
 have e:2 ^ 57*2 ^ (Er17 - 5)=2 ^ (52+Er17):=by rw[<- Nat.pow_add];congr 1
 rw[e]at h2
 exact h2
theorem quo_lo{m n:Nat}(m1:4503599627370496<=m)(m2:m<9007199254740992)(n1:4503599627370496<=n)(n2:n<9007199254740992):9007199254740992<=m <<< 54/n/\m <<< 54/n<=36028797018963968:=by
 rw[Nat.shiftLeft_eq]
 constructor
 ·rw[Nat.le_div_iff_mul_le (by omega)]
  have:=Nat.mul_le_mul_right (2 ^ 54) m1
  omega
 ·refine Nat.div_le_of_le_mul ?_
  omega
theorem div_pos{x l:Nat}(x1:4503599627370496<=x)(x2:x<9218868437227405312)(l1:4503599627370496<=l)(l2:l<9218868437227405312):
  ∃W,18014398509481984<=W/\W<=2 ^ 57/\W=2*((4503599627370496+x%4503599627370496) <<< 54/(4503599627370496+l%4503599627370496))+((4503599627370496+x%4503599627370496) <<< 54%(4503599627370496+l%4503599627370496) != 0).toNat/\double.div x l=some (double.nearest false W (((x/4503599627370496 - 1:Nat):Int) - ((l/4503599627370496 - 1:Nat):Int) - 55)):=by
 have ml:mg l=l:=aZ (by omega)
 have mx:mg x=x:=aZ (by omega)
 have el:=iQ (x:=l) (by omega) (by omega)
 rw[ml,rA (by omega),bK (by omega)]at el
 have ex:=iQ (x:=x) (by omega) (by omega)
 rw[mx,rA (by omega),bK (by omega)]at ex
 have hn:4503599627370496+l%4503599627370496≠0:=by omega
 have lx:(4503599627370496+x%4503599627370496).log2=52:=xJ _ (Nat.mod_lt _ (by omega))
 have ll:(4503599627370496+l%4503599627370496).log2=52:=xJ _ (Nat.mod_lt _ (by omega))
 have hq:=quo_lo (m:=4503599627370496+x%4503599627370496) (n:=4503599627370496+l%4503599627370496) (by omega) (by omega) (by omega) (by omega)
 refine⟨_,?_,?_,rfl,?_⟩
 ·omega
 ·have:((4503599627370496+x%4503599627370496) <<< 54%(4503599627370496+l%4503599627370496) != 0).toNat<=1:=by cases((4503599627370496+x%4503599627370496) <<< 54%(4503599627370496+l%4503599627370496) != 0)<;>simp
  omega
 ·show((double.read x).quotient 54 (double.read l)).map double.write=_
  rw[ex,el]
  unfold Datum.quotient
  dsimp only
  rw[if_neg hn,lx,ll]
  simp only[Bool.xor_false]
  show some (double.nearest false _ _)=some (double.nearest false _ _)
  congr 2
  omega
theorem rung_E17{V:Nat}(h:V<=mv 9146810843189477376):rung 52 0 V<=9146810843189477376:=by
 refine Cr (by omega) ?_
 rw[Nat.pow_zero,Nat.mul_one]
 exact h
end
section
open Tf Ieee
def stQ(N n:Nat):Nat:=2*(N/n)+(N%n != 0).toNat
theorem tZ{q:Nat}(q1:4503599627370496<=q)(q2:q<9218868437227405312):canonB q=q:=by
 have mq:mg q=q:=aZ (by omega)
 unfold canonB
 rw[mq,if_neg (by unfold isN;rw[mq];simp;omega),if_neg (by omega)]
theorem dv_core{x l:Nat}(x1:4503599627370496<=x)(x2:x<9218868437227405312)(l1:4503599627370496<=l)(l2:l<9218868437227405312)
  (h1:l/4503599627370496<=x/4503599627370496+1010) (h2:x/4503599627370496<=l/4503599627370496+1006):
  ∃N n d g,0<g/\0<n/\18014398509481984<=stQ N n/\dvB x l=rung 52 0 (stQ N n*2 ^ d)/\n*g=mv l/\N*2 ^ (d+2)*g=2*(mv x*2 ^ K)/\4503599627370496<=dvB x l/\dvB x l<=9146810843189477376:=by
 obtain⟨W,w1,w2,w3,e1⟩:=div_pos x1 x2 l1 l2
 have hq:W=stQ ((4503599627370496+x%4503599627370496)*2 ^ 54) (4503599627370496+l%4503599627370496):=by rw[w3];unfold stQ;rw[Nat.shiftLeft_eq]
 have px:=mL x1
 have pl:=mL l1
 have hlp:=d_lp
 have ha:1<=x/4503599627370496/\1<=l/4503599627370496:=by omega
 clear w3
 generalize x/4503599627370496=a at*
 generalize l/4503599627370496=c at*
 obtain⟨d,hd⟩: ∃d:Nat,(((a - 1:Nat):Int) - ((c - 1:Nat):Int) - 55)=double.leastPlace+(d:Int):=⟨((((a - 1:Nat):Int) - ((c - 1:Nat):Int) - 55) - double.leastPlace).toNat,by omega⟩
 have hdle:d<=2025:=by omega
 have hdk:d+2+54+(c - 1)=(a - 1)+1+K:=by unfold K;omega
 rw[fF double false W d _ hd,dW,bW]at e1
 have h0:W*2 ^ d≠0:=Nat.mul_ne_zero (by omega) (by have:=Nat.two_pow_pos d;omega)
 have hlog:52+0<=(W*2 ^ d).log2:=by
  refine(Nat.le_log2 h0).2 ?_
  have e:(2:Nat) ^ (52+0)=4503599627370496:=by decide
  rw[e]
  have:=Nat.two_pow_pos d
  exact Nat.le_trans (by omega) (Nat.le_mul_of_pos_right W this)
 have hb:=xH hlog h0
 have hle:=rung_E17 (le_E17 w2 hdle)
 have hfb:double.fractionBits=52:=rfl
 rw[hfb]at e1
 refine⟨(4503599627370496+x%4503599627370496)*2 ^ 54,4503599627370496+l%4503599627370496,d,2 ^ (c - 1),Nat.two_pow_pos _,by omega,by omega,?_,pl.symm,?_,?_⟩
 ·rw[<- hq]
  generalize rung 52 0 (W*2 ^ d)=r at*
  simp only[Bool.false_eq_true,if_false]at e1
  rw[Nat.min_eq_left (by omega)]at e1
  rw[eV e1]
  exact tZ hb (by omega)
 ·rw[px]
  generalize 4503599627370496+x%4503599627370496=m
  rw[show m*2 ^ 54*2 ^ (d+2)*2 ^ (c - 1)=m*2 ^ (d+2+54+(c - 1))by rw[Nat.mul_assoc,Nat.mul_assoc,<- Nat.pow_add,<- Nat.pow_add];congr 2;omega,hdk,Nat.pow_add,Nat.pow_add,Nat.pow_one]
  generalize 2 ^ (a - 1)=u
  generalize 2 ^ K=v
  rw[show u*2*v=2*(u*v)by rw[Nat.mul_comm u 2,Nat.mul_assoc],<- Nat.mul_assoc m 2,Nat.mul_comm m 2,Nat.mul_assoc,Nat.mul_assoc]
 ·generalize rung 52 0 (W*2 ^ d)=r at*
  simp only[Bool.false_eq_true,if_false]at e1
  rw[Nat.min_eq_left (by omega)]at e1
  rw[eV e1,tZ hb (by omega)]
  exact⟨hb,hle⟩
end
section
open Tf Ieee
def Qn(x l:Nat):Prop:=(4503599627370496<=x/\x<9218868437227405312)/\(4503599627370496<=l/\l<9218868437227405312)/\l/4503599627370496<=x/4503599627370496+1010/\x/4503599627370496<=l/4503599627370496+1006
theorem dq_in{x l:Nat}(q:Qn x l):4503599627370496<=dvB x l/\dvB x l<=9146810843189477376:=by
 obtain⟨⟨x1,x2⟩,⟨l1,l2⟩,h1,h2⟩:=q
 obtain⟨N,n,d,g,hg,hn,hW,e,e1,e2,e3⟩:=dv_core x1 x2 l1 l2 h1 h2
 exact e3
end
section
open Tf
def K2:Nat:=925
def t32(x:Nat):Nat:=min (rung 23 K2 (mv (mg x))) 2139095040
end
section
open Tf
def H2:Nat:=1050
def t16(x:Nat):Nat:=min (rung 10 H2 (mv (mg x))) 31744
/-! how the code makes the bits of 16 -/
end
section
open Tf
theorem Dn(v:Int)(r:Nat)(h:mv r=v.natAbs)(hr:r<=9218868437227405312):R v=if v<0 then -(r:Int)else(r:Int):=by
 unfold R
 rw[<- h,pQ,Nat.min_eq_left hr]
theorem mv_one:mv 4607182418800017408=one:=rfl
theorem R_mv(r:Nat)(hr:r<=9218868437227405312):R (mv r:Int)=r/\R (-(mv r:Int))= -(r:Int):=by
 refine⟨?_,?_⟩
 ·rw[Dn _ r (by rw[Int.natAbs_natCast]) hr,if_neg (by omega)]
 ·rw[Dn _ r (by rw[Int.natAbs_neg,Int.natAbs_natCast]) hr]
  by_cases c:r=0
  ·subst c;rw[pP];simp
  ·have:=(@mv_lt 0 r).2 (by omega)
   rw[pP]at this
   rw[if_pos (by omega)]
theorem cOk_wOk(way:Ieee.Toward)(x:Nat)(hx:x<18446744073709551616):cOk way x=wOk x:=by
 cases n:isN x
 ·by_cases c:4841369599423283200<=mg x
  ·by_cases fx:mg x<9218868437227405312
   ·obtain⟨q,hq⟩:=oV (mg x) c
    rw[<- pW way x hx n]
    have h:=pV way x hx fx
    have e:itV way x=x:=by
     have h3:=h.2.2
     rw[hq,mG _ _ _ _ gI,<- hq]at h3
     have h4:=mv_inj.1 h3
     have w1:=jC x hx
     have w2:=jC (itV way x) (Ar way x)
     rw[h4,h.1]at w2
     rw[w2];exact w1.symm
    rw[e]
   ·rw[<- pW way x hx n,C6 way x hx (by have:=cF.1 n;omega)]
  ·have h1:wOk x=true:=by
    rw[nX x hx,n]
    have hr:rk x=mg x\/rk x= -(mg x:Int):=by unfold rk;split<;>simp
    rw[decide_eq_true (by omega),decide_eq_true (by omega)];rfl
   have e:mv 4841369599423283200=2 ^ 52*one:=fS 52 _ (by decide)
   have hl:mv (mg x)<2 ^ 52*one:=by rw[<- e];exact mv_lt.2 (by omega)
   have hq:mv (mg x)/one<2 ^ 52:=(Nat.div_lt_iff_lt_mul gI).2 hl
   have hc:=Cw way (ng x) (mv (mg x)) one
   have h2:cOk way x=true:=by
    unfold cOk fin
    have h3: -9223372036854775808<=cq way x/\cq way x<9223372036854775808:=by
     unfold cq
     generalize cutq way (ng x) (mv (mg x)) one=Q at*
     split<;>omega
    rw[decide_eq_true (by omega),decide_eq_true h3.1,decide_eq_true h3.2];rfl
   rw[h1,h2]
 ·rw[(C7 way n).1,(vN hx n).1]
end
section
open Go.RowKit Tf
attribute [local go_sem] aJ aK aN aO aP aQ aV
def clampM(most:Int):Int:=if most<0 then 0 else most
def clampB(x:Nat)(most:Int):Int:=
 if isN x then 0 else if cOk .even x then min (max (cI .even x) (-clampM most)) (clampM most)else if fgt x 0 then clampM most else -clampM most
theorem EA(x:Nat)(most:Int)(n:isN x=true)(w:World)(hx:x<18446744073709551616):
  Calls prog 154 #[.float .f64 x,.int .i64 most] w fun e w'=>e=.returned (.int .i64 (0))/\ ∃n,w'=w.drewN n:=by
 go_enter func154,ntmps154
 go_wp2_with fail
 refine(fG x _ hx).mono ?_
 rintro e w' ⟨rfl,rfl⟩
 go_wp2
 go_ret
 exact⟨rfl,0,rfl⟩
theorem EC(x:Nat)(most:Int)(m:Int)(n:isN x=false)(hm:(if most<0 then 0 else most)=m)(_m0:0<=m)(_m1:m<=9223372036854775807)(hi:cI .even x=0)(ho:cOk .even x=false)(g:fgt x 0=true)(w:World)(hx:x<18446744073709551616):
  Calls prog 154 #[.float .f64 x,.int .i64 most] w fun e w'=>e=.returned (.int .i64 (m))/\ ∃n,w'=w.drewN n:=by
 go_enter func154,ntmps154
 go_wp2_with fail
 refine(fG x _ hx).mono ?_
 rintro e w' ⟨rfl,rfl⟩
 go_wp2_with fail
 refine(iT x 0 false _ hx hi ho).mono ?_
 rintro e w' ⟨rfl,k,rfl⟩
 go_wp2
 go_ret
 exact⟨rfl,k,rfl⟩
theorem EF(x:Nat)(most:Int)(m:Int)(n:isN x=false)(hm:(if most<0 then 0 else most)=m)(m0:0<=m)(m1:m<=9223372036854775807)(hi:cI .even x=0)(ho:cOk .even x=false)(g:fgt x 0=false)(w:World)(hx:x<18446744073709551616):
  Calls prog 154 #[.float .f64 x,.int .i64 most] w fun e w'=>e=.returned (.int .i64 (-m))/\ ∃n,w'=w.drewN n:=by
 go_enter func154,ntmps154
 go_wp2_with fail
 refine(fG x _ hx).mono ?_
 rintro e w' ⟨rfl,rfl⟩
 go_wp2_with fail
 refine(iT x 0 false _ hx hi ho).mono ?_
 rintro e w' ⟨rfl,k,rfl⟩
 go_wp2
 go_ret
 exact⟨rfl,k,rfl⟩
theorem clamp_lo(x:Nat)(most:Int)(m:Int)(n:isN x=false)(hm:(if most<0 then 0 else most)=m)(m0:0<=m)(m1:m<=9223372036854775807)(i:Int)(hi:cI .even x=i)(ho:cOk .even x=true)(c:i< -m)(w:World)(hx:x<18446744073709551616):
  Calls prog 154 #[.float .f64 x,.int .i64 most] w fun e w'=>e=.returned (.int .i64 (-m))/\ ∃n,w'=w.drewN n:=by
 go_enter func154,ntmps154
 go_wp2_with fail
 refine(fG x _ hx).mono ?_
 rintro e w' ⟨rfl,rfl⟩
 go_wp2_with fail
 refine(iT x i true _ hx hi ho).mono ?_
 rintro e w' ⟨rfl,k,rfl⟩
 go_wp2
 go_ret
 exact⟨rfl,k,rfl⟩
theorem clamp_hi(x:Nat)(most:Int)(m:Int)(n:isN x=false)(hm:(if most<0 then 0 else most)=m)(m0:0<=m)(m1:m<=9223372036854775807)(i:Int)(hi:cI .even x=i)(ho:cOk .even x=true)(c:m<i)(w:World)(hx:x<18446744073709551616):
  Calls prog 154 #[.float .f64 x,.int .i64 most] w fun e w'=>e=.returned (.int .i64 (m))/\ ∃n,w'=w.drewN n:=by
 go_enter func154,ntmps154
 go_wp2_with fail
 refine(fG x _ hx).mono ?_
 rintro e w' ⟨rfl,rfl⟩
 go_wp2_with fail
 refine(iT x i true _ hx hi ho).mono ?_
 rintro e w' ⟨rfl,k,rfl⟩
 go_wp2
 go_ret
 exact⟨rfl,k,rfl⟩
theorem clamp_in(x:Nat)(most:Int)(m:Int)(n:isN x=false)(hm:(if most<0 then 0 else most)=m)(m0:0<=m)(m1:m<=9223372036854775807)(i:Int)(hi:cI .even x=i)(ho:cOk .even x=true)(c: -m<=i)(c':i<=m)(w:World)(hx:x<18446744073709551616):
  Calls prog 154 #[.float .f64 x,.int .i64 most] w fun e w'=>e=.returned (.int .i64 (i))/\ ∃n,w'=w.drewN n:=by
 go_enter func154,ntmps154
 go_wp2_with fail
 refine(fG x _ hx).mono ?_
 rintro e w' ⟨rfl,rfl⟩
 go_wp2_with fail
 refine(iT x i true _ hx hi ho).mono ?_
 rintro e w' ⟨rfl,k,rfl⟩
 go_wp2
 go_ret
 exact⟨rfl,k,rfl⟩
theorem clamp_at(x:Nat)(most r:Int)(w:World)(hx:x<18446744073709551616)(hm:most<=9223372036854775807)(hr:clampB x most=r):
  Calls prog 154 #[.float .f64 x,.int .i64 most] w fun e w'=>e=.returned (.int .i64 r)/\ ∃n,w'=w.drewN n:=by
 subst hr
 unfold clampB
 have hm':(if most<0 then 0 else most)=clampM most:=rfl
 have m0:0<=clampM most:=by unfold clampM;split<;>omega
 have m1:clampM most<=9223372036854775807:=by unfold clampM;split<;>omega
 generalize clampM most=m at*
 cases n:isN x
 ·rw[if_neg (by decide)]
  cases ho:cOk .even x
  ·have hi:cI .even x=0:=by unfold cI;rw[ho];rfl
   rw[if_neg (by decide)]
   cases g:fgt x 0
   ·rw[if_neg (by decide)];exact EF x most m n hm' m0 m1 hi ho g w hx
   ·rw[if_pos rfl];exact EC x most m n hm' m0 m1 hi ho g w hx
  ·rw[if_pos rfl]
   by_cases c:cI .even x< -m
   ·rw[show min (max (cI .even x) (-m)) m= -m by omega]
    exact clamp_lo x most m n hm' m0 m1 _ rfl ho c w hx
   ·by_cases c2:m<cI .even x
    ·rw[show min (max (cI .even x) (-m)) m=m by omega]
     exact clamp_hi x most m n hm' m0 m1 _ rfl ho c2 w hx
    ·rw[show min (max (cI .even x) (-m)) m=cI .even x by omega]
     exact clamp_in x most m n hm' m0 m1 _ rfl ho (by omega) (by omega) w hx
 ·rw[if_pos rfl];exact EA x most n w hx
end
section
open Tf
theorem cOk_rk(way:Ieee.Toward)(x:Nat)(hx:x<18446744073709551616)(n:isN x=false):cOk way x=(decide (-4890909195324358656<=rk x)&&decide (rk x<4890909195324358656)):=by
 rw[cOk_wOk way x hx,nX x hx,n];simp
theorem fgt_zero(x:Nat)(hx:x<18446744073709551616)(n:isN x=false):fgt x 0=decide (0<rk x):=by
 have e:rk 0=0:=by decide
 have n0:isN 0=false:=by decide
 rw[eT x 0 hx (by decide),n,n0,e];simp
theorem cI_eq(way:Ieee.Toward)(x:Nat)(h:cOk way x=true):cI way x=cq way x:=by unfold cI;rw[h,if_pos rfl]
theorem sZ(most:Int):0<=clampM most:=by unfold clampM;split<;>omega
theorem AM(x:Nat)(most:Int)(hx:x<18446744073709551616)(n:isN x=false):
  clampB x most=if rk x< -4890909195324358656 then -clampM most else if rk x<4890909195324358656 then min (max (cq .even x) (-clampM most)) (clampM most)else clampM most:=by
 have hm:=sZ most
 have hk:=cOk_rk .even x hx n
 have hg:=fgt_zero x hx n
 unfold clampB
 rw[n,if_neg (by decide)]
 by_cases c1:rk x< -4890909195324358656
 ·have o:cOk .even x=false:=by rw[hk,decide_eq_false (by omega)];rfl
  rw[if_pos c1,o,hg,if_neg (by decide),decide_eq_false (by omega),if_neg (by decide)]
 ·rw[if_neg c1]
  by_cases c2:rk x<4890909195324358656
  ·have o:cOk .even x=true:=by rw[hk,decide_eq_true (by omega),decide_eq_true c2];rfl
   rw[if_pos c2,o,if_pos rfl,cI_eq .even x o]
  ·have o:cOk .even x=false:=by rw[hk,decide_eq_false c2,Bool.and_false]
   rw[if_neg c2,o,hg,if_neg (by decide),decide_eq_true (by omega),if_pos rfl]
end
section
open Tf Ieee
def fw(n:Int):Nat:=rn false (n*one)
theorem R_one:R one=4607182418800017408:=(R_mv 4607182418800017408 (by decide)).1
theorem mv_2_63:mv 4890909195324358656=9223372036854775808*one:=by
 have h:=fS 63 4890909195324358656 (by decide)
 have e:(2:Nat) ^ 63=9223372036854775808:=by decide
 rw[e]at h
 exact h
theorem R_max:R (9223372036854775808*one)=4890909195324358656:=by
 have h:=(R_mv 4890909195324358656 (by decide)).1
 rw[mv_2_63,Int.natCast_mul]at h
 exact h
theorem rn_nn{v:Int}(h:0<=v):rn false v=(R v).toNat:=by
 unfold rn R
 generalize min (rung 52 0 v.natAbs) 9218868437227405312=m
 by_cases z:v=0
 ·rw[if_pos z,if_neg (by decide),if_neg (by omega),Int.toNat_natCast]
 ·rw[if_neg z,decide_eq_false (by omega),if_neg (by decide),if_neg (by omega),Int.toNat_natCast]
theorem fw_R{n:Int}(h:0<=n):fw n=(R (n*one)).toNat:=rn_nn (Int.mul_nonneg h (Int.le_of_lt onep))
theorem fw_in{n:Int}(h1:1<=n)(h2:n<=9223372036854775807):4607182418800017408<=fw n/\fw n<=4890909195324358656:=by
 have a:=R_mono (Int.mul_le_mul_of_nonneg_right h1 (Int.le_of_lt onep))
 have b:=R_mono (Int.mul_le_mul_of_nonneg_right (show n<=9223372036854775808 by omega) (Int.le_of_lt onep))
 rw[Int.one_mul,R_one]at a
 rw[R_max]at b
 rw[fw_R (by omega)]
 omega
theorem fw_Qn{n m:Int}(n1:1<=n)(n2:n<=9223372036854775807)(m1:1<=m)(m2:m<=9223372036854775807):Qn (fw n) (fw m):=by
 have a:=fw_in n1 n2
 have b:=fw_in m1 m2
 unfold Qn
 omega
def dpB(w a:Int):Nat:=if w<1\/a<1 then 0 else dvB (fw w) (fw a)
theorem Dq{w a:Int}(h:w<1\/a<1):dpB w a=0:=by unfold dpB;rw[if_pos h]
theorem dp_of{w a:Int}(h1:1<=w)(h2:1<=a):dpB w a=dvB (fw w) (fw a):=by unfold dpB;rw[if_neg (by omega)]
theorem dp_in{w a:Int}(h1:1<=w)(h2:1<=a)(w2:w<=9223372036854775807)(a2:a<=9223372036854775807):4503599627370496<=dpB w a/\dpB w a<=9146810843189477376:=by
 rw[dp_of h1 h2]
 exact dq_in (fw_Qn h1 w2 h2 a2)
theorem pA{w a:Int}(w2:w<=9223372036854775807)(a2:a<=9223372036854775807):dpB w a<=9146810843189477376:=by
 by_cases h:w<1\/a<1
 ·rw[Dq h];omega
 ·exact(dp_in (by omega) (by omega) w2 a2).2
end
section
open Tf Ieee
theorem fle_of{x y:Nat}(hx:x<18446744073709551616)(hy:y<18446744073709551616)(nx:isN x=false)(ny:isN y=false):(flt x y||feq x y)=decide (rk x<=rk y):=by
 rw[lM x y hx hy,gQ x y hx hy,nx,ny]
 by_cases c:rk x<rk y
 ·rw[decide_eq_true c,decide_eq_true (p:=rk x<=rk y) (by omega)];rfl
 ·rw[decide_eq_false c]
  by_cases d:rk x=rk y
  ·rw[decide_eq_true d,decide_eq_true (p:=rk x<=rk y) (by omega)];rfl
  ·rw[decide_eq_false d,decide_eq_false (p:=rk x<=rk y) (by omega)];rfl
theorem fge_of{x y:Nat}(hx:x<18446744073709551616)(hy:y<18446744073709551616)(nx:isN x=false)(ny:isN y=false):(fgt x y||feq x y)=decide (rk y<=rk x):=by
 rw[eT x y hx hy,gQ x y hx hy,nx,ny]
 by_cases c:rk y<rk x
 ·rw[decide_eq_true c,decide_eq_true (p:=rk y<=rk x) (by omega)];rfl
 ·rw[decide_eq_false c]
  by_cases d:rk x=rk y
  ·rw[decide_eq_true d,decide_eq_true (p:=rk y<=rk x) (by omega)];rfl
  ·rw[decide_eq_false d,decide_eq_false (p:=rk y<=rk x) (by omega)];rfl
theorem sv_nn{d:Nat}(h:d<9223372036854775808):sv d=(mv d:Nat):=by
 unfold sv
 rw[bK h,aZ h];rfl
def lvl(b:Nat)(w a:Int):Nat:=addB b (dpB w a)
theorem vU{b:Nat}{w a:Int}(hb:b<18446744073709551616)(w2:w<=9223372036854775807)(a2:a<=9223372036854775807):lvl b w a<18446744073709551616:=kQ b _ hb (by have:=pA w2 a2;omega)
end
section
open Tf
namespace Ss
def btw(x lo hi:Nat):Bool:=(fgt x lo||feq x lo)&&(flt x hi||feq x hi)&&decide (x≠9223372036854775808)
def fp(p:Nat->Bool)(n:Nat):Int:=match(List.range n).find? p with
 | some i=>(i:Int)
 | none=> -1
theorem AO{p:Nat->Bool}{n k:Nat}(h: ∀i,i<k->p i=false)(hk:p k=true)(hn:k<n):fp p n=(k:Nat):=by
 have e:(List.range n).find? p=some k:=by
  rw[List.find?_range_eq_some]
  exact⟨hk,List.mem_range.2 hn,fun j hj=>by rw[h j hj];rfl⟩
 unfold fp
 rw[e]
theorem fP{p:Nat->Bool}{n:Nat}(h: ∀i,i<n->p i=false):fp p n= -1:=by
 have e:(List.range n).find? p=none:=by
  rw[List.find?_eq_none]
  intro x hx
  rw[h x (List.mem_range.1 hx)]
  decide
 unfold fp
 rw[e]
theorem yG(p:Nat->Bool)(n:Nat):(fp p n= -1/\ ∀i,i<n->p i=false)\/ ∃k,k<n/\fp p n=(k:Nat)/\p k=true/\ ∀i,i<k->p i=false:=by
 cases e:(List.range n).find? p with
 | none=>
  refine .inl ⟨by unfold fp;rw[e],fun i hi=> ?_⟩
  have:=List.find?_eq_none.1 e i (List.mem_range.2 hi)
  cases q:p i with
  | false=>rfl
  | true=>exact absurd q this
 | some k=>
  obtain⟨h1,h2,h3⟩:=List.find?_range_eq_some.1 e
  refine .inr ⟨k,List.mem_range.1 h2,by unfold fp;rw[e],h1,fun i hi=> ?_⟩
  have:=h3 i hi
  cases q:p i with
  | false=>rfl
  | true=>rw[q]at this;cases this
theorem vV{p:Nat->Bool}{n:Nat}(h:fp p n<0): ∀i,i<n->p i=false:=by
 rcases yG p n with⟨_,q⟩ | ⟨k,_,e,_⟩
 ·exact q
 ·omega
theorem fp_ge(p:Nat->Bool)(n:Nat): -1<=fp p n/\fp p n<n:=by
 rcases yG p n with⟨e,_⟩ | ⟨k,hk,e,_⟩<;>omega
def bB(B:Nat->Nat)(i:Nat):Bool:= !btw (B i) 13920626448202203136 4697254411347427328
def bS(S:Nat->Nat)(i:Nat):Bool:= !btw (S i) 13875590451928498176 4652218415073722368
def bQ(W:Nat->Int)(th:Int)(i:Nat):Bool:=decide (W i<0)||decide (4503599627370496 - (th+Sh.sumN W i)<W i)
def chN(N:Nat)(lb lw lt ls:Nat)(B:Nat->Nat)(W T:Nat->Int)(S:Nat->Nat)(sky st:Int):Int × Int:=
 if lb≠N then(0,12)else if lw≠N then(1,12)else if lt≠N then(2,12)else if ls≠2*N then(3,12)
 else if 0<=fp (bB B) N then(fp (bB B) N,13)
 else if sky<0\/4503599627370496<sky then(0,17)
 else if 0<=fp (bQ W sky) N then(fp (bQ W sky) N,14)
 else if 0<=fp (bQ T 0) N then(fp (bQ T 0) N,15)
 else if 0<=fp (bS S) (2*N)then(fp (bS S) (2*N),16)
 else if st<0\/4611686018427387904<st then(0,1)else(0,0)
def chk(side:Int)(lb lw lt ls:Nat)(B:Nat->Nat)(W T:Nat->Int)(S:Nat->Nat)(sky st:Int):Int × Int:=
 if 1<=side/\side<=32 then chN (6*side.toNat*side.toNat) lb lw lt ls B W T S sky st else(0,10)
def okN(N:Nat)(B:Nat->Nat)(W T:Nat->Int)(S:Nat->Nat)(sky st:Int):Prop:=
 (∀i,i<N->bB B i=false)/\(0<=sky/\sky<=4503599627370496)/\((∀i,i<N->0<=W i)/\sky+Sh.sumN W N<=4503599627370496)/\Rv.okV N T/\(∀i,i<2*N->bS S i=false)/\0<=st/\st<=4611686018427387904
theorem lB{W:Nat->Int}{th:Int}{n:Nat}(ht:th<=4503599627370496):(∀i,i<n->bQ W th i=false) ↔ (∀i,i<n->0<=W i)/\th+Sh.sumN W n<=4503599627370496:=by
 constructor
 ·intro h
  have f: ∀i,i<n->0<=W i/\th+Sh.sumN W i+W i<=4503599627370496:=fun i hi=>by
   have:=h i hi
   unfold bQ at this
   rw[Bool.or_eq_false_iff,decide_eq_false_iff_not,decide_eq_false_iff_not]at this
   omega
  refine⟨fun i hi=>(f i hi).1,?_⟩
  cases n with
  | zero=>show th+0<=_;omega
  | succ m=>
   have:=(f m (by omega)).2
   show th+(Sh.sumN W m+W m)<=_
   omega
 ·rintro⟨h1,h2⟩ i hi
  have m:=Sh.fI h1 (m:=i+1) (by omega)
  have e:Sh.sumN W (i+1)=Sh.sumN W i+W i:=rfl
  have:=h1 i hi
  unfold bQ
  rw[Bool.or_eq_false_iff,decide_eq_false_iff_not,decide_eq_false_iff_not]
  omega
theorem chN_ok{N lb lw lt ls:Nat}{B:Nat->Nat}{W T:Nat->Int}{S:Nat->Nat}{sky st:Int}:
  (chN N lb lw lt ls B W T S sky st).2=0 ↔ (lb=N/\lw=N/\lt=N/\ls=2*N)/\okN N B W T S sky st:=by
 unfold chN
 by_cases h1:lb=N
 ·rw[if_neg (by omega)]
  by_cases h2:lw=N
  ·rw[if_neg (by omega)]
   by_cases h3:lt=N
   ·rw[if_neg (by omega)]
    by_cases h4:ls=2*N
    ·rw[if_neg (by omega)]
     by_cases h5:0<=fp (bB B) N
     ·rw[if_pos h5]
      refine⟨fun q=>by simp at q,fun q=> ?_⟩
      rw[fP q.2.1]at h5
      omega
     ·rw[if_neg h5]
      have k5:=vV (p:=bB B) (n:=N) (by omega)
      by_cases h6:sky<0\/4503599627370496<sky
      ·rw[if_pos h6]
       refine⟨fun q=>by simp at q,fun q=> ?_⟩
       have:=q.2.2.1
       omega
      ·rw[if_neg h6]
       by_cases h7:0<=fp (bQ W sky) N
       ·rw[if_pos h7]
        refine⟨fun q=>by simp at q,fun q=> ?_⟩
        rw[fP ((lB (by omega)).2 q.2.2.2.1)]at h7
        omega
       ·rw[if_neg h7]
        have k7:=(lB (by omega)).1 (vV (p:=bQ W sky) (n:=N) (by omega))
        by_cases h8:0<=fp (bQ T 0) N
        ·rw[if_pos h8]
         refine⟨fun q=>by simp at q,fun q=> ?_⟩
         rw[fP ((lB (by omega)).2 ⟨q.2.2.2.2.1.1,by have:=q.2.2.2.2.1.2;omega⟩)]at h8
         omega
        ·rw[if_neg h8]
         have k8:=(lB (th:=0) (by omega)).1 (vV (p:=bQ T 0) (n:=N) (by omega))
         by_cases h9:0<=fp (bS S) (2*N)
         ·rw[if_pos h9]
          refine⟨fun q=>by simp at q,fun q=> ?_⟩
          rw[fP q.2.2.2.2.2.1]at h9
          omega
         ·rw[if_neg h9]
          have k9:=vV (p:=bS S) (n:=2*N) (by omega)
          by_cases h10:st<0\/4611686018427387904<st
          ·rw[if_pos h10]
           refine⟨fun q=>by simp at q,fun q=> ?_⟩
           have:=q.2.2.2.2.2.2
           omega
          ·rw[if_neg h10]
           exact⟨fun _=>⟨⟨h1,h2,h3,h4⟩,k5,⟨by omega,by omega⟩,k7,⟨k8.1,by have:=k8.2;omega⟩,k9,by omega,by omega⟩,fun _=>rfl⟩
    ·rw[if_pos h4]
     exact⟨fun q=>by simp at q,fun q=>absurd q.1.2.2.2 h4⟩
   ·rw[if_pos h3]
    exact⟨fun q=>by simp at q,fun q=>absurd q.1.2.2.1 h3⟩
  ·rw[if_pos h2]
   exact⟨fun q=>by simp at q,fun q=>absurd q.1.2.1 h2⟩
 ·rw[if_pos h1]
  exact⟨fun q=>by simp at q,fun q=>absurd q.1.1 h1⟩
theorem chN_zero{N lb lw lt ls:Nat}{B:Nat->Nat}{W T:Nat->Int}{S:Nat->Nat}{sky st:Int}(h:(lb=N/\lw=N/\lt=N/\ls=2*N)/\okN N B W T S sky st):chN N lb lw lt ls B W T S sky st=(0,0):=by
 obtain⟨⟨rfl,rfl,rfl,rfl⟩,o1,o2,o3,o4,o5,o6⟩:=h
 unfold chN
 rw[if_neg (by omega),if_neg (by omega),if_neg (by omega),if_neg (by omega),if_neg (by rw[fP o1];omega),if_neg (by omega),if_neg (by rw[fP ((lB (by omega)).2 o3)];omega),if_neg (by rw[fP ((lB (by omega)).2 ⟨o4.1,by have:=o4.2;omega⟩)];omega),if_neg (by rw[fP o5];omega),if_neg (by omega)]
def rB(n:Int)(r:Int × Int × Int × Int):Bool:=decide (0<=r.1)&&decide (r.1<n)&&decide (-4503599627370496<=r.2.1)&&decide (r.2.1<=4503599627370496)&&decide (0<=r.2.2.1)&&decide (r.2.2.1<=r.2.2.2)
def plE(sd:Int)(dt gr dr:Nat)(lim:Int)(lr:Nat)(R:Nat->Int × Int × Int × Int):Int:=
 if¬(1<=sd/\sd<=32)then 10
 else if¬(btw dt 0 4652218415073722368=true/\feq dt 0=false/\btw gr 0 4652218415073722368=true/\btw dr 0 4652218415073722368=true/\(0<=lim/\lim<=3))then 11
 else if¬(lr<=1024/\ ∀k,k<lr->rB ((6*sd.toNat*sd.toNat:Nat):Int) (R k)=true)then 18 else 0
end Ss
end
section
open Tf Ieee
def leer(a b:Nat):Nat:=dvB (mlB (mlB 4611686018427387904 a) b) (plB a b)
end
section
open Tf Ieee
theorem Dr(W:Nat)(p:Int): ∃r,r<=9218868437227405312/\double.nearest false W p=r:=by
 have hlp:=d_lp
 by_cases h:double.leastPlace<=p
 ·obtain⟨d,hd⟩: ∃d:Nat,p=double.leastPlace+(d:Int):=⟨(p - double.leastPlace).toNat,by omega⟩
  rw[fF double false W d _ hd,dW,bW]
  simp only[Bool.false_eq_true,if_false]
  exact⟨_,Nat.min_le_right _ _,rfl⟩
 ·obtain⟨d,hd⟩: ∃d:Nat,p=double.leastPlace - (d:Int):=⟨(double.leastPlace - p).toNat,by omega⟩
  rw[hd,gF double false W d,dW,bW]
  simp only[Bool.false_eq_true,if_false]
  exact⟨_,Nat.min_le_right _ _,rfl⟩
theorem yH{r:Nat}(h:r<=9218868437227405312):canonB r=r:=by
 have mr:mg r=r:=aZ (by omega)
 unfold canonB
 rw[mr,if_neg (by unfold isN;rw[mr];simp;omega)]
 split<;>omega
theorem Ds{x:Nat}(h:x<=9218868437227405312):double.read x=.infinity false\/ ∃m p,double.read x=.number false m p:=by
 have mx:mg x=x:=aZ (by omega)
 by_cases c:x=9218868437227405312
 ·subst c
  exact .inl (by decide+kernel)
 ·right
  obtain⟨m,a,h1,-⟩:=cE double x (by show mg x<9218868437227405312;omega)
  have hs:sg double x=false:=by
   rw[fR x (by omega)]
   exact bK (by omega)
  rw[hs]at h1
  exact⟨m,_,h1⟩
theorem dv_nn{x y:Nat}(hx:x<=9218868437227405312)(hy:y<=9218868437227405312):dvB x y=quiet\/dvB x y<=9218868437227405312:=by
 have key:double.div x y=none\/ ∃r,r<=9218868437227405312/\double.div x y=some r:=by
  show((double.read x).quotient 54 (double.read y)).map double.write=none\/ ∃r,r<=9218868437227405312/\((double.read x).quotient 54 (double.read y)).map double.write=some r
  rcases Ds hx with e1 | ⟨m,p,e1⟩<;>rcases Ds hy with e2 | ⟨n,q,e2⟩<;>rw[e1,e2]<;>unfold Datum.quotient<;>dsimp only
  ·exact .inl rfl
  ·exact .inr ⟨9218868437227405312,Nat.le_refl _,by decide+kernel⟩
  ·obtain⟨r,r1,r2⟩:=Dr 0 0
   exact .inr ⟨r,r1,by show some (double.nearest false 0 0)=_;rw[r2]⟩
  ·by_cases hn:n=0
   ·rw[if_pos hn]
    by_cases hm:m=0
    ·rw[if_pos hm];exact .inl rfl
    ·rw[if_neg hm];exact .inr ⟨9218868437227405312,Nat.le_refl _,by decide+kernel⟩
   ·rw[if_neg hn]
    obtain⟨r,r1,r2⟩:=Dr (2*(m <<< (54+n.log2 - m.log2)/n)+(m <<< (54+n.log2 - m.log2)%n != 0).toNat) (p - q - ((54+n.log2 - m.log2:Nat):Int) - 1)
    exact .inr ⟨r,r1,by show some (double.nearest false _ _)=_;rw[<- r2]⟩
 rcases key with h | ⟨r,r1,h⟩
 ·exact .inl (gS h)
 ·rw[eV h,yH r1]
  exact .inr r1
theorem ml_nn{x y:Nat}(hx:x<=9218868437227405312)(hy:y<=9218868437227405312)(x0:0<x)(y0:0<y):mlB x y<=9218868437227405312:=by
 have mx:mg x=x:=aZ (by omega)
 have my:mg y=y:=aZ (by omega)
 have nx:ng x=false:=bK (by omega)
 have ny:ng y=false:=bK (by omega)
 have hi:infW (false ^^ false)=9218868437227405312:=by decide
 by_cases cx:x=9218868437227405312
 ·by_cases cy:y=9218868437227405312
  ·have e:=mul_ii x y (by omega) (by omega) (by omega) (by omega)
   rw[cZ e,nx,ny,hi]
   exact Nat.le_refl _
  ·have e:=mul_if x y (by omega) (by omega) (by omega) (by omega)
   rw[if_neg (by omega)]at e
   rw[cZ e,nx,ny,hi]
   exact Nat.le_refl _
 ·by_cases cy:y=9218868437227405312
  ·have e:=vE x y (by omega) (by omega) (by omega) (by omega)
   rw[if_neg (by omega)]at e
   rw[cZ e,nx,ny,hi]
   exact Nat.le_refl _
  ·rw[Dm (by omega) (by omega)]
   exact Nat.min_le_right _ _
theorem leer_nn{a b:Nat}(ha:a<=9218868437227405312)(hb:b<=9218868437227405312)(a0:0<a)(b0:0<b):leer a b=quiet\/leer a b<=9218868437227405312:=by
 have d:=gV ha
 exact dv_nn (ml_nn d.1 hb (by omega) b0) (plB_nn ha hb).1
end
section
open Tf Ieee
theorem Dt{l b:Nat}(hl:l<18446744073709551616)(hb:b<18446744073709551616):fgt l b=true ↔ isN l=false/\isN b=false/\rk b<rk l:=by
 rw[eT l b hl hb]
 cases isN l<;>cases isN b<;>simp
end
end Go.Proofs.YtmhnilnaffjhmaaGreatDoor
