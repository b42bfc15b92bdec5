/-
  Some of the texts of this proof, one behind the other.
-/
import Derived.KernelRfl
import Derived.WalkKit
import Derived.Below
import Derived.Deep.Draws
import Derived.Deep.RegionHeld3
import Derived.Test.YtlmfpikhlcnjjaaGreatDoorRows
import Derived.Maps.Own
import Derived.Maps.OwnOps
import Derived.Maps.Views
import Derived.DeepKeys4
import Derived.BigQuiet
import Derived.Deep.QuietTactic
import Derived.Deep.RegionWith
import Derived.Deep.Cut
import Derived.Deep.CutRange
import Derived.Laws.StructEq
import Derived.Deep.Quiet
set_option maxRecDepth 100000
set_option maxHeartbeats 400000000
namespace Go.Proofs.YtlmfpikhlcnjjaaGreatDoor
open _root_.Go.Proofs.Tryz
namespace Cu
abbrev P3:=Int × Int × Int
def cC:Nat->P3
 | 0=>(1,0,0) | 1=>(0,1,0) | 2=>(-1,0,0) | 3=>(0,-1,0) | 4=>(0,0,1) | _=>(0,0,-1)
def cR:Nat->P3
 | 0=>(0,1,0) | 1=>(-1,0,0) | 2=>(0,-1,0) | 3=>(1,0,0) | 4=>(0,1,0) | _=>(0,1,0)
def cU:Nat->P3
 | 0=>(0,0,1) | 1=>(0,0,1) | 2=>(0,0,1) | 3=>(0,0,1) | 4=>(-1,0,0) | _=>(1,0,0)
def pl(p q:P3):P3:=(p.1+q.1,p.2.1+q.2.1,p.2.2+q.2.2)
def sc(k:Int)(p:P3):P3:=(k*p.1,k*p.2.1,k*p.2.2)
def dt(p q:P3):Int:=p.1*q.1+p.2.1*q.2.1+p.2.2*q.2.2
def wy(f s:Nat):P3:=match s with
 | 0=>cR f | 1=>cU f | 2=>sc (-1) (cR f) | _=>sc (-1) (cU f)
def md(n f i j:Nat):P3:=pl (sc n (cC f)) (pl (sc (2*i+1 - n) (cR f)) (sc (2*j+1 - n) (cU f)))
def nf(f s:Nat):Nat:=([[1,4,3,5],[2,4,0,5],[3,4,1,5],[0,4,2,5],[1,2,3,0],[1,0,3,2]].getD f []).getD s 0
def ns(f s:Nat):Nat:=([[0,1,2,3],[0,2,2,2],[0,3,2,1],[0,0,2,0],[3,3,3,3],[1,1,1,1]].getD f []).getD s 0
theorem six{f:Nat}(h:f<6):f=0\/f=1\/f=2\/f=3\/f=4\/f=5:=by omega
theorem four{s:Nat}(h:s<4):s=0\/s=1\/s=2\/s=3:=by omega
theorem nf_lt: ∀f<6,∀s<4,nf f s<6/\ns f s<4:=by decide+kernel
theorem wy_back: ∀f<6,∀s<4,sc (-1) (wy f s)=wy f ((s+2)%4)/\cC f=wy (nf f s) ((ns f s+2)%4):=by decide+kernel
theorem wy_inj: ∀f<6,∀s<4,∀r<4,wy f r=wy f s->r=s:=by decide+kernel
end Cu
namespace Cu
theorem md_dt{n f i j:Nat}(hf:f<6):dt (md n f i j) (cC f)=n/\dt (md n f i j) (cR f)=2*i+1 - n/\dt (md n f i j) (cU f)=2*j+1 - n:=by
 rcases six hf with rfl | rfl | rfl | rfl | rfl | rfl<;>simp only[md,pl,sc,dt,cC,cR,cU]<;>omega
theorem md_face{n f i j k:Nat}(hf:f<6)(hk:k<6)(_hi:i<n)(hj:j<n):(dt (md n f i j) (cC k)=n) ↔ k=f:=by
 rcases six hf with rfl | rfl | rfl | rfl | rfl | rfl<;>rcases six hk with rfl | rfl | rfl | rfl | rfl | rfl<;>simp only[md,pl,sc,dt,cC,cR,cU,iff_true]<;>omega
theorem md_le{n f i j:Nat}(hf:f<6)(hi:i<n)(hj:j<n)(hn:n<=32):(-100<=(md n f i j).1/\(md n f i j).1<=100)/\(-100<=(md n f i j).2.1/\(md n f i j).2.1<=100)/\(-100<=(md n f i j).2.2/\(md n f i j).2.2<=100):=by
 rcases six hf with rfl | rfl | rfl | rfl | rfl | rfl<;>simp only[md,pl,sc,cC,cR,cU]<;>omega
def atI(n s a b:Nat):Nat:=match s with | 0=>a | 1=>n - 1 - b | 2=>n - 1 - a | _=>b
def atJ(n s a b:Nat):Nat:=match s with | 0=>b | 1=>a | 2=>n - 1 - b | _=>n - 1 - a
def ah(n s i j:Nat):Nat:=match s with | 0=>i | 1=>j | 2=>n - 1 - i | _=>n - 1 - j
def lf(n s i j:Nat):Nat:=match s with | 0=>j | 1=>n - 1 - i | 2=>n - 1 - j | _=>i
theorem kQ{n s a b:Nat}(ha:a<n)(hb:b<n):atI n s a b<n/\atJ n s a b<n:=by
 unfold atI atJ;split<;>omega
theorem mZ{n s i j:Nat}(hi:i<n)(hj:j<n):ah n s i j<n/\lf n s i j<n:=by
 unfold ah lf;split<;>omega
theorem at_ah{n s i j:Nat}(hs:s<4)(hi:i<n)(hj:j<n):atI n s (ah n s i j) (lf n s i j)=i/\atJ n s (ah n s i j) (lf n s i j)=j:=by
 rcases four hs with rfl | rfl | rfl | rfl<;>simp only[atI,atJ,ah,lf,and_self,and_true,true_and]<;>omega
theorem ah_at{n s a b:Nat}(hs:s<4)(ha:a<n)(hb:b<n):ah n s (atI n s a b) (atJ n s a b)=a/\lf n s (atI n s a b) (atJ n s a b)=b:=by
 rcases four hs with rfl | rfl | rfl | rfl<;>simp only[atI,atJ,ah,lf,and_self,and_true,true_and]<;>omega
def ms(n f s a b:Nat):P3:=pl (sc n (cC f)) (pl (sc (2*a+1 - n) (wy f s)) (sc (2*b+1 - n) (wy f ((s+1)%4))))
theorem md_ms{n f s a b:Nat}(hf:f<6)(hs:s<4)(ha:a<n)(hb:b<n):md n f (atI n s a b) (atJ n s a b)=ms n f s a b:=by
 rcases six hf with rfl | rfl | rfl | rfl | rfl | rfl<;>rcases four hs with rfl | rfl | rfl | rfl<;>simp only[md,ms,pl,sc,cC,cR,cU,wy,atI,atJ,Nat.reduceAdd,Nat.reduceMod,Prod.mk.injEq]<;>omega
theorem ms_step{n f s a b:Nat}(hf:f<6)(hs:s<4):
  dt (pl (ms n f s a b) (wy f s)) (wy f s)=2*a+2 - n/\pl (pl (ms n f s a b) (wy f s)) (wy f s)=ms n f s (a+1) b:=by
 rcases six hf with rfl | rfl | rfl | rfl | rfl | rfl<;>rcases four hs with rfl | rfl | rfl | rfl<;>simp only[ms,pl,sc,dt,cC,cR,cU,wy,Nat.reduceAdd,Nat.reduceMod,Prod.mk.injEq]<;>omega
theorem ms_edge{n f s a b:Nat}(hf:f<6)(hs:s<4)(ha:a+1=n):
  pl (pl (ms n f s a b) (wy f s)) (sc (-1) (cC f))=ms n (nf f s) (ns f s) 0 b:=by
 rcases six hf with rfl | rfl | rfl | rfl | rfl | rfl<;>rcases four hs with rfl | rfl | rfl | rfl<;>simp only[ms,pl,sc,cC,cR,cU,wy,nf,ns,List.getD,List.getElem?_cons_zero,List.getElem?_cons_succ,Option.getD_some,Nat.reduceAdd,Nat.reduceMod,Prod.mk.injEq]<;>omega
end Cu
namespace Cu
def nm(n f i j:Nat):Nat:=(f*n+j)*n+i
def cf(n c:Nat):Nat:=c/n/n
def ci(n c:Nat):Nat:=c%n
def cj(n c:Nat):Nat:=c/n%n
theorem nm_dec{n f i j:Nat}(hi:i<n)(hj:j<n):cf n (nm n f i j)=f/\ci n (nm n f i j)=i/\cj n (nm n f i j)=j:=by
 have h1:nm n f i j/n=f*n+j:=by
  unfold nm
  rw[Nat.mul_comm,Nat.mul_add_div (by omega),Nat.div_eq_of_lt hi,Nat.add_zero]
 have h2:(f*n+j)/n=f:=by rw[Nat.mul_comm,Nat.mul_add_div (by omega),Nat.div_eq_of_lt hj,Nat.add_zero]
 refine⟨?_,?_,?_⟩
 ·unfold cf;rw[h1,h2]
 ·unfold ci nm;rw[Nat.mul_comm,Nat.mul_add_mod,Nat.mod_eq_of_lt hi]
 ·unfold cj;rw[h1,Nat.mul_comm,Nat.mul_add_mod,Nat.mod_eq_of_lt hj]
theorem nm_lt{n f i j:Nat}(hf:f<6)(hi:i<n)(hj:j<n):nm n f i j<6*n*n:=by
 unfold nm
 have a:f*n+j<6*n:=by
  have:f*n+n<=6*n:=by
   have:=Nat.mul_le_mul_right n (show f+1<=6 by omega)
   rwa [Nat.add_mul,Nat.one_mul]at this
  omega
 have b:(f*n+j)*n+n<=6*n*n:=by
  have:=Nat.mul_le_mul_right n (show f*n+j+1<=6*n by omega)
  rwa [Nat.add_mul (f*n+j) 1 n,Nat.one_mul]at this
 omega
theorem fE{n c:Nat}(hn:1<=n)(hc:c<6*n*n):cf n c<6/\ci n c<n/\cj n c<n/\nm n (cf n c) (ci n c) (cj n c)=c:=by
 refine⟨?_,Nat.mod_lt _ (by omega),Nat.mod_lt _ (by omega),?_⟩
 ·unfold cf
  rw[Nat.div_div_eq_div_mul]
  refine Nat.div_lt_of_lt_mul ?_
  rw[Nat.mul_comm (n*n) 6,<- Nat.mul_assoc]
  exact hc
 ·unfold nm cf ci cj
  have h1:c/n/n*n+c/n%n=c/n:=by rw[Nat.mul_comm];exact Nat.div_add_mod _ _
  rw[h1,Nat.mul_comm]
  exact Nat.div_add_mod _ _
def Pn(n f s a b:Nat):Nat:=nm n f (atI n s a b) (atJ n s a b)
def bsC(n c s:Nat):Nat:=
 if ah n s (ci n c) (cj n c)+1<n then Pn n (cf n c) s (ah n s (ci n c) (cj n c)+1) (lf n s (ci n c) (cj n c))
 else Pn n (nf (cf n c) s) (ns (cf n c) s) 0 (lf n s (ci n c) (cj n c))
def bsS(n c s:Nat):Nat:=if ah n s (ci n c) (cj n c)+1<n then(s+2)%4 else(ns (cf n c) s+2)%4
theorem Pn_dec{n f s a b:Nat}(hs:s<4)(ha:a<n)(hb:b<n):cf n (Pn n f s a b)=f/\ah n s (ci n (Pn n f s a b)) (cj n (Pn n f s a b))=a/\lf n s (ci n (Pn n f s a b)) (cj n (Pn n f s a b))=b:=by
 have h:=kQ (s:=s) ha hb
 obtain⟨h1,h2,h3⟩:=nm_dec (f:=f) h.1 h.2
 unfold Pn
 rw[h1,h2,h3]
 exact⟨rfl,ah_at hs ha hb⟩
theorem Pn_lt{n f s a b:Nat}(hf:f<6)(ha:a<n)(hb:b<n):Pn n f s a b<6*n*n:=nm_lt hf (kQ ha hb).1 (kQ ha hb).2
theorem Pn_ex{n c s:Nat}(hn:1<=n)(hc:c<6*n*n)(hs:s<4): ∃f a b,f<6/\a<n/\b<n/\c=Pn n f s a b:=by
 obtain⟨h1,h2,h3,h4⟩:=fE hn hc
 refine⟨cf n c,ah n s (ci n c) (cj n c),lf n s (ci n c) (cj n c),h1,(mZ h2 h3).1,(mZ h2 h3).2,?_⟩
 unfold Pn
 rw[(at_ah hs h2 h3).1,(at_ah hs h2 h3).2,h4]
theorem Pn_rot{n f s a b:Nat}(hs:s<4)(ha:a<n)(_hb:b<n):Pn n f s a b=Pn n f ((s+1)%4) b (n - 1 - a):=by
 unfold Pn
 rcases four hs with rfl | rfl | rfl | rfl<;>simp only[atI,atJ,Nat.reduceAdd,Nat.reduceMod]<;>congr 1<;>omega
theorem bs_Pn{n f s a b:Nat}(hs:s<4)(ha:a<n)(hb:b<n):
  bsC n (Pn n f s a b) s=(if a+1<n then Pn n f s (a+1) b else Pn n (nf f s) (ns f s) 0 b)/\bsS n (Pn n f s a b) s=(if a+1<n then(s+2)%4 else(ns f s+2)%4):=by
 obtain⟨h1,h2,h3⟩:=Pn_dec (f:=f) hs ha hb
 unfold bsC bsS
 rw[h1,h2,h3]
 exact⟨rfl,rfl⟩
end Cu
namespace Cu
theorem nf_back: ∀f<6,∀s<4,nf (nf f s) ((ns f s+2)%4)=f/\ns (nf f s) ((ns f s+2)%4)=(s+2)%4:=by decide+kernel
theorem nf_ne: ∀f<6,∀s<4,nf f s≠f:=by decide+kernel
theorem iL{n f s a b:Nat}(hs:s<4)(ha:a<n)(hb:b<n):Pn n f s a b=Pn n f ((s+2)%4) (n - 1 - a) (n - 1 - b):=by
 rw[Pn_rot hs ha hb,Pn_rot (by omega) hb (by omega)]
 rw[show((s+1)%4+1)%4=(s+2)%4 by omega]
theorem kR{n c s:Nat}(hn:1<=n)(hc:c<6*n*n)(hs:s<4):bsC n c s<6*n*n/\bsS n c s<4:=by
 obtain⟨f,a,b,hf,ha,hb,rfl⟩:=Pn_ex hn hc hs
 obtain⟨f1,f2⟩:=nf_lt f hf s hs
 obtain⟨b1,b2⟩:=bs_Pn (f:=f) hs ha hb
 rw[b1,b2]
 by_cases h:a+1<n
 ·rw[if_pos h,if_pos h];exact⟨Pn_lt hf h hb,by omega⟩
 ·rw[if_neg h,if_neg h];exact⟨Pn_lt f1 (by omega) hb,by omega⟩
theorem qU{n c s:Nat}(hn:1<=n)(hc:c<6*n*n)(hs:s<4):bsC n (bsC n c s) (bsS n c s)=c/\bsS n (bsC n c s) (bsS n c s)=s:=by
 obtain⟨f,a,b,hf,ha,hb,rfl⟩:=Pn_ex hn hc hs
 obtain⟨f1,f2⟩:=nf_lt f hf s hs
 obtain⟨b1,b2⟩:=bs_Pn (f:=f) hs ha hb
 rw[b1,b2]
 have hs2:(s+2)%4<4:=by omega
 by_cases h:a+1<n
 ·rw[if_pos h,if_pos h,iL hs h hb]
  obtain⟨d1,d2⟩:=bs_Pn (n:=n) (f:=f) (a:=n - 1 - (a+1)) (b:=n - 1 - b) hs2 (by omega) (by omega)
  have hh:n - 1 - (a+1)+1<n:=by omega
  rw[d1,d2,if_pos hh,if_pos hh,iL hs ha hb]
  rw[show n - 1 - (a+1)+1=n - 1 - a by omega]
  exact⟨rfl,by omega⟩
 ·have h0:0<n:=by omega
  obtain⟨e1,e2⟩:=nf_back f hf s hs
  rw[if_neg h,if_neg h,iL f2 h0 hb]
  obtain⟨d1,d2⟩:=bs_Pn (n:=n) (f:=nf f s) (s:=(ns f s+2)%4) (a:=n - 1 - 0) (b:=n - 1 - b) (by omega) (by omega) (by omega)
  have hh: ¬n - 1 - 0+1<n:=by omega
  rw[d1,d2,if_neg hh,if_neg hh,e1,e2,iL hs ha hb]
  rw[show n - 1 - a=0 by omega]
  exact⟨rfl,by omega⟩
def sx(s i:Nat):Nat:=match s with | 0=>i+1 | 2=>i - 1 | _=>i
def sy(s j:Nat):Nat:=match s with | 1=>j+1 | 3=>j - 1 | _=>j
theorem bs_in{n c s:Nat}(hn:1<=n)(hc:c<6*n*n)(hs:s<4)(h:ah n s (ci n c) (cj n c)+1<n):
  cf n (bsC n c s)=cf n c/\ci n (bsC n c s)=sx s (ci n c)/\cj n (bsC n c s)=sy s (cj n c)/\(s=2->1<=ci n c)/\(s=3->1<=cj n c):=by
 obtain⟨h1,h2,h3,_⟩:=fE hn hc
 have e:bsC n c s=Pn n (cf n c) s (ah n s (ci n c) (cj n c)+1) (lf n s (ci n c) (cj n c)):=by unfold bsC;rw[if_pos h]
 rw[e]
 unfold Pn
 have hl:=kQ (s:=s) h (mZ (s:=s) h2 h3).2
 obtain⟨d1,d2,d3⟩:=nm_dec (f:=cf n c) hl.1 hl.2
 rw[d1,d2,d3]
 refine⟨rfl,?_⟩
 rcases four hs with rfl | rfl | rfl | rfl<;>refine⟨?_,?_,fun e=> ?_,fun e=> ?_⟩<;>simp only[ah,lf,atI,atJ,sx,sy]at h ⊢ <;>omega
theorem bs_out{n c s:Nat}(hn:1<=n)(hc:c<6*n*n)(hs:s<4)(h: ¬ah n s (ci n c) (cj n c)+1<n):cf n (bsC n c s)=nf (cf n c) s:=by
 obtain⟨h1,h2,h3,_⟩:=fE hn hc
 have e:bsC n c s=Pn n (nf (cf n c) s) (ns (cf n c) s) 0 (lf n s (ci n c) (cj n c)):=by unfold bsC;rw[if_neg h]
 rw[e]
 exact(Pn_dec (nf_lt _ h1 s hs).2 (by omega) (mZ (s:=s) h2 h3).2).1
theorem bs_self{n c s:Nat}(hn:1<=n)(hc:c<6*n*n)(hs:s<4):bsC n c s≠c:=by
 intro e
 obtain⟨h1,_⟩:=fE hn hc
 by_cases h:ah n s (ci n c) (cj n c)+1<n
 ·obtain⟨_,d2,d3,d4,d5⟩:=bs_in hn hc hs h
  rw[e]at d2 d3
  rcases four hs with rfl | rfl | rfl | rfl<;>simp only[sx,sy]at d2 d3<;>omega
 ·have:=bs_out hn hc hs h
  rw[e]at this
  exact nf_ne _ h1 s hs this.symm
end Cu
section
open Cu
def mt(n t:Nat):Nat:=4*bsC n (t/4) (t%4)+bsS n (t/4) (t%4)
def isL(n t:Nat):Bool:=decide (t/4<bsC n (t/4) (t%4))
def eN(n:Nat):Nat->Nat
 | 0=>0
 | t+1=>eN n t+(if isL n t then 1 else 0)
theorem t_dec{c s:Nat}(hs:s<4):(4*c+s)/4=c/\(4*c+s)%4=s:=by omega
theorem cT{n t:Nat}(h:t<24*n*n):t/4<6*n*n:=by
 have:24*n*n=4*(6*n*n):=by rw[show 24=4*6 from rfl,Nat.mul_assoc 4 6 n,Nat.mul_assoc 4 (6*n) n]
 omega
theorem t_lt{n c s:Nat}(hc:c<6*n*n)(hs:s<4):4*c+s<24*n*n:=by
 have:24*n*n=4*(6*n*n):=by rw[show 24=4*6 from rfl,Nat.mul_assoc 4 6 n,Nat.mul_assoc 4 (6*n) n]
 omega
theorem nA{n t:Nat}(hn:1<=n)(h:t<24*n*n):mt n t<24*n*n:=by
 obtain⟨h1,h2⟩:=kR hn (cT h) (s:=t%4) (by omega)
 exact t_lt h1 h2
theorem pP{n t:Nat}(hn:1<=n)(h:t<24*n*n):mt n t/4=bsC n (t/4) (t%4)/\mt n t%4=bsS n (t/4) (t%4):=by
 obtain⟨h1,h2⟩:=kR hn (cT h) (s:=t%4) (by omega)
 exact t_dec h2
theorem nC{n t:Nat}(hn:1<=n)(h:t<24*n*n):mt n (mt n t)=t:=by
 obtain⟨h1,h2⟩:=pP hn h
 obtain⟨b1,b2⟩:=qU hn (cT h) (s:=t%4) (by omega)
 show 4*bsC n (mt n t/4) (mt n t%4)+bsS n (mt n t/4) (mt n t%4)=t
 rw[h1,h2,b1,b2]
 omega
theorem iZ{n t:Nat}(hn:1<=n)(h:t<24*n*n):isL n (mt n t)= !isL n t:=by
 obtain⟨h1,h2⟩:=pP hn h
 obtain⟨b1,_⟩:=qU hn (cT h) (s:=t%4) (by omega)
 have hne:=bs_self hn (cT h) (s:=t%4) (by omega)
 unfold isL
 rw[h1,h2,b1]
 rcases Nat.lt_or_ge (t/4) (bsC n (t/4) (t%4))with h3 | h3
 ·simp[h3];omega
 ·have:bsC n (t/4) (t%4)<t/4:=by omega
  simp[this];omega
theorem eN_count(n t:Nat):eN n t=(List.range t).countP (isL n):=by
 induction t with
 | zero=>rfl
 | succ t ih=>rw[List.range_succ,List.countP_append,<- ih];simp[eN,List.countP_cons]
theorem pQ{α:Type}(p:α->Bool)(l:List α):l.countP p+l.countP (fun x=> !p x)=l.length:=by
 induction l with
 | nil=>rfl
 | cons x l ih=>simp only[List.countP_cons,List.length_cons];cases p x<;>simp<;>omega
theorem mt_perm{n:Nat}(hn:1<=n):List.Perm ((List.range (24*n*n)).map (mt n)) (List.range (24*n*n)):=by
 refine(List.perm_ext_iff_of_nodup ?_ List.nodup_range).2 ?_
 ·unfold List.Nodup
  rw[List.pairwise_map]
  refine List.Pairwise.imp_of_mem ?_ List.nodup_range
  intro a b ha hb hne he
  rw[List.mem_range]at ha hb
  apply hne
  rw[<- nC hn ha,he,nC hn hb]
 ·intro a
  rw[List.mem_map,List.mem_range]
  constructor
  ·rintro⟨b,hb,rfl⟩
   exact nA hn (List.mem_range.1 hb)
  ·intro ha
   exact⟨mt n a,List.mem_range.2 (nA hn ha),nC hn ha⟩
theorem kL{α:Type}{p q:α->Bool}{l:List α}(h: ∀x ∈ l,p x=q x):l.countP p=l.countP q:=by
 induction l with
 | nil=>rfl
 | cons x l ih=>rw[List.countP_cons,List.countP_cons,ih fun y hy=>h y (List.mem_cons_of_mem _ hy),h x List.mem_cons_self]
theorem lR{n:Nat}(hn:1<=n):eN n (24*n*n)=12*n*n:=by
 have h1:=pQ (isL n) (List.range (24*n*n))
 have h2:=(mt_perm hn).countP_eq (isL n)
 rw[List.countP_map]at h2
 have h3:(List.range (24*n*n)).countP (isL n ∘ mt n)=(List.range (24*n*n)).countP (fun t=> !isL n t):=
  kL fun x hx=>iZ hn (List.mem_range.1 hx)
 have h4:24*n*n=2*(12*n*n):=by rw[show 24=2*12 from rfl,Nat.mul_assoc 2 12 n,Nat.mul_assoc 2 (12*n) n]
 rw[List.length_range]at h1
 rw[eN_count]
 omega
theorem iM{n t:Nat}(h:isL n t=true):eN n (t+1)=eN n t+1:=by simp[eN,h]
theorem lS{n t:Nat}(h:isL n t=false):eN n (t+1)=eN n t:=by simp[eN,h]
theorem qV{n t u:Nat}(h:t<=u):eN n t<=eN n u:=by
 induction u with
 | zero=>
    obtain rfl:t=0:=by omega
    exact Nat.le_refl _
 | succ u ih=>
  rcases Nat.lt_or_ge u t with h1 | h1
  ·obtain rfl:t=u+1:=by omega
   exact Nat.le_refl _
  ·have:=ih h1;have e:eN n (u+1)=eN n u+(if isL n u then 1 else 0):=rfl;omega
theorem eN_lt{n t u:Nat}(hl:isL n t=true)(h:t<u):eN n t<eN n u:=by
 have:=qV (n:=n) (show t+1<=u from h)
 rw[iM hl]at this
 omega
theorem eN_ex{n k u:Nat}(h:k<eN n u): ∃t,t<u/\isL n t=true/\eN n t=k:=by
 induction u with
 | zero=>simp[eN]at h
 | succ u ih=>
  rcases Nat.lt_or_ge k (eN n u)with h1 | h1
  ·obtain⟨t,a,b,c⟩:=ih h1;exact⟨t,by omega,b,c⟩
  ·cases hl:isL n u with
   | true=>rw[iM hl]at h;exact⟨u,by omega,hl,by omega⟩
   | false=>rw[lS hl]at h;omega
theorem ed_ex{n k:Nat}(hn:1<=n)(h:k<12*n*n): ∃t,t<24*n*n/\isL n t=true/\eN n t=k:=eN_ex (by rw[lR hn];exact h)
theorem nD{n t:Nat}(hn:1<=n)(h:t<24*n*n)(hl:isL n t=true):eN n t<12*n*n:=by
 have:=eN_lt hl h
 rwa [lR hn]at this
def eE(n t:Nat):Nat:=if isL n t then eN n t else eN n (mt n t)
def eS(n t:Nat):Int:=if isL n t then 1 else -1
theorem eE_lt{n t:Nat}(hn:1<=n)(h:t<24*n*n):eE n t<12*n*n:=by
 unfold eE
 cases hl:isL n t with
 | true=>exact nD hn h hl
 | false=>exact nD hn (nA hn h) (by rw[iZ hn h,hl];rfl)
end
section
open Go.RowKit
theorem hid{p:Prop}(h:p):Hid p:=h
theorem eC(w:World)(A B C:Obj):(((w.alloc A).alloc B).alloc C).heap[w.heap.size+2]? =some C:=by
 have h:=heap_alloc_new ((w.alloc A).alloc B) C
 have e:((w.alloc A).alloc B).heap.size=w.heap.size+2:=by
  show((w.heap.push A).push B).size=_
  simp
 rwa [e]at h
theorem bl1(w:World)(A:Obj):Below w.heap.size w (w.alloc A):=(Below.refl _ _).alloc (Nat.le_refl _) _
theorem bl2(w:World)(A B:Obj):Below w.heap.size w ((w.alloc A).alloc B):=(bl1 w A).alloc (by simp) _
theorem bl3(w:World)(A B C:Obj):Below w.heap.size w (((w.alloc A).alloc B).alloc C):=(bl2 w A B).alloc (by simp;omega) _
def Ab(W w:World):Prop:=Below W.heap.size W w
theorem Ab.refl(W:World):Ab W W:=Below.refl _ _
theorem Ab.size{W w:World}(h:Ab W w):W.heap.size<=w.heap.size:=Below.size h
theorem Ab.drew{W w:World}(h:Ab W w):Ab W w.drew:=Below.drew h
theorem Ab.alloc{W w:World}(h:Ab W w)(o:Obj):Ab W (w.alloc o):=Below.alloc h h.size o
theorem Ab.call{W u w:World}(h:Ab W u)(b:Below u.heap.size u w):Ab W w:=h.trans (b.mono h.size)
theorem Ab.set{W w:World}(h:Ab W w){p:Addr}(hp:W.heap.size<=p.block)(u:Value):Ab W (w.setCell p u):=Below.setCell h hp u
theorem Ab.heap{W w:World}(h:Ab W w){g:Nat}{o:Obj}(hg:W.heap[g]? =some o):w.heap[g]? =some o:=by
 have hlt:g<W.heap.size:=by
  rcases Nat.lt_or_ge g W.heap.size with h1 | h1
  ·exact h1
  ·rw[Array.getElem?_eq_none h1]at hg;cases hg
 exact(Below.block h g hlt).trans hg
theorem aC{w:World}{g:Nat}{cs:Array Value}{T:TypeId}(h:w.heap[g]? =some (.cells cs T (0,0)))(k:Nat):w.frozen? ⟨g,k,none⟩=false:=by
 simp[World.frozen?,h]
theorem qW(w:World)(o:Obj)(k:Nat)(h:k=w.heap.size):(w.alloc o).heap[k]? =some o:=by
 rw[h];exact heap_alloc_new w o
theorem kS(w:World)(k:Nat):w.drew.heap[k]? =w.heap[k]? :=rfl
theorem Ab.trans{a b c:World}(h:Ab a b)(k:Ab b c):Ab a c:=h.call k
def Abx(W:World)(g n:Nat)(T:TypeId)(w:World):Prop:=
 (w.os=W.os/\w.tape=W.tape/\w.output=W.output/\W.heap.size<=w.heap.size/\ ∀k,k<W.heap.size->k≠g->w.heap[k]? =W.heap[k]?)/\ ∃cs:Array Value,cs.size=n/\w.heap[g]? =some (.cells cs T)
def rv(w:World)(g k:Nat):Value:=(w.cell? ⟨g,k,none⟩).getD (.bool false)
theorem Ab.x{W w:World}(h:Ab W w){g n:Nat}{T:TypeId}{cs:Array Value}(hn:cs.size=n)(hg:W.heap[g]? =some (.cells cs T)):Abx W g n T w:=
 ⟨⟨Below.os h,Below.tape h,Below.output h,Below.size h,fun k hk _=>Below.block h k hk⟩,cs,hn,h.heap hg⟩
theorem Abx.drew{W w:World}{g n:Nat}{T:TypeId}(h:Abx W g n T w):Abx W g n T w.drew:=h
theorem Abx.alloc{W w:World}{g n:Nat}{T:TypeId}(h:Abx W g n T w)(o:Obj):Abx W g n T (w.alloc o):=by
 obtain⟨⟨h1,h2,h3,h4,h5⟩,cs,h6,h7⟩:=h
 refine⟨⟨h1,h2,h3,by simp;omega,fun k hk hne=>(Below.heap_alloc _ _ _ (by omega)).trans (h5 k hk hne)⟩,cs,h6,(Below.heap_alloc _ _ _ (lt_of_block h7)).trans h7⟩
theorem Abx.call{W u w:World}{g n:Nat}{T:TypeId}(h:Abx W g n T u)(b:Below u.heap.size u w):Abx W g n T w:=by
 obtain⟨⟨h1,h2,h3,h4,h5⟩,cs,h6,h7⟩:=h
 exact⟨⟨b.os.trans h1,b.tape.trans h2,b.output.trans h3,Nat.le_trans h4 b.size,fun k hk hne=>(b.block k (by omega)).trans (h5 k hk hne)⟩,cs,h6,(b.block g (lt_of_block h7)).trans h7⟩
theorem aN{w:World}{g k:Nat}{cs:Array Value}{v:Value}{T:TypeId}(h:w.heap[g]? =some (.cells cs T)):(w.setCell ⟨g,k,none⟩ v).heap[g]? =some (.cells (cs.setIfInBounds k v) T):=by
 show(w.heap.modify g _)[g]? =_
 rw[Array.getElem?_modify,if_pos rfl,h]
 rfl
theorem Abx.set{W w:World}{g n:Nat}{T:TypeId}(h:Abx W g n T w)(k:Nat)(v:Value):Abx W g n T (w.setCell ⟨g,k,none⟩ v):=by
 obtain⟨⟨h1,h2,h3,h4,h5⟩,cs,h6,h7⟩:=h
 refine⟨⟨h1,h2,h3,by simpa [World.setCell]using h4,fun i hi hne=>(Below.heap_setCell _ _ _ _ hne).trans (h5 i hi hne)⟩,cs.setIfInBounds k v,by simpa using h6,aN h7⟩
theorem Abx.heap{W w:World}{g n:Nat}{T:TypeId}(h:Abx W g n T w){k:Nat}{o:Obj}(hne:k≠g)(hk:W.heap[k]? =some o):w.heap[k]? =some o:=by
 have hlt:k<W.heap.size:=by
  rcases Nat.lt_or_ge k W.heap.size with h1 | h1
  ·exact h1
  ·rw[Array.getElem?_eq_none h1]at hk;cases hk
 exact(h.1.2.2.2.2 k hlt hne).trans hk
theorem Abx.free{W w:World}{g n:Nat}{T:TypeId}(h:Abx W g n T w)(k:Nat):w.frozen? ⟨g,k,none⟩=false:=by
 obtain⟨_,cs,_,h7⟩:=h
 exact aC h7 k
theorem Abx.some{W w:World}{g n:Nat}{T:TypeId}(h:Abx W g n T w){k:Nat}(hk:k<n):w.cell? ⟨g,k,none⟩=some (rv w g k):=by
 obtain⟨_,cs,h6,h7⟩:=h
 have e:=cell_of_row w g k cs T (0,0) h7
 rw[Array.getElem?_eq_getElem (by omega)]at e
 unfold rv
 rw[e]
 rfl
theorem Abx.ab{w0 W w:World}{g n:Nat}{T:TypeId}(h:Abx W g n T w)(a:Ab w0 W)(hg:w0.heap.size<=g):Ab w0 w:=by
 obtain⟨⟨h1,h2,h3,h4,h5⟩,_⟩:=h
 exact⟨h1.trans a.os,h2.trans a.tape,h3.trans a.output,Nat.le_trans (Below.size a) h4,fun k hk=>(h5 k (Nat.lt_of_lt_of_le hk (Below.size a)) (by omega)).trans (a.block k hk)⟩
theorem set3{W w:World}{g:Nat}{x y z:Value}{T:TypeId}(h:Abx W g 3 T w):
  (((w.setCell ⟨g,0,none⟩ x).setCell ⟨g,1,none⟩ y).setCell ⟨g,2,none⟩ z).heap[g]? =some (.cells #[x,y,z] T):=by
 obtain⟨_,cs,h6,h⟩:=h
 obtain⟨a,b,c,rfl⟩: ∃a b c,cs= #[a,b,c]:=by
  rcases cs with⟨l⟩
  match l,h6 with
  | [a,b,c],_=>exact⟨a,b,c,rfl⟩
 have h1:=aN (v:=x) (k:=0) h
 have h2:=aN (v:=y) (k:=1) h1
 have h3:=aN (v:=z) (k:=2) h2
 simpa using h3
theorem Ab.setk{W w:World}(h:Ab W w){g k:Nat}(hp:W.heap.size<=g)(u:Value):Ab W (w.setCell ⟨g,k,none⟩ u):=Below.setCell h hp u
theorem Ab.drewN{W w:World}(h:Ab W w)(k:Nat):Ab W (w.drewN k):=by
 induction k with
 | zero=>exact h
 | succ k ih=>exact ih.drew
theorem newrow{u w1:World}{c:Array Value}{T:TypeId}(b:Below (u.alloc (.cells c T)).drew.heap.size (u.alloc (.cells c T)).drew w1):w1.heap[u.heap.size]? =some (.cells c T):=
 (b.block _ (by show u.heap.size<(u.alloc _).heap.size;simp)).trans (heap_alloc_new u _)
theorem newrow'{u w1:World}{c:Array Value}{T:TypeId}(b:Below (u.alloc (.cells c T)).heap.size (u.alloc (.cells c T)) w1):w1.heap[u.heap.size]? =some (.cells c T):=
 (b.block _ (by simp)).trans (heap_alloc_new u _)
theorem rowfacts{w:World}{g:Nat}{x y z:Value}{T:TypeId}(r:w.heap[g]? =some (.cells #[x,y,z] T)):(w.frozen? ⟨g,0,none⟩=false/\w.frozen? ⟨g,1,none⟩=false/\w.frozen? ⟨g,2,none⟩=false)/\w.cell? ⟨g,0,none⟩=some x/\w.cell? ⟨g,1,none⟩=some y/\w.cell? ⟨g,2,none⟩=some z:=
 ⟨⟨aC r 0,aC r 1,aC r 2⟩,cell_of_row _ _ 0 _ _ _ r,cell_of_row _ _ 1 _ _ _ r,cell_of_row _ _ 2 _ _ _ r⟩
theorem jA{w:World}{g:Nat}{a b c x y z:Value}{T:TypeId}(h:w.heap[g]? =some (.cells #[a,b,c] T)):
  (((w.setCell ⟨g,0,none⟩ x).setCell ⟨g,1,none⟩ y).setCell ⟨g,2,none⟩ z).heap[g]? =some (.cells #[x,y,z] T):=by
 have h1:=aN (v:=x) (k:=0) h
 have h2:=aN (v:=y) (k:=1) h1
 have h3:=aN (v:=z) (k:=2) h2
 simpa using h3
theorem aA{w:World}{g:Nat}{cs:Array Value}{t:TypeId}{r:Nat × Nat}(j:Nat)(h:w.heap[g]? =some (.cells cs t r)):w.cell? ⟨g,j,none⟩=cs[j]? :=cell_of_row _ _ _ _ _ _ h
theorem aE{w:World}{g:Nat}{a b c d e f:Value}{t:TypeId}{r:Nat × Nat}(h:w.heap[g]? =some (.cells #[a,b,c,d,e,f] t r)):w.cell? ⟨g,0,none⟩=some a/\w.cell? ⟨g,1,none⟩=some b/\w.cell? ⟨g,2,none⟩=some c/\w.cell? ⟨g,3,none⟩=some d/\w.cell? ⟨g,4,none⟩=some e/\w.cell? ⟨g,5,none⟩=some f:=⟨aA 0 h,aA 1 h,aA 2 h,aA 3 h,aA 4 h,aA 5 h⟩
theorem cells_seven{w:World}{g:Nat}{a b c d e f k:Value}{t:TypeId}{r:Nat × Nat}(h:w.heap[g]? =some (.cells #[a,b,c,d,e,f,k] t r)):w.cell? ⟨g,0,none⟩=some a/\w.cell? ⟨g,1,none⟩=some b/\w.cell? ⟨g,2,none⟩=some c/\w.cell? ⟨g,3,none⟩=some d/\w.cell? ⟨g,4,none⟩=some e/\w.cell? ⟨g,5,none⟩=some f/\w.cell? ⟨g,6,none⟩=some k:=⟨aA 0 h,aA 1 h,aA 2 h,aA 3 h,aA 4 h,aA 5 h,aA 6 h⟩
theorem jB{w:World}{g:Nat}{cs:Array Value}{T:TypeId}(h:w.heap[g]? =some (.cells cs T (0,0))):w.frozen? ⟨g,0,none⟩=false/\w.frozen? ⟨g,1,none⟩=false/\w.frozen? ⟨g,2,none⟩=false/\w.frozen? ⟨g,3,none⟩=false/\w.frozen? ⟨g,4,none⟩=false/\w.frozen? ⟨g,5,none⟩=false:=⟨aC h 0,aC h 1,aC h 2,aC h 3,aC h 4,aC h 5⟩
theorem bG{w v:World}(h:Below w.heap.size w v):Hid (Ab w v):=h
theorem aH(w:World)(X:Obj):Hid (Ab w (w.alloc X))/\Hid ((w.alloc X).heap[w.heap.size]? =some X):=⟨bl1 _ _,heap_alloc_new _ _⟩
theorem box_two(w:World)(X Y:Obj):Hid (Ab w ((w.alloc X).alloc Y))/\Hid (((w.alloc X).alloc Y).heap[w.heap.size]? =some X)/\Hid (((w.alloc X).alloc Y).heap[w.heap.size+1]? =some Y):=⟨bl2 _ _ _,heap_alloc2_old _ _ _,heap_alloc2_new _ _ _⟩
theorem aB{α:Type}(x:α): ∃g,x=g:=⟨_,rfl⟩
end
section
open Go.RowKit Go.Maps
def W64(a:Int):Prop:= -9223372036854775808<=a/\a<=9223372036854775807
theorem W64.wf{a:Int}(h:W64 a):(Lit.int .i64 a).wf=true:=by
 unfold W64 at h
 exact WalkArith.wf_i64 (by omega)
theorem laidOut9:laidOutB prog=true:=by kernel_rfl
theorem lawSpot:Keyed prog 96:=
 Keyed.of_law (deep_law_laid laidOut9 (m:=2) (by omega) (of_decide_eq_true (by kernel_rfl)) (by kernel_rfl) (by kernel_rfl))
def spL(c s:Int):Lit:=.string (keyBytes [.int .i64 c,.int .i64 s])
theorem eD{c s:Int}(hc:W64 c)(hs:W64 s):keyOf prog 96 (.agg #[.int .i64 c,.int .i64 s])=some (spL c s):=by
 have hf:(Value.agg #[.int .i64 c,.int .i64 s]).formed prog 96=true:=by
  have:Tryz.prog.cellsOf 96=2:=by kernel_rfl
  simp[Value.formed,underlying96,this]
 have hk:Tryz.prog.keyType 96=true:=by kernel_rfl
 have hl:Tryz.prog.keyLits (Tryz.prog.types.size+1) 96 [.int .i64 c,.int .i64 s]=some [.int .i64 c,.int .i64 s]:=by
  have hts: ∃m,Tryz.prog.types.size+1=m+1+1:=⟨Tryz.prog.types.size - 1,by have:1<=Tryz.prog.types.size:=of_decide_eq_true (by kernel_rfl);omega⟩
  obtain⟨m,hm⟩:=hts
  have k2:Tryz.prog.cellsOf 96=2:=by kernel_rfl
  have k1:Tryz.prog.cellsOf 3=1:=by kernel_rfl
  rw[hm]
  simp[Program.keyLits,underlying96,underlying3,k1,k2,hc.wf,hs.wf]
 unfold keyOf
 rw[underlying96]
 simp only[hf,hk,Bool.and_self,if_true]
 rw[show(Value.agg #[.int .i64 c,.int .i64 s]).cells.toList=[.int .i64 c,.int .i64 s]from rfl,hl]
 rfl
def Rpair:List Value->Option (DataW Unit × List MemPlace)
 | [.int k a,.int k' b]=>if k=.i64/\k'=.i64 then some (.agg [.lit (.int .i64 a),.lit (.int .i64 b)],[])else none
 | _=>none
def Rend:Value->Option (DataW Unit × List MemPlace)
 | .agg cs=>Rpair cs.toList
 | _=>none
theorem qX(a b:Int):Rend (.agg #[.int .i64 a,.int .i64 b])=some (.agg [.lit (.int .i64 a),.lit (.int .i64 b)],[]):=rfl
theorem sB{l:List Value}{a b:Int}{ps:List MemPlace}(h:Rpair l=some (.agg [.lit (.int .i64 a),.lit (.int .i64 b)],ps)):l=[.int .i64 a,.int .i64 b]:=by
 unfold Rpair at h
 split at h
 ·split at h
  ·rename_i hk
   simp at h
   obtain⟨⟨rfl,rfl⟩,rfl⟩:=h
   rw[hk.1,hk.2]
  ·cases h
 ·cases h
theorem Rend_inv{v:Value}{a b:Int}{ps:List MemPlace}(h:Rend v=some (.agg [.lit (.int .i64 a),.lit (.int .i64 b)],ps)):v=.agg #[.int .i64 a,.int .i64 b]:=by
 unfold Rend at h
 split at h
 ·rename_i cs
  have e:=sB h
  rcases cs with⟨l⟩
  simp at e
  rw[e]
 ·cases h
theorem zeroEnd(w:World):(zeroValue 94).run prog w=.ok (.agg #[.int .i64 0,.int .i64 0]) w:=by kernel_rfl
def MapIs(w:World)(b m:Nat)(g:Int->Int->Int × Int):Prop:=
 ∃D:DataW Unit,w.ownsMap prog 96 Rend b m D/\IsMap D/\ ∀c s,W64 c->W64 s->D.atKey (spL c s) (.agg [.lit (.int .i64 0),.lit (.int .i64 0)])=.agg [.lit (.int .i64 (g c s).1),.lit (.int .i64 (g c s).2)]
theorem MapIs.made(w:World):MapIs (w.alloc (.map #[] 0)) w.heap.size 0 (fun _ _=>(0,0)):=
 ⟨.map [],World.ownsMap_made _ _ _ _,isMap_empty,fun _ _ _ _=>rfl⟩
theorem MapIs.lt{w:World}{b m:Nat}{g:Int->Int->Int × Int}(h:MapIs w b m g):b<w.heap.size:=by
 obtain⟨_,h,_⟩:=h
 exact h.lt
theorem MapIs.block{w w':World}{b m:Nat}{g:Int->Int->Int × Int}(h:MapIs w b m g)(e:w'.heap[b]? =w.heap[b]?):MapIs w' b m g:=by
 obtain⟨D,⟨es,clock,hb,F,hs,hD⟩,h2,h3⟩:=h
 exact⟨D,⟨es,clock,e.trans hb,F,hs,hD⟩,h2,h3⟩
theorem MapIs.congr{w:World}{b m:Nat}{g g':Int->Int->Int × Int}(h:MapIs w b m g)(e: ∀c s,W64 c->W64 s->g c s=g' c s):MapIs w b m g':=by
 obtain⟨D,h1,h2,h3⟩:=h
 exact⟨D,h1,h2,fun c s hc hs=>by rw[<- e c s hc hs];exact h3 c s hc hs⟩
theorem MapIs.mono{w:World}{b m m':Nat}{g:Int->Int->Int × Int}(h:MapIs w b m g)(e:m<=m'):MapIs w b m' g:=by
 obtain⟨D,h1,h2,h3⟩:=h
 exact⟨D,h1.mono e,h2,h3⟩
theorem MapIs.look{w:World}{b m:Nat}{g:Int->Int->Int × Int}(h:MapIs w b m g){c s:Int}(hc:W64 c)(hs:W64 s):
  (Instr.lookup 61 (.map (some b)) (.agg #[.int .i64 c,.int .i64 s]) false).run prog w=.ok (.agg #[.int .i64 (g c s).1,.int .i64 (g c s).2]) w:=by
 obtain⟨D,h1,h2,h3⟩:=h
 obtain⟨v,ps,hrun,hR⟩:=h1.lookup lawSpot underlying61 (zeroEnd w) (qX 0 0) (eD hc hs)
 rw[h3 c s hc hs]at hR
 rw[<- Rend_inv hR]
 exact hrun
theorem spL_inj{c s c' s':Int}(hc:W64 c)(hs:W64 s)(hc':W64 c')(hs':W64 s')(h:spL c s=spL c' s'):c=c'/\s=s':=by
 have k:=lawSpot.inj (eD hc hs) (by rw[h];exact eD hc' hs')
 simpa using k
theorem MapIs.upd{w:World}{b m:Nat}{g:Int->Int->Int × Int}(h:MapIs w b m g)(hm:m<1000000){c s x y:Int}(hc:W64 c)(hs:W64 s):
  ∃w',(Instr.mapUpdate 61 (.map (some b)) (.agg #[.int .i64 c,.int .i64 s]) (.agg #[.int .i64 x,.int .i64 y])).run prog w=.ok () w'/\MapIs w' b (m+1) (fun c' s'=>if c'=c/\s'=s then(x,y)else g c' s')/\w.grownBy w' (some b):=by
 obtain⟨D,h1,h2,h3⟩:=h
 obtain⟨w',hrun,o1,o2⟩:=h1.update lawSpot underlying61 (by unfold maxLen;omega) (eD hc hs) (qX x y)
 refine⟨w',hrun,⟨_,o1,h2.put _ _,fun c' s' hc' hs'=> ?_⟩,o2⟩
 by_cases e:c'=c/\s'=s
 ·obtain⟨rfl,rfl⟩:=e
  rw[atKey_put_same h2 (lawSpot.key (eD hc hs))]
  simp
 ·rw[atKey_put_other (fun k=>e (spL_inj hc' hs' hc hs k)),h3 c' s' hc' hs']
  simp only[if_neg e]
end
section
open Go.RowKit Cu
def edV(n t:Nat):List Value:=[.int .i64 (t/4:Nat),.int .i64 (t%4:Nat),.int .i64 (bsC n (t/4) (t%4):Nat),.int .i64 (bsS n (t/4) (t%4):Nat)]
def edL(n:Nat):Nat->List Value
 | 0=>[]
 | t+1=>edL n t++(if isL n t then edV n t else [])
theorem fJ{n t:Nat}(h:isL n t=true):edL n (t+1)=edL n t++edV n t:=by simp[edL,h]
theorem jC{n t:Nat}(h:isL n t=false):edL n (t+1)=edL n t:=by simp[edL,h]
theorem lU(n T:Nat):(edL n T).length=eN n T*4:=by
 induction T with
 | zero=>rfl
 | succ T ih=>
  cases h:isL n T with
  | true=>rw[fJ h,iM h,List.length_append,ih];simp[edV];omega
  | false=>rw[jC h,lS h,ih]
theorem edL_at{n t T j:Nat}(h:t<T)(hl:isL n t=true)(hj:j<4):(edL n T)[eN n t*4+j]? =(edV n t)[j]? :=by
 induction T with
 | zero=>omega
 | succ T ih=>
  rcases Nat.lt_or_ge t T with h1 | h1
  ·have h2:=ih h1
   have h3:eN n t*4+j<(edL n T).length:=by
    have:=eN_lt hl h1
    rw[lU];omega
   cases k:isL n T with
   | true=>rw[fJ k,List.getElem?_append_left h3];exact h2
   | false=>rw[jC k];exact h2
  ·obtain rfl:t=T:=by omega
   rw[fJ hl,List.getElem?_append_right (by rw[lU];omega),lU]
   congr 1
   omega
def gN(n T t:Nat):Int × Int:=if isL n t then(if t<T then((eN n t:Nat),1)else(0,0))else(if mt n t<T then((eN n (mt n t):Nat),-1)else(0,0))
def gT(n T:Nat)(c s:Int):Int × Int:=if 0<=c/\c<(6*n*n:Nat)/\0<=s/\s<4 then gN n T (4*c.toNat+s.toNat)else(0,0)
theorem gT_zero(n:Nat)(c s:Int):gT n 0 c s=(0,0):=by
 unfold gT gN
 split<;>simp
theorem jD(n T c s:Nat):gT n T c s=if c<6*n*n/\s<4 then gN n T (4*c+s)else(0,0):=by
 unfold gT
 by_cases h:c<6*n*n/\s<4
 ·rw[if_pos h,if_pos (by omega)];simp
 ·rw[if_neg h,if_neg (by omega)]
theorem lV(n T:Nat){c s:Int}(h: ¬(0<=c/\c<(6*n*n:Nat)/\0<=s/\s<4)):gT n T c s=(0,0):=by
 unfold gT;rw[if_neg h]
theorem gT_stay{n T:Nat}(hn:1<=n)(h:isL n T=false)(c s:Int):gT n T c s=gT n (T+1) c s:=by
 by_cases hr:0<=c/\c<(6*n*n:Nat)/\0<=s/\s<4
 ·obtain⟨c,rfl⟩:=Int.eq_ofNat_of_zero_le hr.1
  obtain⟨s,rfl⟩:=Int.eq_ofNat_of_zero_le hr.2.2.1
  have hc:c<6*n*n:=by omega
  have hs:s<4:=by omega
  rw[jD,jD,if_pos ⟨hc,hs⟩,if_pos ⟨hc,hs⟩]
  have ht:=t_lt hc hs
  generalize 4*c+s=t at*
  unfold gN
  cases hl:isL n t with
  | true=>
   have:t≠T:=fun e=>by rw[e,h]at hl;cases hl
   by_cases k:t<T
   ·simp[k,show t<T+1 by omega]
   ·simp[k,show¬t<T+1 by omega]
  | false=>
   have:mt n t≠T:=fun e=>by
    have:=iZ hn ht
    rw[e,h,hl]at this
    cases this
   by_cases k:mt n t<T
   ·simp[k,show mt n t<T+1 by omega]
   ·simp[k,show¬mt n t<T+1 by omega]
 ·rw[lV _ _ hr,lV _ _ hr]
theorem gT_step{n T:Nat}(hn:1<=n)(hT:T<24*n*n)(h:isL n T=true)(c s:Int):
  (if c=(bsC n (T/4) (T%4):Nat)/\s=(bsS n (T/4) (T%4):Nat)then(((eN n T:Nat):Int),-1)else if c=(T/4:Nat)/\s=(T%4:Nat)then(((eN n T:Nat):Int),1)else gT n T c s)=gT n (T+1) c s:=by
 obtain⟨b1,b2⟩:=kR hn (cT hT) (s:=T%4) (by omega)
 have hT4:=cT hT
 by_cases hr:0<=c/\c<(6*n*n:Nat)/\0<=s/\s<4
 ·obtain⟨c,rfl⟩:=Int.eq_ofNat_of_zero_le hr.1
  obtain⟨s,rfl⟩:=Int.eq_ofNat_of_zero_le hr.2.2.1
  have hc:c<6*n*n:=by omega
  have hs:s<4:=by omega
  have g1:gT n T c s=gN n T (4*c+s):=by rw[jD,if_pos ⟨hc,hs⟩]
  have g2:gT n (T+1) c s=gN n (T+1) (4*c+s):=by rw[jD,if_pos ⟨hc,hs⟩]
  rw[g1,g2]
  clear g1 g2
  have ht:=t_lt hc hs
  have e1:((c:Int)=(bsC n (T/4) (T%4):Nat)/\(s:Int)=(bsS n (T/4) (T%4):Nat)) ↔ 4*c+s=mt n T:=by
   unfold mt;omega
  have e2:((c:Int)=(T/4:Nat)/\(s:Int)=(T%4:Nat)) ↔ 4*c+s=T:=by omega
  simp only[e1,e2]
  generalize 4*c+s=t at*
  have hm:=iZ hn hT
  have hmm:=nC hn hT
  by_cases k1:t=mt n T
  ·rw[if_pos k1,k1]
   unfold gN
   rw[hm,h,hmm]
   simp
  ·rw[if_neg k1]
   by_cases k2:t=T
   ·rw[if_pos k2,k2]
    unfold gN
    rw[h]
    simp
   ·rw[if_neg k2]
    unfold gN
    cases hl:isL n t with
    | true=>
     by_cases k:t<T
     ·simp[k,show t<T+1 by omega]
     ·simp[k,show¬t<T+1 by omega]
    | false=>
     have:mt n t≠T:=fun e=>k1 (by rw[<- e,nC hn ht])
     by_cases k:mt n t<T
     ·simp[k,show mt n t<T+1 by omega]
     ·simp[k,show¬mt n t<T+1 by omega]
 ·rw[lV _ _ hr,lV _ _ hr,if_neg (by omega),if_neg (by omega)]
theorem gT_end{n c s:Nat}(hn:1<=n)(hc:c<6*n*n)(hs:s<4):gT n (24*n*n) c s=(((eE n (4*c+s):Nat):Int),eS n (4*c+s)):=by
 rw[jD,if_pos ⟨hc,hs⟩]
 have ht:=t_lt hc hs
 generalize 4*c+s=t at*
 have hm:=nA hn ht
 unfold gN eE eS
 cases hl:isL n t<;>simp[ht,hm]
end
section
open Go.RowKit Cu
def Sm(p:P3):Prop:=(-10000<=p.1/\p.1<=10000)/\(-10000<=p.2.1/\p.2.1<=10000)/\(-10000<=p.2.2/\p.2.2<=10000)
def Un(p:P3):Prop:=(-1<=p.1/\p.1<=1)/\(-1<=p.2.1/\p.2.1<=1)/\(-1<=p.2.2/\p.2.2<=1)
theorem cG{a x:Int}(h: -1<=a/\a<=1)(m:Int)(k: -m<=x/\x<=m):(-m<=x*a/\x*a<=m)/\(-m<=a*x/\a*x<=m):=by
 rcases(show a= -1\/a=0\/a=1 by omega)with rfl | rfl | rfl<;>omega
theorem Un.sm{p:P3}(h:Un p):Sm p:=by unfold Un at h;unfold Sm;omega
theorem iA{p:P3}{k:Int}(h:Un p)(hk: -10000<=k/\k<=10000):Sm (sc k p):=
 ⟨(cG h.1 10000 hk).1,(cG h.2.1 10000 hk).1,(cG h.2.2 10000 hk).1⟩
theorem qY(p q:P3)(w:World)(hp:Sm p)(hq:Sm q):
  Calls prog 78 #[.agg #[.int .i64 p.1,.int .i64 p.2.1,.int .i64 p.2.2],.agg #[.int .i64 q.1,.int .i64 q.2.1,.int .i64 q.2.2]] w fun e w'=>e=.returned (.agg #[.int .i64 (pl p q).1,.int .i64 (pl p q).2.1,.int .i64 (pl p q).2.2])/\w'=(((w.alloc (.cells #[.int .i64 p.1,.int .i64 p.2.1,.int .i64 p.2.2] 109)).alloc (.cells #[.int .i64 q.1,.int .i64 q.2.1,.int .i64 q.2.2] 109)).alloc (.cells #[.int .i64 (pl p q).1,.int .i64 (pl p q).2.1,.int .i64 (pl p q).2.2] 109)):=by
 obtain⟨x,y,z⟩:=p
 obtain⟨a,b,c⟩:=q
 obtain⟨hx,hy,hz⟩:=hp
 obtain⟨ha,hb,hc⟩:=hq
 simp only[pl]at*
 go_enter func78,ntmps78
 go_wp2
 refine bodyPost_ret ?_ rfl ⟨rfl,rfl⟩
 exact results_cell_row results78 _ _ (w.heap.size+2) _ _ (0,0) _ rfl (eC _ _ _ _) underlying109 rfl (by kernel_rfl)
theorem lW(p q:P3)(w:World)(hp:Sm p)(hq:Sm q):
  Calls prog 78 #[.agg #[.int .i64 p.1,.int .i64 p.2.1,.int .i64 p.2.2],.agg #[.int .i64 q.1,.int .i64 q.2.1,.int .i64 q.2.2]] w fun e w'=>e=.returned (.agg #[.int .i64 (pl p q).1,.int .i64 (pl p q).2.1,.int .i64 (pl p q).2.2])/\Below w.heap.size w w':=
 (qY p q w hp hq).mono fun _ _ ⟨he,hw⟩=>⟨he,hw ▸ bl3 _ _ _ _⟩
theorem dG(p:P3)(k:Int)(w:World)(hr:Sm (sc k p)):
  Calls prog 79 #[.agg #[.int .i64 p.1,.int .i64 p.2.1,.int .i64 p.2.2],.int .i64 k] w fun e w'=>e=.returned (.agg #[.int .i64 (sc k p).1,.int .i64 (sc k p).2.1,.int .i64 (sc k p).2.2])/\w'=((w.alloc (.cells #[.int .i64 p.1,.int .i64 p.2.1,.int .i64 p.2.2] 109)).alloc (.cells #[.int .i64 (sc k p).1,.int .i64 (sc k p).2.1,.int .i64 (sc k p).2.2] 109)):=by
 obtain⟨x,y,z⟩:=p
 obtain⟨hx,hy,hz⟩:=hr
 simp only[sc]at*
 go_enter func79,ntmps79
 go_wp2
 refine bodyPost_ret ?_ rfl ⟨rfl,rfl⟩
 exact results_cell_row results79 _ _ (w.heap.size+1) _ _ (0,0) _ rfl (heap_alloc2_new _ _ _) underlying109 rfl (by kernel_rfl)
theorem nF(p:P3)(k:Int)(w:World)(hr:Sm (sc k p)):
  Calls prog 79 #[.agg #[.int .i64 p.1,.int .i64 p.2.1,.int .i64 p.2.2],.int .i64 k] w fun e w'=>e=.returned (.agg #[.int .i64 (sc k p).1,.int .i64 (sc k p).2.1,.int .i64 (sc k p).2.2])/\Below w.heap.size w w':=
 (dG p k w hr).mono fun _ _ ⟨he,hw⟩=>⟨he,hw ▸ bl2 _ _ _⟩
theorem along_ex(p q:P3)(w:World)(hp:Sm p)(hq:Un q):
  Calls prog 80 #[.agg #[.int .i64 p.1,.int .i64 p.2.1,.int .i64 p.2.2],.agg #[.int .i64 q.1,.int .i64 q.2.1,.int .i64 q.2.2]] w fun e w'=>e=.returned (.int .i64 (dt p q))/\w'=((w.alloc (.cells #[.int .i64 p.1,.int .i64 p.2.1,.int .i64 p.2.2] 109)).alloc (.cells #[.int .i64 q.1,.int .i64 q.2.1,.int .i64 q.2.2] 109)):=by
 obtain⟨x,y,z⟩:=p
 obtain⟨a,b,c⟩:=q
 have hx:=(cG hq.1 10000 hp.1).1
 have hy:=(cG hq.2.1 10000 hp.2.1).1
 have hz:=(cG hq.2.2 10000 hp.2.2).1
 clear hp hq
 simp only[dt]at*
 go_enter func80,ntmps80
 go_wp2
 go_ret
 exact⟨rfl,rfl⟩
theorem fK(p q:P3)(w:World)(hp:Sm p)(hq:Un q):
  Calls prog 80 #[.agg #[.int .i64 p.1,.int .i64 p.2.1,.int .i64 p.2.2],.agg #[.int .i64 q.1,.int .i64 q.2.1,.int .i64 q.2.2]] w fun e w'=>e=.returned (.int .i64 (dt p q))/\Below w.heap.size w w':=
 (along_ex p q w hp hq).mono fun _ _ ⟨he,hw⟩=>⟨he,hw ▸ bl2 _ _ _⟩
def inR(k n:Int):Bool:=decide (0<=k)&&decide (k<n)
theorem gM(k n:Int)(w:World):Calls prog 75 #[.int .i64 k,.int .i64 n] w fun e w'=>e=.returned (.bool (inR k n))/\w'=w:=by
 by_cases h1:(0:Int)<=k
 ·have hd:inR k n=decide (k<n):=by simp[inR,h1]
  rw[hd]
  clear hd
  go_enter func75,ntmps75
  go_wp2
  go_ret
  exact⟨rfl,rfl⟩
 ·have hd:inR k n=false:=by simp[inR,h1]
  rw[hd]
  clear hd
  go_enter func75,ntmps75
  go_wp2
  go_ret
  exact⟨rfl,rfl⟩
def clN(side:Int):Int:=if 1<=side/\side<=32 then 6*side*side else 0
theorem sq_le{x:Int}(h1:1<=x)(h2:x<=32):6*x*x<=6144/\1<=6*x*x:=by
 have a:x*x<=32*32:=Int.mul_le_mul h2 h2 (by omega) (by omega)
 have b:1*1<=x*x:=Int.mul_le_mul h1 h1 (by omega) (by omega)
 rw[Int.mul_assoc]
 omega
theorem aZ(side:Int)(w:World):Calls prog 34 #[.int .i64 side] w fun e w'=>e=.returned (.int .i64 (clN side))/\w'=w:=by
 by_cases h1:(1:Int)<=side
 ·by_cases h2:side<=(32:Int)
  ·have hd:clN side=6*side*side:=by simp[clN,h1,h2]
   have hb:=sq_le h1 h2
   rw[hd]
   clear hd
   go_enter func34,ntmps34
   go_wp2
   go_ret
   exact⟨rfl,rfl⟩
  ·have hd:clN side=0:=by simp[clN,h1,h2]
   rw[hd]
   clear hd
   go_enter func34,ntmps34
   go_wp2
   go_ret
   exact⟨rfl,rfl⟩
 ·have hd:clN side=0:=by simp[clN,h1]
  rw[hd]
  clear hd
  go_enter func34,ntmps34
  go_wp2
  go_ret
  exact⟨rfl,rfl⟩
end
section
open Go.RowKit Cu
def cN(side face i j:Int):Int:=if(1<=side/\side<=32)/\inR face 6=true/\inR i side=true/\inR j side=true then(face*side+j)*side+i else -1
theorem cN_le{s f j:Int}(h1:1<=s)(h2:s<=32)(f1:0<=f)(f2:f<6)(j1:0<=j)(j2:j<s):(0<=f*s/\f*s<=192)/\(0<=(f*s+j)*s/\(f*s+j)*s<=7168):=by
 have a:f*s<=6*32:=Int.mul_le_mul (by omega) h2 (by omega) (by omega)
 have b:0<=f*s:=Int.mul_nonneg f1 (by omega)
 have c:(f*s+j)*s<=224*32:=Int.mul_le_mul (by omega) h2 (by omega) (by omega)
 have d:0<=(f*s+j)*s:=Int.mul_nonneg (by omega) (by omega)
 omega
theorem bM{k n:Int}:inR k n=true ↔ 0<=k/\k<n:=by simp[inR]
def pF(side c:Int):Int:=if inR c (clN side)=true then c/side/side else 0
def pI(side c:Int):Int:=if inR c (clN side)=true then c%side else 0
def pJ(side c:Int):Int:=if inR c (clN side)=true then c/side%side else 0
theorem clN_pos{s c:Int}(h:inR c (clN s)=true):(1<=s/\s<=32)/\0<=c/\c<6*s*s/\c<6144:=by
 have h:=bM.1 h
 unfold clN at h
 by_cases k:1<=s/\s<=32
 ·rw[if_pos k]at h
  have:=(sq_le k.1 k.2).1
  omega
 ·rw[if_neg k]at h;omega
theorem qZ(side face i j:Int)(w:World):Calls prog 82 #[.int .i64 side,.int .i64 face,.int .i64 i,.int .i64 j] w fun e w'=>e=.returned (.int .i64 (cN side face i j))/\w'=w:=by
 have C:=hid (fun w=>aZ side w)
 have K:=hid (fun k n w=>gM k n w)
 by_cases h1:1<=side/\side<=32
 ·have hc:clN side=6*side*side:=by simp[clN,h1]
  have hb:=(sq_le h1.1 h1.2).2
  have hs:=h1.1
  rw[hc]at C
  clear hc
  by_cases hf:inR face 6=true
  ·by_cases hi:inR i side=true
   ·by_cases hj:inR j side=true
    ·have hd:cN side face i j=(face*side+j)*side+i:=by simp only[cN];rw[if_pos ⟨h1,hf,hi,hj⟩]
     have hl:=cN_le h1.1 h1.2 (bM.1 hf).1 (bM.1 hf).2 (bM.1 hj).1 (bM.1 hj).2
     have hi2:=bM.1 hi
     have hf2:=bM.1 hf
     have hj2:=bM.1 hj
     rw[hd]
     clear hd
     go_enter func82,ntmps82
     go_wp2_with (first
      | (go_at_call 34;refine(C.out _).mono ?_;rintro e w' ⟨rfl,rfl⟩)
      | (go_at_call 75;refine(K.out _ _ _).mono ?_;rintro e w' ⟨rfl,rfl⟩))
     go_ret
     exact⟨rfl,rfl⟩
    ·have hd:cN side face i j= -1:=by simp only[cN];rw[if_neg (fun h=>hj h.2.2.2)]
     have hj2:inR j side=false:=by simpa using hj
     rw[hd]
     clear hd
     go_enter func82,ntmps82
     go_wp2_with (first
      | (go_at_call 34;refine(C.out _).mono ?_;rintro e w' ⟨rfl,rfl⟩)
      | (go_at_call 75;refine(K.out _ _ _).mono ?_;rintro e w' ⟨rfl,rfl⟩))
     go_ret
     exact⟨rfl,rfl⟩
   ·have hd:cN side face i j= -1:=by simp only[cN];rw[if_neg (fun h=>hi h.2.2.1)]
    have hi2:inR i side=false:=by simpa using hi
    rw[hd]
    clear hd
    go_enter func82,ntmps82
    go_wp2_with (first
     | (go_at_call 34;refine(C.out _).mono ?_;rintro e w' ⟨rfl,rfl⟩)
     | (go_at_call 75;refine(K.out _ _ _).mono ?_;rintro e w' ⟨rfl,rfl⟩))
    go_ret
    exact⟨rfl,rfl⟩
  ·have hd:cN side face i j= -1:=by simp only[cN];rw[if_neg (fun h=>hf h.2.1)]
   have hf2:inR face 6=false:=by simpa using hf
   rw[hd]
   clear hd
   go_enter func82,ntmps82
   go_wp2_with (first
    | (go_at_call 34;refine(C.out _).mono ?_;rintro e w' ⟨rfl,rfl⟩)
    | (go_at_call 75;refine(K.out _ _ _).mono ?_;rintro e w' ⟨rfl,rfl⟩))
   go_ret
   exact⟨rfl,rfl⟩
 ·have hd:cN side face i j= -1:=by simp only[cN];rw[if_neg (fun h=>h1 h.1)]
  have hc:clN side=0:=by simp only[clN];rw[if_neg h1]
  rw[hc]at C
  clear hc
  rw[hd]
  clear hd
  go_enter func82,ntmps82
  go_wp2_with (first
   | (go_at_call 34;refine(C.out _).mono ?_;rintro e w' ⟨rfl,rfl⟩)
   | (go_at_call 75;refine(K.out _ _ _).mono ?_;rintro e w' ⟨rfl,rfl⟩))
  go_ret
  exact⟨rfl,rfl⟩
theorem place_le{s c:Int}(h1:1<=s)(h2:0<=c):(0<=c/s/\c/s<=c)/\(0<=c/s/s/\c/s/s<=c)/\(0<=c%s/\c%s<s)/\(0<=c/s%s/\c/s%s<s):=by
 have a:0<=c/s:=Int.ediv_nonneg h2 (by omega)
 have b:c/s<=c:=Int.ediv_le_self _ h2
 have d:0<=c/s/s:=Int.ediv_nonneg a (by omega)
 have e:c/s/s<=c/s:=Int.ediv_le_self _ a
 have f:=Int.emod_nonneg c (show s≠0 by omega)
 have g:=Int.emod_lt_of_pos c (show 0<s by omega)
 have h:=Int.emod_nonneg (c/s) (show s≠0 by omega)
 have i:=Int.emod_lt_of_pos (c/s) (show 0<s by omega)
 omega
theorem td{a b:Int}(h:0<=a):a.tdiv b=a/b/\a.tmod b=a%b:=by
 exact⟨Int.tdiv_eq_ediv_of_nonneg h,Int.tmod_eq_emod_of_nonneg h⟩
theorem place_at(side c:Int)(w:World):Calls prog 74 #[.int .i64 side,.int .i64 c] w fun e w'=>e=.returned (.tuple #[.int .i64 (pF side c),.int .i64 (pI side c),.int .i64 (pJ side c),.bool (inR c (clN side))])/\ ∃k,w'=w.drewN k:=by
 have C:=hid (fun w=>aZ side w)
 have K:=hid (fun w=>gM c (clN side) w)
 by_cases h1:inR c (clN side)=true
 ·obtain⟨⟨s1,s2⟩,c1,c2,c3⟩:=clN_pos h1
  have hp:=place_le s1 c1
  have e1:=td (b:=side) c1
  have e2:=td (b:=side) hp.1.1
  have E1:Hid (pF side c=(c.tdiv side).tdiv side):=by rw[e1.1,e2.1];simp[pF,h1,Hid]
  have E2:Hid (pI side c=c%side):=by simp[pI,h1,Hid]
  have E3:Hid (pJ side c=c.tdiv side%side):=by rw[e1.1];simp[pJ,h1,Hid]
  have E4:=hid h1
  rw[h1]at K
  have q2:0<=(c.tdiv side).tdiv side/\(c.tdiv side).tdiv side<=6144:=by rw[e1.1,e2.1];omega
  have q1:0<=c.tdiv side/\c.tdiv side<=6144:=by rw[e1.1];omega
  have hs: ¬side=0:=by omega
  clear e1 e2 hp h1 c2
  go_enter func74,ntmps74
  go_wp2_with (first
   | (go_at_call 34;refine(C.out _).mono ?_;rintro e w' ⟨rfl,rfl⟩)
   | (go_at_call 75;refine(K.out _).mono ?_;rintro e w' ⟨rfl,rfl⟩))
  go_quiet (fail)
  go_wp2
  refine bodyPost_ret (v:=.tuple #[.int .i64 ((c.tdiv side).tdiv side),.int .i64 (c%side),.int .i64 (c.tdiv side%side),.bool true]) (by simp[results,results74,go_sem]) rfl ⟨by rw[E1.out,E2.out,E3.out,E4.out],_,rfl⟩
 ·have h2:inR c (clN side)=false:=by simpa using h1
  rw[show pF side c=0 by simp[pF,h1],show pI side c=0 by simp[pI,h1],show pJ side c=0 by simp[pJ,h1],h2]
  rw[h2]at K
  clear h1 h2
  go_enter func74,ntmps74
  go_wp2_with (first
   | (go_at_call 34;refine(C.out _).mono ?_;rintro e w' ⟨rfl,rfl⟩)
   | (go_at_call 75;refine(K.out _).mono ?_;rintro e w' ⟨rfl,rfl⟩))
  refine bodyPost_ret (v:=.tuple #[.int .i64 0,.int .i64 0,.int .i64 0,.bool false]) (by simp[results,results74,go_sem]) rfl ⟨rfl,0,rfl⟩
end
section
open Go.RowKit Cu
def Fr9(w:World)(f:Nat):Prop:=
 (w.cell? ⟨1,f*9,none⟩=some (.int .i64 (cC f).1)/\w.cell? ⟨1,f*9+1,none⟩=some (.int .i64 (cC f).2.1)/\w.cell? ⟨1,f*9+2,none⟩=some (.int .i64 (cC f).2.2))/\
 (w.cell? ⟨1,f*9+3,none⟩=some (.int .i64 (cR f).1)/\w.cell? ⟨1,f*9+4,none⟩=some (.int .i64 (cR f).2.1)/\w.cell? ⟨1,f*9+5,none⟩=some (.int .i64 (cR f).2.2))/\
 (w.cell? ⟨1,f*9+6,none⟩=some (.int .i64 (cU f).1)/\w.cell? ⟨1,f*9+7,none⟩=some (.int .i64 (cU f).2.1)/\w.cell? ⟨1,f*9+8,none⟩=some (.int .i64 (cU f).2.2))
def Fr(w:World):Prop:=1<w.heap.size/\ ∀f,f<6->Fr9 w f
theorem Fr.below{w w':World}{n:Nat}(h:Fr w)(b:Below n w w')(hn:1<n)(hs:1<w'.heap.size):Fr w':=by
 refine⟨hs,fun f hf=> ?_⟩
 have hc: ∀k,w'.cell? ⟨1,k,none⟩=w.cell? ⟨1,k,none⟩:=fun k=>b.cell (by exact hn)
 have:=h.2 f hf
 unfold Fr9 at*
 simp only[hc]
 exact this
theorem Fr.to{w w':World}(h:Fr w)(b:Below w.heap.size w w'):Fr w':=h.below b h.1 (Nat.lt_of_lt_of_le h.1 b.size)
theorem un_tab: ∀f<6,((-1<=(cC f).1/\(cC f).1<=1)/\(-1<=(cC f).2.1/\(cC f).2.1<=1)/\(-1<=(cC f).2.2/\(cC f).2.2<=1)):=by decide+kernel
theorem un_tab2: ∀f<6,((-1<=(cR f).1/\(cR f).1<=1)/\(-1<=(cR f).2.1/\(cR f).2.1<=1)/\(-1<=(cR f).2.2/\(cR f).2.2<=1)):=by decide+kernel
theorem un_tab3: ∀f<6,((-1<=(cU f).1/\(cU f).1<=1)/\(-1<=(cU f).2.1/\(cU f).2.1<=1)/\(-1<=(cU f).2.2/\(cU f).2.2<=1)):=by decide+kernel
theorem un_C{f:Nat}(h:f<6):Un (cC f):=un_tab f h
theorem un_R{f:Nat}(h:f<6):Un (cR f):=un_tab2 f h
theorem un_U{f:Nat}(h:f<6):Un (cU f):=un_tab3 f h
theorem kT{f s:Nat}(h:f<6):Un (wy f s):=by
 have a:=un_R h
 have b:=un_U h
 unfold Un at*
 unfold wy
 split<;>(try simp only[sc])<;>refine⟨⟨?_,?_⟩,⟨?_,?_⟩,?_,?_⟩<;>omega
theorem bl4(w:World)(A B C D:Obj):Below w.heap.size w ((((w.alloc A).alloc B).alloc C).alloc D):=(bl3 w A B C).alloc (by simp;omega) _
theorem rA(w:World)(A B C D:Obj):((((w.alloc A).alloc B).alloc C).alloc D).heap[w.heap.size]? =some A:=by
 rw[Below.heap_alloc _ _ _ (by simp;omega),Below.heap_alloc _ _ _ (by simp;omega)]
 exact heap_alloc2_old _ _ _
theorem way_at(f s:Nat)(w:World)(hf:f<6)(hs:s<4)(h:Fr w):
  Calls prog 76 #[.int .i64 f,.int .i64 s] w fun e w'=>e=.returned (.agg #[.int .i64 (wy f s).1,.int .i64 (wy f s).2.1,.int .i64 (wy f s).2.2])/\Below w.heap.size w w':=by
 obtain⟨⟨k0,k1,k2⟩,⟨k3,k4,k5⟩,⟨k6,k7,k8⟩⟩:=h.2 f hf
 have h0:=h.1
 have hf':(f:Int)<6:=by omega
 have T1:=hid (fun w=>dG (cR f) (-1) w (iA (un_R hf) (by omega)))
 have T2:=hid (fun w=>dG (cU f) (-1) w (iA (un_U hf) (by omega)))
 clear h hf
 rcases four hs with rfl | rfl | rfl | rfl
 ·clear T1 T2 hs
  go_enter func76,ntmps76
  go_wp2
  refine bodyPost_ret ?_ rfl ⟨rfl,bl2 _ _ _⟩
  exact results_cell_row results76 _ _ w.heap.size _ _ (0,0) _ rfl (heap_alloc2_old _ _ _) underlying109 rfl (by kernel_rfl)
 ·clear T1 T2 hs
  go_enter func76,ntmps76
  go_wp2
  refine bodyPost_ret ?_ rfl ⟨rfl,bl2 _ _ _⟩
  exact results_cell_row results76 _ _ w.heap.size _ _ (0,0) _ rfl (heap_alloc2_old _ _ _) underlying109 rfl (by kernel_rfl)
 ·clear T2 hs
  go_enter func76,ntmps76
  go_wp2_with (go_at_call 79;refine(T1.out _).mono ?_;rintro e w1 ⟨rfl,rfl⟩)
  refine bodyPost_ret ?_ rfl ⟨rfl,?_⟩
  ·exact results_cell_row results76 _ _ w.heap.size _ _ (0,0) _ rfl (rA _ _ _ _ _) underlying109 rfl (by kernel_rfl)
  ·exact bl4 _ _ _ _ _
 ·clear T1 hs
  go_enter func76,ntmps76
  go_wp2_with (go_at_call 79;refine(T2.out _).mono ?_;rintro e w1 ⟨rfl,rfl⟩)
  refine bodyPost_ret ?_ rfl ⟨rfl,?_⟩
  ·exact results_cell_row results76 _ _ w.heap.size _ _ (0,0) _ rfl (rA _ _ _ _ _) underlying109 rfl (by kernel_rfl)
  ·exact bl4 _ _ _ _ _
end
section
open Go.RowKit Cu
theorem wr{x:Int}(h: -1000000<=x/\x<=1000000):IntKind.i64.wrap x=x:=by rw[IntKind.wrap_i64];omega
def Pc(w:World)(g o:Nat)(p:P3):Prop:=w.cell? ⟨g,o,none⟩=some (.int .i64 p.1)/\w.cell? ⟨g,o+1,none⟩=some (.int .i64 p.2.1)/\w.cell? ⟨g,o+2,none⟩=some (.int .i64 p.2.2)
theorem Ab.pc{W w:World}(h:Ab W w){g o:Nat}{p:P3}(hg:g<W.heap.size)(k:Pc W g o p):Pc w g o p:=
 ⟨(Below.cell h (by exact hg)).trans k.1,(Below.cell h (by exact hg)).trans k.2.1,(Below.cell h (by exact hg)).trans k.2.2⟩
theorem pc_row{w:World}{g:Nat}{p:P3}{T:TypeId}{fr:Nat × Nat}(h:w.heap[g]? =some (.cells #[.int .i64 p.1,.int .i64 p.2.1,.int .i64 p.2.2] T fr)):Pc w g 0 p:=
 ⟨cell_of_row w g 0 _ _ _ h,cell_of_row w g 1 _ _ _ h,cell_of_row w g 2 _ _ _ h⟩
theorem Abx.pc{W w:World}{g n:Nat}{T:TypeId}(h:Abx W g n T w){k o:Nat}{p:P3}(hne:k≠g)(hg:k<W.heap.size)(q:Pc W k o p):Pc w k o p:=by
 have e: ∀j,w.cell? ⟨k,j,none⟩=W.cell? ⟨k,j,none⟩:=fun j=>World.cell?_of_block (h.1.2.2.2.2 k hg hne)
 unfold Pc at*
 simp only[e]
 exact q
theorem sC(n f i j:Nat)(w:World)(hn:1<=(n:Int)/\(n:Int)<=32)(hf:f<6)(hi:(i:Int)<n)(hj:(j:Int)<n)(h:Fr w):
  Calls prog 77 #[.int .i64 n,.int .i64 f,.int .i64 i,.int .i64 j] w fun e w'=>e=.returned (.agg #[.int .i64 (md n f i j).1,.int .i64 (md n f i j).2.1,.int .i64 (md n f i j).2.2])/\Below w.heap.size w w':=by
 obtain⟨⟨k0,k1,k2⟩,⟨k3,k4,k5⟩,⟨k6,k7,k8⟩⟩:=h.2 f hf
 have h0:=h.1
 have hf':(f:Int)<6:=by omega
 obtain⟨a,ha⟩: ∃a:Int,2*(i:Int)+1 - n=a:=⟨_,rfl⟩
 obtain⟨b,hb⟩: ∃b:Int,2*(j:Int)+1 - n=b:=⟨_,rfl⟩
 have u1:IntKind.i64.wrap (IntKind.i64.wrap (IntKind.i64.wrap (2*(i:Int))+1) - n)=a:=by rw[wr (x:=2*(i:Int)) (by omega),wr (x:=2*(i:Int)+1) (by omega),wr (by omega),ha]
 have u2:IntKind.i64.wrap (IntKind.i64.wrap (IntKind.i64.wrap (2*(j:Int))+1) - n)=b:=by rw[wr (x:=2*(j:Int)) (by omega),wr (x:=2*(j:Int)+1) (by omega),wr (by omega),hb]
 have S1:Sm (sc a (cR f)):=iA (un_R hf) (by omega)
 have S2:Sm (sc b (cU f)):=iA (un_U hf) (by omega)
 have S3:Sm (sc n (cC f)):=iA (un_C hf) (by omega)
 have S4:Sm (pl (sc a (cR f)) (sc b (cU f))):=by
  have x1:=cG (un_R hf).1 32 (show -32<=a/\a<=32 by omega)
  have x2:=cG (un_R hf).2.1 32 (show -32<=a/\a<=32 by omega)
  have x3:=cG (un_R hf).2.2 32 (show -32<=a/\a<=32 by omega)
  have y1:=cG (un_U hf).1 32 (show -32<=b/\b<=32 by omega)
  have y2:=cG (un_U hf).2.1 32 (show -32<=b/\b<=32 by omega)
  have y3:=cG (un_U hf).2.2 32 (show -32<=b/\b<=32 by omega)
  simp only[Sm,pl,sc]
  omega
 have T1:=hid (fun w=>dG (cR f) a w S1)
 have T2:=hid (fun w=>dG (cU f) b w S2)
 have P1:=hid (fun w=>qY (sc a (cR f)) (sc b (cU f)) w S1 S2)
 have T3:=hid (fun w=>nF (cC f) n w S3)
 have P2:=hid (fun w=>lW (sc n (cC f)) (pl (sc a (cR f)) (sc b (cU f))) w S3 S4)
 have E:Hid (md n f i j=pl (sc n (cC f)) (pl (sc a (cR f)) (sc b (cU f)))):=by rw[<- ha,<- hb];exact rfl
 rw[E.out]
 clear h hf S1 S2 S3 S4 ha hb E
 go_enter func77,ntmps77
 go_upto_region 2 with fail
 generalize hW:World.alloc _ _=W
 have z1:Hid (W.heap.size=w.heap.size+2):=by rw[<- hW];simp[Hid]
 have AW:Hid (Ab w W):=by rw[<- hW];exact bl2 _ _ _
 have r8:Hid (W.heap[w.heap.size]? =some (.cells #[.int .i64 0,.int .i64 0,.int .i64 0] 109)):=by rw[<- hW];exact heap_alloc2_old _ _ _
 have r9:W.heap[w.heap.size+1]? =some (.cells #[.int .i64 (cC f).1,.int .i64 (cC f).2.1,.int .i64 (cC f).2.2,.int .i64 (cR f).1,.int .i64 (cR f).2.1,.int .i64 (cR f).2.2,.int .i64 (cU f).1,.int .i64 (cU f).2.1,.int .i64 (cU f).2.2] 116):=by rw[<- hW];exact heap_alloc2_new _ _ _
 have KS:Hid (∀w',Ab W w'->Ab W w'/\w'.cell? ⟨w.heap.size+1,3,none⟩=some (.int .i64 (cR f).1)/\w'.cell? ⟨w.heap.size+1,4,none⟩=some (.int .i64 (cR f).2.1)/\w'.cell? ⟨w.heap.size+1,5,none⟩=some (.int .i64 (cR f).2.2)/\w'.cell? ⟨w.heap.size+1,6,none⟩=some (.int .i64 (cU f).1)/\w'.cell? ⟨w.heap.size+1,7,none⟩=some (.int .i64 (cU f).2.1)/\w'.cell? ⟨w.heap.size+1,8,none⟩=some (.int .i64 (cU f).2.2)):=by
  intro w' hw
  have r:=hw.heap r9
  exact⟨hw,aA 3 r,aA 4 r,aA 5 r,aA 6 r,aA 7 r,aA 8 r⟩
 have KC:Hid (∀w',Ab W w'->Pc w' (w.heap.size+1) 0 (cC f)):=by
  intro w' hw
  have r:=hw.heap r9
  exact⟨aA 0 r,aA 1 r,aA 2 r⟩
 have A0:=Ab.refl W
 clear r9 k0 k1 k2 k3 k4 k5 k6 k7 k8 hW
 go_cut [10]from 14 to 30 (fun s10 wx=> ∃g10,s10=.pointer (some ⟨g10,0,none⟩)/\Ab W wx/\W.heap.size<=g10/\wx.heap[g10]? =some (.cells #[.int .i64 (pl (sc a (cR f)) (sc b (cU f))).1,.int .i64 (pl (sc a (cR f)) (sc b (cU f))).2.1,.int .i64 (pl (sc a (cR f)) (sc b (cU f))).2.2] 109))
 case first=>
  go_region_held3 (fun w'=>Ab W w'/\w'.cell? ⟨w.heap.size+1,3,none⟩=some (.int .i64 (cR f).1)/\w'.cell? ⟨w.heap.size+1,4,none⟩=some (.int .i64 (cR f).2.1)/\w'.cell? ⟨w.heap.size+1,5,none⟩=some (.int .i64 (cR f).2.2)/\w'.cell? ⟨w.heap.size+1,6,none⟩=some (.int .i64 (cU f).1)/\w'.cell? ⟨w.heap.size+1,7,none⟩=some (.int .i64 (cU f).2.1)/\w'.cell? ⟨w.heap.size+1,8,none⟩=some (.int .i64 (cU f).2.2)) ((refine KS.out _ ?_;(with_reducible (repeat(first | assumption | apply Ab.drew | apply Ab.alloc)));done)) (first
   | (go_at_call_of 79 a;refine(T1.out _).mono ?_;rintro e w1 ⟨rfl,rfl⟩)
   | (go_at_call_of 79 b;refine(T2.out _).mono ?_;rintro e w1 ⟨rfl,rfl⟩)
   | (go_at_call 78;refine(P1.out _).mono ?_;rintro e w1 ⟨rfl,rfl⟩))
  all_goals go_wp2_with fail
  all_goals go_meet
  all_goals refine⟨_,rfl,?_,?_,?_⟩
  all_goals first
   | ((with_reducible (repeat(first | assumption | apply Ab.drew | apply Ab.alloc)));done)
   | omega
   | (simp;done)
   | (simp;omega)
   | (rw[kS];(repeat(first | exact qW _ _ _ (by first | (simp;done) | (simp;omega)) | rw[Below.heap_alloc _ _ _ (by first | (simp;done) | (simp;omega))]));done)
   | trace_state
 case rest=>
  obtain⟨g10,rfl,A1,hg10,r10⟩:=hcut
  clear KS T1 T2 P1 u1 u2
  have KS:Hid (∀w',Abx wc w.heap.size 3 109 w'->Abx wc w.heap.size 3 109 w'/\w'.cell? ⟨w.heap.size+1,0,none⟩=some (.int .i64 (cC f).1)/\w'.cell? ⟨w.heap.size+1,1,none⟩=some (.int .i64 (cC f).2.1)/\w'.cell? ⟨w.heap.size+1,2,none⟩=some (.int .i64 (cC f).2.2)/\w'.cell? ⟨g10,0,none⟩=some (.int .i64 (pl (sc a (cR f)) (sc b (cU f))).1)/\w'.cell? ⟨g10,1,none⟩=some (.int .i64 (pl (sc a (cR f)) (sc b (cU f))).2.1)/\w'.cell? ⟨g10,2,none⟩=some (.int .i64 (pl (sc a (cR f)) (sc b (cU f))).2.2)/\w'.frozen? ⟨w.heap.size,0,none⟩=false/\w'.frozen? ⟨w.heap.size,1,none⟩=false/\w'.frozen? ⟨w.heap.size,2,none⟩=false/\w'.cell? ⟨w.heap.size,0,none⟩=some (rv w' w.heap.size 0)/\w'.cell? ⟨w.heap.size,1,none⟩=some (rv w' w.heap.size 1)/\w'.cell? ⟨w.heap.size,2,none⟩=some (rv w' w.heap.size 2)):=by
   intro w' hw
   have hz:=z1.out
   have r1:=hw.heap (by omega) r10
   obtain⟨q1,q2,q3⟩:=hw.pc (by omega) (by have:=A1.size;omega) (KC.out _ A1)
   exact⟨hw,q1,q2,q3,aA 0 r1,aA 1 r1,aA 2 r1,hw.free 0,hw.free 1,hw.free 2,hw.some (by omega),hw.some (by omega),hw.some (by omega)⟩
  have A0':Abx wc w.heap.size 3 109 wc:=(Ab.refl wc).x rfl (A1.heap r8.out)
  clear r10 KC r8
  go_upto_region 3 with fail
  go_region_held3 (fun w'=>Abx wc w.heap.size 3 109 w'/\w'.cell? ⟨w.heap.size+1,0,none⟩=some (.int .i64 (cC f).1)/\w'.cell? ⟨w.heap.size+1,1,none⟩=some (.int .i64 (cC f).2.1)/\w'.cell? ⟨w.heap.size+1,2,none⟩=some (.int .i64 (cC f).2.2)/\w'.cell? ⟨g10,0,none⟩=some (.int .i64 (pl (sc a (cR f)) (sc b (cU f))).1)/\w'.cell? ⟨g10,1,none⟩=some (.int .i64 (pl (sc a (cR f)) (sc b (cU f))).2.1)/\w'.cell? ⟨g10,2,none⟩=some (.int .i64 (pl (sc a (cR f)) (sc b (cU f))).2.2)/\w'.frozen? ⟨w.heap.size,0,none⟩=false/\w'.frozen? ⟨w.heap.size,1,none⟩=false/\w'.frozen? ⟨w.heap.size,2,none⟩=false/\w'.cell? ⟨w.heap.size,0,none⟩=some (rv w' w.heap.size 0)/\w'.cell? ⟨w.heap.size,1,none⟩=some (rv w' w.heap.size 1)/\w'.cell? ⟨w.heap.size,2,none⟩=some (rv w' w.heap.size 2)) ((refine KS.out _ ?_;(with_reducible (repeat(first | assumption | apply Abx.drew | apply Abx.set | (refine Abx.call ?_ (by assumption)))));done)) (first
   | (go_at_call 79;refine(T3.out _).mono ?_;rintro e w1 ⟨rfl,b1⟩)
   | (go_at_call 78;refine(P2.out _).mono ?_;rintro e w2 ⟨rfl,b2⟩))
  go_wp2
  have A2:=(A0'.drew.call b1).call b2
  refine bodyPost_ret ?_ rfl ⟨rfl,?_⟩
  ·exact results_cell_row results77 _ _ w.heap.size _ _ (0,0) _ rfl (set3 A2) underlying109 rfl (by kernel_rfl)
  ·exact(((A2.set 0 _).set 1 _).set 2 _).ab (AW.out.trans A1) (Nat.le_refl _)
end
section
open Go.RowKit Cu
theorem info_int: ∃i,Tryz.prog.info? 3=some i:=by
 cases h:Tryz.prog.info? 3 with
 | none=>
  have:(Tryz.prog.info? 3).isSome=true:=by kernel_rfl
  rw[h]at this;cases this
 | some i=>exact⟨i,rfl⟩
theorem pt_cmp(d:Nat)(p q:P3)(w:World):(Op.equalIn (d+2) 109 (.agg #[.int .i64 p.1,.int .i64 p.2.1,.int .i64 p.2.2]) (.agg #[.int .i64 q.1,.int .i64 q.2.1,.int .i64 q.2.2])).run prog w=.ok (decide (p=q)) w:=by
 obtain⟨i,hi⟩:=info_int
 obtain⟨a,b,c⟩:=p
 obtain⟨x,y,z⟩:=q
 rw[run_equalIn_array w (d+1) _ _ underlying109 hi]
 have k0:Tryz.prog.cellsOf 3=1:=by kernel_rfl
 have hp:Tryz.prog.plainKey 3=true:=by kernel_rfl
 rw[k0,show List.range 3=[0,1,2]from rfl]
 have e: ∀s t:Int,(Op.equalIn (d+1) 3 (.int .i64 s) (.int .i64 t)).run prog w=.ok (s==t) w:=fun s t=>run_equalIn_int w d 3 .i64 .i64 s t underlying3
 have p0: ∀r s t:Int,(part 3 #[.int .i64 r,.int .i64 s,.int .i64 t] (0*1)).run prog w=.ok (.int .i64 r) w:=fun r s t=>run_part_plain w hp rfl
 have p1: ∀r s t:Int,(part 3 #[.int .i64 r,.int .i64 s,.int .i64 t] (1*1)).run prog w=.ok (.int .i64 s) w:=fun r s t=>run_part_plain w hp rfl
 have p2: ∀r s t:Int,(part 3 #[.int .i64 r,.int .i64 s,.int .i64 t] (2*1)).run prog w=.ok (.int .i64 t) w:=fun r s t=>run_part_plain w hp rfl
 simp only[Op.eqItems,Sem.run_bind,p0,e,Result.andThen_ok]
 by_cases h1:a=x<;>by_cases h2:b=y<;>by_cases h3:c=z<;>simp[h1,h2,h3,e,p1,p2,Sem.run_bind]
end
section
open Go.RowKit
theorem cls(w:World): ∃(U:Type) (F:U->World),(∀u,Ab w (F u))/\(∀w',Ab w w'-> ∃u,w'=F u):=
 ⟨{u:World // Ab w u},Subtype.val,fun u=>u.2,fun w' h=>⟨⟨w',h⟩,rfl⟩⟩
theorem aR{P:Program}{id:Nat}{Q:Exit->Act->World->Prop}{a:Act}{w:World}{l:List Oper}{U:Type}(F:U->World)(hm:P.follows .mixedOrders=true)(hB:Region.lexB .any l.toArray=true)
  (hC: ∃u,w.drew=F u)
  (h:wpQuiet P l.toArray (fun w'=> ∃u,w'=F u) (fun a'=> ∀w',(∃u,w'=F u)->Q .normal a' w') l a):(Code.region id l.toArray true).wp P Q a w:=
 wp_region_quiet (C:=fun w'=> ∃u,w'=F u) hm hB hC (by simpa using h)
theorem aP{P:Program}{f:FuncId}{args:Array Value}{U:Type}{F:U->World}{u:U}{v:Value}{w0:World}(hF:Hid (∀w',Ab w0 w'-> ∃u,w'=F u))(hF1:Hid (∀u,Ab w0 (F u)))
  (h:Calls P f args (F u) fun e w'=>e=.returned v/\Below (F u).heap.size (F u) w'):Calls P f args (F u) fun e w''=>e=.returned v/\ ∃u,w''=F u:=
 h.mono fun _ _ ⟨he,hb⟩=>⟨he,hF.out _ ((hF1.out u).call hb)⟩
end
end Go.Proofs.YtlmfpikhlcnjjaaGreatDoor
