/-
  Some of the texts of this proof, one behind the other.
-/
import Derived.BigQuiet
import Derived.Deep.QuietTactic
import Derived.Test.YtmhnilnaffjhmaaGreatDoorCeg20
set_option maxRecDepth 100000
set_option maxHeartbeats 400000000
namespace Go.Proofs.YtmhnilnaffjhmaaGreatDoor
open _root_.Go.Proofs.Tryz
section
open Go.RowKit Go.Deep Cu
namespace Tr
open Sh
theorem zP{n gb c s:Nat}{v:World}(hn:1<=n/\n<=32)(hc:c<6*n*n)(hs:s<4)(g:GridOf n gb v):Calls prog 11 #[.pointer (some ⟨gb,0,none⟩),.int .i64 (c:Nat),.int .i64 (s:Nat)] v fun e w'=>e=.returned (.tuple #[.int .i64 (eE n (4*c+s):Nat),.int .i64 (eS n (4*c+s))])/\Below v.heap.size v w':=by
 have e:gT n (24*n*n) (c:Nat) (s:Nat)=(((eE n (4*c+s):Nat):Int),eS n (4*c+s)):=by
  have ht:=fE hc hs
  have hm:=cX hn.1 ht
  rw[lK,if_pos ⟨hc,hs⟩]
  unfold gN eE eS
  by_cases q:isL n (4*c+s)=true
  ·simp[q,ht]
  ·simp[q,hm]
 have b:c<6144:=by
  have h1:n*n<=32*32:=Nat.mul_le_mul hn.2 hn.2
  rw[Nat.mul_assoc]at hc
  omega
 have h:=lP (n:=n) (gb:=gb) (c:=(c:Nat)) (s:=(s:Nat)) (w:=v) ⟨by omega,by omega⟩ ⟨by omega,by omega⟩ g
 rwa [e]at h
def gC(x:Int):Bool:=decide (x< -4503599627370496)||decide (4503599627370496<x)
theorem zQ(x:Int)(w:World):Calls prog 120 #[.int .i64 x] w fun e w'=>e=.returned (.bool (gC x))/\w'=w:=by
 cases h1:decide (x< -4503599627370496)with
 | true=>
  have F:Hid (gC x=true):=by show _=_;unfold gC;rw[h1];rfl
  go_enter func120,ntmps120
  go_wp2
  go_ret
  exact⟨by rw[F.out];rfl,rfl⟩
 | false=>
  cases h2:decide (4503599627370496<x)with
  | true=>
   have F:Hid (gC x=true):=by show _=_;unfold gC;rw[h1,h2];rfl
   go_enter func120,ntmps120
   go_wp2
   go_ret
   exact⟨by rw[F.out];rfl,rfl⟩
  | false=>
   have F:Hid (gC x=false):=by show _=_;unfold gC;rw[h1,h2];rfl
   go_enter func120,ntmps120
   go_wp2
   go_ret
   exact⟨by rw[F.out];rfl,rfl⟩
theorem zR(p:Option Addr)(n cp:Nat)(f:Nat->Int)(w:World)(hn:n<=65536)(hf:IsI w p n f)(HA:Hid (∀i,i<n->gC (f i)=false)):
  Calls prog 126 #[.slice p n cp,.func (.func 120) #[] #[]] w fun e w'=>e=.returned (.int .i64 (-1))/\w'=w:=by
 have HF:=hid hf
 have HN:=hid hn
 clear hf hn
 go_enter func126,ntmps126
 go_wp2
 go_loopw [8] (fun iv wr=> ∃c:Nat,c<=n/\iv=.int .i64 (c:Nat)/\wr=w) (fun iv _=>n - (intOf iv).toNat)
 case atStart=>exact⟨0,by omega,rfl,rfl⟩
 case round=>
  obtain⟨c,hc,rfl,hwr⟩:=hrel
  have hwr2:=hwr.symm
  subst hwr2
  by_cases hcn:c<n
  ·have HC:=hid hcn
   have hcI:(c:Int)<n:=by omega
   have hcB:(c:Int)<=65536:=by have:=HN.out;omega
   obtain⟨b0,o0,rfl⟩:=HF.out.some0 (show 0<n by omega)
   obtain⟨x,hx⟩:=aB (f c)
   have at0:=HF.out.at0 hcn
   have hp:=HA.out c hcn
   rw[hx]at at0 hp
   have xc:=at0.2.2
   have CF:=hid (zQ x w)
   rw[hp]at CF
   clear at0 hx hcn hc hp
   go_wp2_with fail
   refine CF.out.mono ?_
   rintro e9 v9 ⟨rfl,hv9⟩
   have hv8:=hv9.symm
   subst hv8
   go_wp2
   exact⟨⟨c+1,by have:=HC.out;omega,by simp,by first | trivial | rfl⟩,by have:=HC.out;simp[intOf];omega⟩
  ·have e6:n=c:=by omega
   subst e6
   go_wp2
   go_ret
   exact⟨rfl,by first | trivial | rfl⟩
theorem wO(p:Option Addr)(n cp:Nat)(f:Nat->Int)(w:World)(hn:n<=65536)(hf:IsI w p n f)(HA:Hid (¬ ∀i,i<n->gC (f i)=false)):
  Calls prog 126 #[.slice p n cp,.func (.func 120) #[] #[]] w fun e w'=>(∃i:Nat,i<=65536/\e=.returned (.int .i64 (i:Nat)))/\w'=w:=by
 have HF:=hid hf
 have HN:=hid hn
 clear hf hn
 go_enter func126,ntmps126
 go_wp2
 go_loopw [8] (fun iv wr=> ∃c:Nat,c<=n/\iv=.int .i64 (c:Nat)/\(∀i,i<c->gC (f i)=false)/\wr=w) (fun iv _=>n - (intOf iv).toNat)
 case atStart=>exact⟨0,by omega,rfl,fun i hi=>absurd hi (Nat.not_lt_zero i),rfl⟩
 case round=>
  obtain⟨c,hc,rfl,g1,hwr⟩:=hrel
  have hwr2:=hwr.symm
  subst hwr2
  have G1:=hid g1
  clear g1
  by_cases hcn:c<n
  ·have HC:=hid hcn
   have hcI:(c:Int)<n:=by omega
   have hcB:(c:Int)<=65536:=by have:=HN.out;omega
   obtain⟨b0,o0,rfl⟩:=HF.out.some0 (show 0<n by omega)
   obtain⟨x,hx⟩:=aB (f c)
   have at0:=HF.out.at0 hcn
   rw[hx]at at0
   have xc:=at0.2.2
   have CF:=hid (zQ x w)
   have XE:=hid hx
   clear at0 hx hcn hc
   cases hp:gC (x)with
   | true=>
    rw[hp]at CF
    have hp2:=hid hp
    clear hp
    go_wp2_with fail
    refine CF.out.mono ?_
    rintro e9 v9 ⟨rfl,hv9⟩
    have hv8:=hv9.symm
    subst hv8
    go_wp2
    go_ret
    exact⟨⟨c,by have:=HC.out;have:=HN.out;omega,rfl⟩,by first | trivial | rfl⟩
   | false=>
    rw[hp]at CF
    have hp2:=hid hp
    clear hp
    go_wp2_with fail
    refine CF.out.mono ?_
    rintro e9 v9 ⟨rfl,hv9⟩
    have hv8:=hv9.symm
    subst hv8
    go_wp2
    refine⟨⟨c+1,by have:=HC.out;omega,by simp,fun i hi=> ?_,by first | trivial | rfl⟩,by have:=HC.out;simp[intOf];omega⟩
    by_cases l:i<c
    ·exact G1.out i l
    ·obtain rfl:i=c:=by omega
     rw[XE.out]
     exact hp2.out
  ·have e6:n=c:=by omega
   subst e6
   exact absurd G1.out HA.out
theorem pD(p:Option Addr)(n cp:Nat)(f:Nat->Int)(w:World)(hn:n<=65536)(hf:IsI w p n f)(HA: ∀i,i<n->gC (f i)=false):
  Calls prog 81 #[.slice p n cp,.func (.func 120) #[] #[]] w fun e w'=>e=.returned (.bool false)/\w'=w:=by
 have IX:=hid (zR p n cp f w hn hf HA)
 clear hn hf HA
 go_enter func81,ntmps81
 go_wp2_with fail
 refine IX.out.mono ?_
 rintro e9 v9 ⟨rfl,hv9⟩
 have hv8:=hv9.symm
 subst hv8
 go_wp2
 go_ret
 exact⟨rfl,rfl⟩
theorem wP(p:Option Addr)(n cp:Nat)(f:Nat->Int)(w:World)(hn:n<=65536)(hf:IsI w p n f)(HA: ¬ ∀i,i<n->gC (f i)=false):
  Calls prog 81 #[.slice p n cp,.func (.func 120) #[] #[]] w fun e w'=>e=.returned (.bool true)/\w'=w:=by
 have IX:=hid (wO p n cp f w hn hf HA)
 clear hn hf HA
 go_enter func81,ntmps81
 go_wp2_with fail
 refine IX.out.mono ?_
 rintro e9 v9 ⟨⟨i,hi,rfl⟩,hv9⟩
 have hv8:=hv9.symm
 subst hv8
 go_wp2
 go_ret
 exact⟨rfl,rfl⟩
theorem BT(gb N cell fb fo lf cf b:Nat)(wa has:Int)(E:Nat->Nat)(sg x g k:Nat->Int)(P:Nat->Nat->Int)(w0 w:World)(hB:w0.heap.size<=b)
  (AV:Hid (Ab w0 w)) (RB:Hid (w.rowIs b 2 N (fun i=>.int .i64 (P 0 i))))
  (ARD:Hid (∀u s,s<4->Ab w0 u->Calls prog 11 #[.pointer (some ⟨gb,0,none⟩),.int .i64 (cell:Nat),.int .i64 (s:Nat)] u fun e w'=>e=.returned (.tuple #[.int .i64 (E s:Nat),.int .i64 (sg s)])/\Below u.heap.size u w'))
  (FL:Hid (∀u s,s<4->Ab w0 u->u.cell? ⟨fb,fo+E s,none⟩=some (.int .i64 (x s))))
  (FA:Hid (∀s,s<4->E s<N/\E s<lf/\E s<=65536/\(-4503599627370496<=sg s*x s/\sg s*x s<=4503599627370496)/\g s=(if 0<sg s*x s then sg s*x s else 0)/\(-9223372036854775807<=sg s*k s/\sg s*k s<=9223372036854775807)))
  (CUT:Hid (∀u a,IsI u (some ⟨a,0,none⟩) 4 g->Calls prog 156 #[.int .i64 wa,.int .i64 has,.slice (some ⟨a,0,none⟩) 4 4] u fun e w'=> ∃g2 cap F,e=.returned (.tuple #[.slice (some ⟨g2,0,none⟩) 4 cap,.int .i64 0])/\Below u.heap.size u w'/\u.heap.size<=g2/\4<=cap/\w'.rowIs g2 2 cap F/\ ∀i,i<4->F i=.int .i64 (k i)))
  (ST:Hid (∀s,s<4-> ∀i,i<N->P (s+1) i=if i=E s/\0<g s then sg s*k s else P s i)):
  Calls prog 121 #[.pointer (some ⟨gb,0,none⟩),.int .i64 (cell:Nat),.int .i64 wa,.int .i64 has,.slice (some ⟨fb,fo,none⟩) lf cf,.slice (some ⟨b,0,none⟩) N N] w fun e w'=>e=.returned (.bool true)/\Ab w0 w'/\w'.rowIs b 2 N (fun i=>.int .i64 (P 4 i)):=by
 have MK:(Instr.makeSlice 46 (.int .i64 4) (.int .i64 4)).run prog w=.ok (.slice (some ⟨w.heap.size,0,none⟩) 4 4) (w.alloc (.cells (madeCells #[.int .i64 0] 4) 2)):=run_make_row' (P:=prog) 46 2 (.int .i64 0) 8 underlying46 Sh.eW rfl .i64 .i64 4 (by omega) (by omega) w
 have HB:=hid hB
 have BL:Hid (b<w.heap.size):=RB.out.lt
 clear hB
 obtain⟨ob,hob⟩:=aB w.heap.size
 have RW:Hid ((w.alloc (.cells (madeCells #[.int .i64 0] 4) 2)).rowIs ob 2 4 (fun _=>.int .i64 0)):=by rw[<- hob];exact World.rowIs_made _ _ _ _
 have A0:Hid (Ab w (w.alloc (.cells (madeCells #[.int .i64 0] 4) 2))):=bl1 w _
 have HO:Hid (w.heap.size<=ob/\b<ob):=⟨Nat.le_of_eq hob,by rw[<- hob];exact BL.out⟩
 generalize w.alloc (.cells (madeCells #[.int .i64 0] 4) 2)=wm at*
 go_enter func121,ntmps121
 go_wp2
 clear MK hob
 go_loopw [23] (fun iv wr=> ∃c:Nat,c<=4/\iv=.int .i64 (c:Nat)/\Ab w wr/\wr.rowIs ob 2 4 (fun j=>.int .i64 (if j<c then g j else 0))) (fun iv _=>4 - (intOf iv).toNat)
 case atStart=>exact⟨0,by omega,rfl,A0.out,RW.out.congr (fun i _=>by simp)⟩
 case round=>
  obtain⟨c,hc,rfl,a1,r1⟩:=hrel
  have AR:=hid a1
  have RR:=hid r1
  clear a1 r1 A0 RW
  by_cases hcn:c<4
  ·have HC:=hid hcn
   have hcI:(c:Int)<4:=by omega
   have AW:=hid (AV.out.trans AR.out)
   have CA:=hid (ARD.out wr c hcn AW.out)
   obtain⟨f1,f2,f3,f4,f5,-⟩:=FA.out c hcn
   obtain⟨y,hy⟩:=aB (sg c*x c)
   obtain⟨ee,hee⟩:=aB (E c)
   obtain⟨xx,hxx⟩:=aB (x c)
   obtain⟨ss,hss⟩:=aB (sg c)
   have GE:=hid f5
   rw[hy]at f4 GE
   rw[hee,hss]at CA
   rw[hee]at f2 f3
   rw[hss,hxx]at hy
   have EE:=hid hee
   have XX:=hid hxx
   have y1:=f4.1
   have y2:=f4.2
   have e1:(ee:Int)<lf:=by omega
   have e2:(ee:Int)<=65536:=by omega
   clear f1 f4 f5 hee hxx hss hcn hc f2 f3
   go_wp2_with fail
   refine CA.out.mono ?_
   rintro e9 v1 ⟨rfl,b1⟩
   have A1:Hid (Ab wr v1):=b1
   clear b1 CA
   have xc:v1.cell? ⟨fb,fo+ee,none⟩=some (.int .i64 xx):=by
    have h:=FL.out v1 c HC.out (AW.out.trans A1.out)
    rwa [EE.out,XX.out]at h
   have R1:=hid (cP RR.out A1.out)
   have z1:=R1.out.cell (show c<4 from HC.out)
   have z2:=R1.out.frozen c
   by_cases c0:0<y
   ·have GV:Hid (g c=y):=by have h:=GE.out;rwa [if_pos c0]at h
    go_wp2
    refine⟨⟨c+1,by have:=HC.out;omega,by simp,(AR.out.trans A1.out).set HO.out.1 _,(R1.out.set c _).congr (fun i _=> ?_)⟩,by simp[intOf];have:=HC.out;omega⟩
    by_cases e:i=c
    ·subst e;simp[GV.out]
    ·have e2:(i<c+1) ↔ i<c:=by omega
     simp[e,e2]
   ·have GV:Hid (g c=0):=by have h:=GE.out;rwa [if_neg c0]at h
    go_wp2
    refine⟨⟨c+1,by have:=HC.out;omega,by simp,(AR.out.trans A1.out).set HO.out.1 _,(R1.out.set c _).congr (fun i _=> ?_)⟩,by simp[intOf];have:=HC.out;omega⟩
    by_cases e:i=c
    ·subst e;simp[GV.out]
    ·have e2:(i<c+1) ↔ i<c:=by omega
     simp[e,e2]
  ·have e6:c=4:=by omega
   subst e6
   have RG:Hid (wr.rowIs ob 2 4 (fun j=>.int .i64 (g j))):=RR.out.congr (fun i hi=>by simp[hi])
   have GB: ∀i,i<4-> -9223372036854775808<=g i/\g i<=9223372036854775807:=fun i hi=>by
    obtain⟨-,-,-,f4,f5,-⟩:=FA.out i hi
    rw[f5]
    split<;>omega
   have CC:=hid (CUT.out wr ob (oG RG.out GB))
   clear GB RR
   go_wp2_with fail
   refine CC.out.mono ?_
   rintro e9 v2 ⟨g2,cap,F,rfl,b2,hg2,hcap,rw2,hF⟩
   have A2:Hid (Ab wr v2):=b2
   have LG:Hid (b≠ob/\b≠g2/\4<=cap):=by
    have h1:=HO.out.2
    have h2:=RG.out.lt
    exact⟨by omega,by omega,hcap⟩
   have IN:Hid (Ab w0 v2/\v2.rowIs ob 2 4 (fun j=>.int .i64 (g j))/\v2.rowIs g2 2 cap F/\v2.rowIs b 2 N (fun i=>.int .i64 (P 0 i))):=⟨AV.out.trans (AR.out.trans A2.out),cP RG.out A2.out,rw2,cP RB.out (AR.out.trans A2.out)⟩
   have HFK:=hid hF
   clear b2 hg2 hcap rw2 hF CC RG A2 AR
   go_wp2
   go_loopw [53] (fun iv wq=> ∃c:Nat,c<=4/\iv=.int .i64 (c:Nat)/\Ab w0 wq/\wq.rowIs ob 2 4 (fun j=>.int .i64 (g j))/\wq.rowIs g2 2 cap F/\wq.rowIs b 2 N (fun i=>.int .i64 (P c i))) (fun iv _=>4 - (intOf iv).toNat)
   case atStart=>exact⟨0,by omega,rfl,IN.out⟩
   case round=>
    obtain⟨c,hc,rfl,a1,r1,r2,r3⟩:=hrel
    rename World=>wq
    have AR:=hid a1
    have RO:=hid r1
    have RG:=hid r2
    have RP:=hid r3
    clear a1 r1 r2 r3 IN
    by_cases hcn:c<4
    ·have HC:=hid hcn
     have hcI:(c:Int)<4:=by omega
     obtain⟨f1,f2,f3,-,-,f6⟩:=FA.out c hcn
     have z0:=RO.out.cell (show c<4 from hcn)
     obtain⟨gg,hgg⟩:=aB (g c)
     rw[hgg]at z0
     have GG:=hid hgg
     by_cases c0:0<gg
     ·have d0:decide (0<gg)=true:=decide_eq_true c0
      have CA:=hid (ARD.out _ c hcn AR.out)
      obtain⟨y,hy⟩:=aB (sg c*k c)
      obtain⟨ee,hee⟩:=aB (E c)
      obtain⟨kk,hkk⟩:=aB (k c)
      obtain⟨ss,hss⟩:=aB (sg c)
      have YE:=hid hy
      rw[hy]at f6
      rw[hee,hss]at CA
      rw[hee]at f1 f3
      rw[hss,hkk]at hy
      have EE:=hid hee
      have KK:=hid hkk
      have y1:=f6.1
      have y2:=f6.2
      have e1:(ee:Int)<N:=by omega
      have e2:(ee:Int)<=65536:=by omega
      have FN:=hid f1
      clear f1 f2 f3 f6 hee hkk hss hcn hc hgg
      go_wp2_with fail
      refine CA.out.mono ?_
      rintro e9 v3 ⟨rfl,b3⟩
      have A3:Hid (Ab _ v3):=b3
      clear b3 CA z0
      have R3:=hid (cP RG.out A3.out)
      have R4:=hid (cP RP.out A3.out)
      have R5:=hid (cP RO.out A3.out)
      have z1:v3.cell? ⟨g2,c,none⟩=some (.int .i64 kk):=by
       have h:=R3.out.cell (show c<cap by have:=LG.out.2.2;have:=HC.out;omega)
       rwa [HFK.out c HC.out,KK.out]at h
      have z2:=R4.out.cell FN.out
      have z3:=R4.out.frozen ee
      go_wp2
      refine⟨⟨c+1,by have:=HC.out;omega,by simp,(AR.out.trans A3.out).set HB.out _,R5.out.setOther (Ne.symm LG.out.1) _,R3.out.setOther (Ne.symm LG.out.2.1) _,(R4.out.set ee _).congr (fun i hi=> ?_)⟩,by simp[intOf];have:=HC.out;omega⟩
      have s:=ST.out c HC.out i hi
      rw[EE.out,GG.out,YE.out]at s
      rw[s]
      by_cases e:i=ee
      ·simp[e,c0]
      ·simp[e]
     ·have d0:decide (0<gg)=false:=decide_eq_false c0
      clear f1 f2 f3 f6 hcn hc hgg
      go_wp2
      refine⟨⟨c+1,by have:=HC.out;omega,by simp,AR.out,RO.out,RG.out,RP.out.congr (fun i hi=> ?_)⟩,by simp[intOf];have:=HC.out;omega⟩
      have s:=ST.out c HC.out i hi
      rw[GG.out,if_neg (fun h=>c0 h.2)]at s
      rw[s]
    ·have e6:c=4:=by omega
     subst e6
     go_wp2
     go_ret
     exact⟨rfl,AR.out,RP.out⟩
theorem FF(gb N cell fb fo lf cf b:Nat)(wa has:Int)(E:Nat->Nat)(sg x g:Nat->Int)(P:Nat->Int)(w0 w:World)(hB:w0.heap.size<=b)
  (AV:Hid (Ab w0 w)) (RB:Hid (w.rowIs b 2 N (fun i=>.int .i64 (P i))))
  (ARD:Hid (∀u s,s<4->Ab w0 u->Calls prog 11 #[.pointer (some ⟨gb,0,none⟩),.int .i64 (cell:Nat),.int .i64 (s:Nat)] u fun e w'=>e=.returned (.tuple #[.int .i64 (E s:Nat),.int .i64 (sg s)])/\Below u.heap.size u w'))
  (FL:Hid (∀u s,s<4->Ab w0 u->u.cell? ⟨fb,fo+E s,none⟩=some (.int .i64 (x s))))
  (FA:Hid (∀s,s<4->E s<N/\E s<lf/\E s<=65536/\(-4503599627370496<=sg s*x s/\sg s*x s<=4503599627370496)/\g s=(if 0<sg s*x s then sg s*x s else 0)))
  (CUT:Hid (∀u a,IsI u (some ⟨a,0,none⟩) 4 g->Calls prog 156 #[.int .i64 wa,.int .i64 has,.slice (some ⟨a,0,none⟩) 4 4] u fun e w'=>e=.returned (.tuple #[.slice none 0 0,.int .i64 1])/\Below u.heap.size u w')):
  Calls prog 121 #[.pointer (some ⟨gb,0,none⟩),.int .i64 (cell:Nat),.int .i64 wa,.int .i64 has,.slice (some ⟨fb,fo,none⟩) lf cf,.slice (some ⟨b,0,none⟩) N N] w fun e w'=>e=.returned (.bool false)/\Ab w0 w'/\w'.rowIs b 2 N (fun i=>.int .i64 (P i)):=by
 have MK:(Instr.makeSlice 46 (.int .i64 4) (.int .i64 4)).run prog w=.ok (.slice (some ⟨w.heap.size,0,none⟩) 4 4) (w.alloc (.cells (madeCells #[.int .i64 0] 4) 2)):=run_make_row' (P:=prog) 46 2 (.int .i64 0) 8 underlying46 Sh.eW rfl .i64 .i64 4 (by omega) (by omega) w
 have HB:=hid hB
 have BL:Hid (b<w.heap.size):=RB.out.lt
 clear hB
 obtain⟨ob,hob⟩:=aB w.heap.size
 have RW:Hid ((w.alloc (.cells (madeCells #[.int .i64 0] 4) 2)).rowIs ob 2 4 (fun _=>.int .i64 0)):=by rw[<- hob];exact World.rowIs_made _ _ _ _
 have A0:Hid (Ab w (w.alloc (.cells (madeCells #[.int .i64 0] 4) 2))):=bl1 w _
 have HO:Hid (w.heap.size<=ob/\b<ob):=⟨Nat.le_of_eq hob,by rw[<- hob];exact BL.out⟩
 generalize w.alloc (.cells (madeCells #[.int .i64 0] 4) 2)=wm at*
 go_enter func121,ntmps121
 go_wp2
 clear MK hob
 go_loopw [23] (fun iv wr=> ∃c:Nat,c<=4/\iv=.int .i64 (c:Nat)/\Ab w wr/\wr.rowIs ob 2 4 (fun j=>.int .i64 (if j<c then g j else 0))) (fun iv _=>4 - (intOf iv).toNat)
 case atStart=>exact⟨0,by omega,rfl,A0.out,RW.out.congr (fun i _=>by simp)⟩
 case round=>
  obtain⟨c,hc,rfl,a1,r1⟩:=hrel
  have AR:=hid a1
  have RR:=hid r1
  clear a1 r1 A0 RW
  by_cases hcn:c<4
  ·have HC:=hid hcn
   have hcI:(c:Int)<4:=by omega
   have AW:=hid (AV.out.trans AR.out)
   have CA:=hid (ARD.out wr c hcn AW.out)
   obtain⟨f1,f2,f3,f4,f5⟩:=FA.out c hcn
   obtain⟨y,hy⟩:=aB (sg c*x c)
   obtain⟨ee,hee⟩:=aB (E c)
   obtain⟨xx,hxx⟩:=aB (x c)
   obtain⟨ss,hss⟩:=aB (sg c)
   have GE:=hid f5
   rw[hy]at f4 GE
   rw[hee,hss]at CA
   rw[hee]at f2 f3
   rw[hss,hxx]at hy
   have EE:=hid hee
   have XX:=hid hxx
   have y1:=f4.1
   have y2:=f4.2
   have e1:(ee:Int)<lf:=by omega
   have e2:(ee:Int)<=65536:=by omega
   clear f1 f4 f5 hee hxx hss hcn hc f2 f3
   go_wp2_with fail
   refine CA.out.mono ?_
   rintro e9 v1 ⟨rfl,b1⟩
   have A1:Hid (Ab wr v1):=b1
   clear b1 CA
   have xc:v1.cell? ⟨fb,fo+ee,none⟩=some (.int .i64 xx):=by
    have h:=FL.out v1 c HC.out (AW.out.trans A1.out)
    rwa [EE.out,XX.out]at h
   have R1:=hid (cP RR.out A1.out)
   have z1:=R1.out.cell (show c<4 from HC.out)
   have z2:=R1.out.frozen c
   by_cases c0:0<y
   ·have GV:Hid (g c=y):=by have h:=GE.out;rwa [if_pos c0]at h
    go_wp2
    refine⟨⟨c+1,by have:=HC.out;omega,by simp,(AR.out.trans A1.out).set HO.out.1 _,(R1.out.set c _).congr (fun i _=> ?_)⟩,by simp[intOf];have:=HC.out;omega⟩
    by_cases e:i=c
    ·subst e;simp[GV.out]
    ·have e2:(i<c+1) ↔ i<c:=by omega
     simp[e,e2]
   ·have GV:Hid (g c=0):=by have h:=GE.out;rwa [if_neg c0]at h
    go_wp2
    refine⟨⟨c+1,by have:=HC.out;omega,by simp,(AR.out.trans A1.out).set HO.out.1 _,(R1.out.set c _).congr (fun i _=> ?_)⟩,by simp[intOf];have:=HC.out;omega⟩
    by_cases e:i=c
    ·subst e;simp[GV.out]
    ·have e2:(i<c+1) ↔ i<c:=by omega
     simp[e,e2]
  ·have e6:c=4:=by omega
   subst e6
   have RG:Hid (wr.rowIs ob 2 4 (fun j=>.int .i64 (g j))):=RR.out.congr (fun i hi=>by simp[hi])
   have GB: ∀i,i<4-> -9223372036854775808<=g i/\g i<=9223372036854775807:=fun i hi=>by
    obtain⟨-,-,-,f4,f5⟩:=FA.out i hi
    rw[f5]
    split<;>omega
   have CC:=hid (CUT.out wr ob (oG RG.out GB))
   clear GB RR
   go_wp2_with fail
   refine CC.out.mono ?_
   rintro e9 v2 ⟨rfl,b2⟩
   have A2:Hid (Ab wr v2):=b2
   have R2:=hid (cP RB.out (AR.out.trans A2.out))
   clear b2 CC
   go_wp2
   go_ret
   exact⟨rfl,AV.out.trans (AR.out.trans A2.out),R2.out⟩
theorem lD(gb M N:Nat)(pw:Option Addr)(lw cw:Nat)(ph:Option Addr)(lh ch:Nat)(pf:Option Addr)(lf cf:Nat)(ok:Bool)(w:World)
  (CE:Hid (∀v,Ab w v->Calls prog 7 #[.pointer (some ⟨gb,0,none⟩)] v fun e w'=>e=.returned (.int .i64 (M:Nat))/\w'=v))
  (ED:Hid (∀v,Ab w v->Calls prog 8 #[.pointer (some ⟨gb,0,none⟩)] v fun e w'=>e=.returned (.int .i64 (N:Nat))/\w'=v))
  (OK:Hid (ok=true ↔ lw=M/\lh=M/\lf=N)):
  Calls prog 119 #[.pointer (some ⟨gb,0,none⟩),.slice pw lw cw,.slice ph lh ch,.slice pf lf cf] w fun e w'=>e=.returned (.bool ok)/\w'=w:=by
 by_cases c1:lw=M
 ·have d1:((lw:Int)==(M:Int))=true:=by simp;omega
  by_cases c2:lh=M
  ·have d2:((lh:Int)==(M:Int))=true:=by simp;omega
   by_cases c3:lf=N
   ·have d3:((lf:Int)==(N:Int))=true:=by simp;omega
    have KO:Hid (ok=true):=OK.out.2 ⟨c1,c2,c3⟩
    clear OK c1 c2 c3
    go_enter func119,ntmps119
    go_wp2_with fail
    refine(CE.out _ (Ab.refl _)).mono ?_
    rintro e9 v9 ⟨rfl,hv9⟩
    have hv8:=hv9.symm
    subst hv8
    go_wp2_with fail
    refine(CE.out _ (Ab.refl _)).mono ?_
    rintro e9 v9 ⟨rfl,hv9⟩
    have hv8:=hv9.symm
    subst hv8
    go_wp2_with fail
    refine(ED.out _ (Ab.refl _)).mono ?_
    rintro e9 v9 ⟨rfl,hv9⟩
    have hv8:=hv9.symm
    subst hv8
    go_wp2
    go_ret
    exact⟨by rw[KO.out];rfl,rfl⟩
   ·have d3:((lf:Int)==(N:Int))=false:=by simp;omega
    have KO:Hid (ok=false):=eq_false_of_ne_true (fun h=>absurd ((OK.out.1 h).2.2) (by assumption))
    clear OK c1 c2 c3
    go_enter func119,ntmps119
    go_wp2_with fail
    refine(CE.out _ (Ab.refl _)).mono ?_
    rintro e9 v9 ⟨rfl,hv9⟩
    have hv8:=hv9.symm
    subst hv8
    go_wp2_with fail
    refine(CE.out _ (Ab.refl _)).mono ?_
    rintro e9 v9 ⟨rfl,hv9⟩
    have hv8:=hv9.symm
    subst hv8
    go_wp2_with fail
    refine(ED.out _ (Ab.refl _)).mono ?_
    rintro e9 v9 ⟨rfl,hv9⟩
    have hv8:=hv9.symm
    subst hv8
    go_wp2
    go_ret
    exact⟨by rw[KO.out];rfl,rfl⟩
  ·have d2:((lh:Int)==(M:Int))=false:=by simp;omega
   have KO:Hid (ok=false):=eq_false_of_ne_true (fun h=>absurd ((OK.out.1 h).2.1) (by assumption))
   clear OK c1 c2
   go_enter func119,ntmps119
   go_wp2_with fail
   refine(CE.out _ (Ab.refl _)).mono ?_
   rintro e9 v9 ⟨rfl,hv9⟩
   have hv8:=hv9.symm
   subst hv8
   go_wp2_with fail
   refine(CE.out _ (Ab.refl _)).mono ?_
   rintro e9 v9 ⟨rfl,hv9⟩
   have hv8:=hv9.symm
   subst hv8
   go_wp2
   go_ret
   exact⟨by rw[KO.out];rfl,rfl⟩
 ·have d1:((lw:Int)==(M:Int))=false:=by simp;omega
  have KO:Hid (ok=false):=eq_false_of_ne_true (fun h=>absurd ((OK.out.1 h).1) (by assumption))
  clear OK c1
  go_enter func119,ntmps119
  go_wp2_with fail
  refine(CE.out _ (Ab.refl _)).mono ?_
  rintro e9 v9 ⟨rfl,hv9⟩
  have hv8:=hv9.symm
  subst hv8
  go_wp2
  go_ret
  exact⟨by rw[KO.out];rfl,rfl⟩
end Tr
end
section
open Go.RowKit Go.Deep Cu
namespace Tr
open Sh
theorem FG(gb:Nat)(pw:Option Addr)(lw cw:Nat)(ph:Option Addr)(lh ch:Nat)(pf:Option Addr)(lf cf:Nat)(w:World)
  (FT:Hid (Calls prog 119 #[.pointer (some ⟨gb,0,none⟩),.slice pw lw cw,.slice ph lh ch,.slice pf lf cf] w fun e w'=>e=.returned (.bool false)/\w'=w)):
  Calls prog 76 #[.pointer (some ⟨gb,0,none⟩),.slice pw lw cw,.slice ph lh ch,.slice pf lf cf] w fun e w'=>e=.returned (.tuple #[.slice none 0 0,.int .i64 1])/\w'=w:=by
 go_enter func76,ntmps76
 go_wp2_with fail
 refine FT.out.mono ?_
 rintro e9 v9 ⟨rfl,hv9⟩
 have hv8:=hv9.symm
 subst hv8
 go_wp2
 go_ret2
 exact⟨rfl,rfl⟩
theorem FH(gb:Nat)(pw:Option Addr)(lw cw:Nat)(ph:Option Addr)(lh ch:Nat)(pf:Option Addr)(lf cf:Nat)(w:World)
  (FT:Hid (Calls prog 119 #[.pointer (some ⟨gb,0,none⟩),.slice pw lw cw,.slice ph lh ch,.slice pf lf cf] w fun e w'=>e=.returned (.bool true)/\w'=w))
  (H2:Hid (Calls prog 81 #[.slice pf lf cf,.func (.func 120) #[] #[]] w fun e w'=>e=.returned (.bool true)/\w'=w)):
  Calls prog 76 #[.pointer (some ⟨gb,0,none⟩),.slice pw lw cw,.slice ph lh ch,.slice pf lf cf] w fun e w'=>e=.returned (.tuple #[.slice none 0 0,.int .i64 1])/\w'=w:=by
 go_enter func76,ntmps76
 go_wp2_with fail
 refine FT.out.mono ?_
 rintro e9 v9 ⟨rfl,hv9⟩
 have hv8:=hv9.symm
 subst hv8
 go_wp2_with fail
 refine H2.out.mono ?_
 rintro e9 v9 ⟨rfl,hv9⟩
 have hv8:=hv9.symm
 subst hv8
 go_wp2
 go_ret2
 exact⟨rfl,rfl⟩
theorem FI(gb wb wo M cw hb ho ch:Nat)(pf:Option Addr)(N cf:Nat)(W H:Nat->Int)(P:Nat->Nat->Int)(w:World)(hM:M<=65536)(hN:N<=65536)
  (FT:Hid (Calls prog 119 #[.pointer (some ⟨gb,0,none⟩),.slice (some ⟨wb,wo,none⟩) M cw,.slice (some ⟨hb,ho,none⟩) M ch,.slice pf N cf] w fun e w'=>e=.returned (.bool true)/\w'=w))
  (H2:Hid (Calls prog 81 #[.slice pf N cf,.func (.func 120) #[] #[]] w fun e w'=>e=.returned (.bool false)/\w'=w))
  (WC:Hid (∀c,c<M-> ∀v,Ab w v->v.cell? ⟨wb,wo+c,none⟩=some (.int .i64 (W c))/\v.cell? ⟨hb,ho+c,none⟩=some (.int .i64 (H c))))
  (GV:Hid (∀b c,c<M->w.heap.size<=b-> ∀v,Ab w v->v.rowIs b 2 N (fun i=>.int .i64 (P (4*c) i))->Calls prog 121 #[.pointer (some ⟨gb,0,none⟩),.int .i64 (c:Nat),.int .i64 (W c),.int .i64 (H c),.slice pf N cf,.slice (some ⟨b,0,none⟩) N N] v fun e w'=>e=.returned (.bool true)/\Ab w w'/\w'.rowIs b 2 N (fun i=>.int .i64 (P (4*(c+1)) i))))
  (P0:Hid (∀i,P 0 i=0)):
  Calls prog 76 #[.pointer (some ⟨gb,0,none⟩),.slice (some ⟨wb,wo,none⟩) M cw,.slice (some ⟨hb,ho,none⟩) M ch,.slice pf N cf] w fun e w'=> ∃v,e=.returned (.tuple #[v,.int .i64 0])/\Below w.heap.size w w'/\Own w.heap.size v ((List.range N).map (P (4*M))) w':=by
 have MK:=run_make_row' (P:=prog) 46 2 (.int .i64 0) 8 underlying46 Sh.eW rfl .i64 .i64 N (by omega) (by omega) w
 have NB:=hid hN
 have MB:=hid hM
 clear hM hN
 obtain⟨ob,hob⟩:=aB w.heap.size
 have RW:Hid ((w.alloc (.cells (madeCells #[.int .i64 0] N) 2)).rowIs ob 2 N (fun i=>.int .i64 (P (4*0) i))):=by
  have h:=World.rowIs_made w (.int .i64 0) N 2
  rw[hob]at h
  exact h.congr (fun i _=>by rw[show 4*0=0 from rfl,P0.out])
 have A0:Hid (Ab w (w.alloc (.cells (madeCells #[.int .i64 0] N) 2))):=bl1 w _
 have HO:Hid (w.heap.size<=ob):=Nat.le_of_eq hob
 generalize w.alloc (.cells (madeCells #[.int .i64 0] N) 2)=wm at*
 go_enter func76,ntmps76
 go_wp2_with fail
 refine FT.out.mono ?_
 rintro e9 v9 ⟨rfl,hv9⟩
 have hv8:=hv9.symm
 subst hv8
 go_wp2_with fail
 refine H2.out.mono ?_
 rintro e9 v9 ⟨rfl,hv9⟩
 have hv8:=hv9.symm
 subst hv8
 go_wp2
 clear MK hob FT H2 P0
 go_loopw [29] (fun iv wr=> ∃c:Nat,c<=M/\iv=.int .i64 (c:Nat)/\Ab w wr/\wr.rowIs ob 2 N (fun i=>.int .i64 (P (4*c) i))) (fun iv _=>M - (intOf iv).toNat)
 case atStart=>exact⟨0,by omega,rfl,A0.out,RW.out⟩
 case round=>
  obtain⟨c,hc,rfl,a1,r1⟩:=hrel
  have AR:=hid a1
  have RR:=hid r1
  clear a1 r1 A0 RW
  by_cases hcn:c<M
  ·have HC:=hid hcn
   have hcI:(c:Int)<M:=by omega
   have hcB:(c:Int)<=65536:=by have:=MB.out;omega
   obtain⟨x,hx⟩:=aB (W c)
   obtain⟨y,hy⟩:=aB (H c)
   have xc: ∀v,Ab wr v->v.cell? ⟨wb,wo+c,none⟩=some (.int .i64 x):=fun v a=>by rw[<- hx];exact(WC.out c hcn v (AR.out.trans a)).1
   have yc: ∀v,Ab wr v->v.cell? ⟨hb,ho+c,none⟩=some (.int .i64 y):=fun v a=>by rw[<- hy];exact(WC.out c hcn v (AR.out.trans a)).2
   have XC:=hid xc
   have YC:=hid yc
   have x0:=xc wr (Ab.refl _)
   have y0:=yc wr (Ab.refl _)
   have x1:=xc wr.drew (Ab.refl _).drew
   have y1:=yc wr.drew (Ab.refl _).drew
   have CG:Hid (∀v,Ab wr v->Calls prog 121 #[.pointer (some ⟨gb,0,none⟩),.int .i64 (c:Nat),.int .i64 x,.int .i64 y,.slice pf N cf,.slice (some ⟨ob,0,none⟩) N N] v fun e w'=>e=.returned (.bool true)/\Ab w w'/\w'.rowIs ob 2 N (fun i=>.int .i64 (P (4*(c+1)) i))):=fun v a=>by
    rw[<- hx,<- hy]
    exact GV.out ob c hcn HO.out v (AR.out.trans a) (cP RR.out a)
   clear hx hy hcn hc xc yc
   go_upto_region 9 with fail
   go_region_with (go_at_call 121;refine(CG.out _ (by first | exact Ab.refl _ | exact(Ab.refl _).drew)).mono ?_;rintro e9 v1 ⟨rfl,a1,r1⟩;have A1:=hid a1;have R1:=hid r1;clear a1 r1 CG)
   all_goals
    go_wp2
    exact⟨⟨c+1,by have:=HC.out;omega,by simp,A1.out,R1.out⟩,by simp[intOf];have:=HC.out;omega⟩
  ·have e6:M=c:=by omega
   subst e6
   go_wp2
   go_ret2
   exact⟨_,rfl,AR.out,uS RR.out HO.out (Nat.le_refl _) (by unfold maxLen;have:=NB.out;omega) (fun i _=>rfl)⟩
theorem FJ(gb wb wo M cw hb ho ch:Nat)(pf:Option Addr)(N cf:Nat)(W H:Nat->Int)(G:Nat->Prop)(w:World)(hM:M<=65536)(hN:N<=65536)
  (FT:Hid (Calls prog 119 #[.pointer (some ⟨gb,0,none⟩),.slice (some ⟨wb,wo,none⟩) M cw,.slice (some ⟨hb,ho,none⟩) M ch,.slice pf N cf] w fun e w'=>e=.returned (.bool true)/\w'=w))
  (H2:Hid (Calls prog 81 #[.slice pf N cf,.func (.func 120) #[] #[]] w fun e w'=>e=.returned (.bool false)/\w'=w))
  (WC:Hid (∀c,c<M-> ∀v,Ab w v->v.cell? ⟨wb,wo+c,none⟩=some (.int .i64 (W c))/\v.cell? ⟨hb,ho+c,none⟩=some (.int .i64 (H c))))
  (GV:Hid (∀b c,c<M->w.heap.size<=b-> ∀R:Nat->Int,∀v,Ab w v->v.rowIs b 2 N (fun i=>.int .i64 (R i))->(G c->Calls prog 121 #[.pointer (some ⟨gb,0,none⟩),.int .i64 (c:Nat),.int .i64 (W c),.int .i64 (H c),.slice pf N cf,.slice (some ⟨b,0,none⟩) N N] v fun e w'=>e=.returned (.bool true)/\Ab w w'/\ ∃R':Nat->Int,w'.rowIs b 2 N (fun i=>.int .i64 (R' i)))/\(¬G c->Calls prog 121 #[.pointer (some ⟨gb,0,none⟩),.int .i64 (c:Nat),.int .i64 (W c),.int .i64 (H c),.slice pf N cf,.slice (some ⟨b,0,none⟩) N N] v fun e w'=>e=.returned (.bool false)/\Ab w w')))
  (HB:Hid (¬ ∀c,c<M->G c)):
  Calls prog 76 #[.pointer (some ⟨gb,0,none⟩),.slice (some ⟨wb,wo,none⟩) M cw,.slice (some ⟨hb,ho,none⟩) M ch,.slice pf N cf] w fun e w'=>e=.returned (.tuple #[.slice none 0 0,.int .i64 1])/\Below w.heap.size w w':=by
 have MK:=run_make_row' (P:=prog) 46 2 (.int .i64 0) 8 underlying46 Sh.eW rfl .i64 .i64 N (by omega) (by omega) w
 have NB:=hid hN
 have MB:=hid hM
 clear hM hN
 obtain⟨ob,hob⟩:=aB w.heap.size
 have RW:Hid ((w.alloc (.cells (madeCells #[.int .i64 0] N) 2)).rowIs ob 2 N (fun _=>.int .i64 0)):=by
  have h:=World.rowIs_made w (.int .i64 0) N 2
  rw[hob]at h
  exact h.congr (fun i _=>rfl)
 have A0:Hid (Ab w (w.alloc (.cells (madeCells #[.int .i64 0] N) 2))):=bl1 w _
 have HO:Hid (w.heap.size<=ob):=Nat.le_of_eq hob
 generalize w.alloc (.cells (madeCells #[.int .i64 0] N) 2)=wm at*
 go_enter func76,ntmps76
 go_wp2_with fail
 refine FT.out.mono ?_
 rintro e9 v9 ⟨rfl,hv9⟩
 have hv8:=hv9.symm
 subst hv8
 go_wp2_with fail
 refine H2.out.mono ?_
 rintro e9 v9 ⟨rfl,hv9⟩
 have hv8:=hv9.symm
 subst hv8
 go_wp2
 clear MK hob FT H2
 go_loopw [29] (fun iv wr=> ∃c:Nat,c<=M/\iv=.int .i64 (c:Nat)/\Ab w wr/\(∀j,j<c->G j)/\ ∃R:Nat->Int,wr.rowIs ob 2 N (fun i=>.int .i64 (R i))) (fun iv _=>M - (intOf iv).toNat)
 case atStart=>exact⟨0,by omega,rfl,A0.out,fun j hj=>absurd hj (Nat.not_lt_zero j),fun _=>0,RW.out⟩
 case round=>
  obtain⟨c,hc,rfl,a1,g1,R,r1⟩:=hrel
  have AR:=hid a1
  have RR:=hid r1
  have GG:=hid g1
  clear a1 r1 g1 A0 RW
  by_cases hcn:c<M
  ·have HC:=hid hcn
   have hcI:(c:Int)<M:=by omega
   have hcB:(c:Int)<=65536:=by have:=MB.out;omega
   obtain⟨x,hx⟩:=aB (W c)
   obtain⟨y,hy⟩:=aB (H c)
   have xc: ∀v,Ab wr v->v.cell? ⟨wb,wo+c,none⟩=some (.int .i64 x):=fun v a=>by rw[<- hx];exact(WC.out c hcn v (AR.out.trans a)).1
   have yc: ∀v,Ab wr v->v.cell? ⟨hb,ho+c,none⟩=some (.int .i64 y):=fun v a=>by rw[<- hy];exact(WC.out c hcn v (AR.out.trans a)).2
   have XC:=hid xc
   have YC:=hid yc
   have x0:=xc wr (Ab.refl _)
   have y0:=yc wr (Ab.refl _)
   have x1:=xc wr.drew (Ab.refl _).drew
   have y1:=yc wr.drew (Ab.refl _).drew
   by_cases gc:G c
   ·have GC:=hid gc
    have CG:Hid (∀v,Ab wr v->Calls prog 121 #[.pointer (some ⟨gb,0,none⟩),.int .i64 (c:Nat),.int .i64 x,.int .i64 y,.slice pf N cf,.slice (some ⟨ob,0,none⟩) N N] v fun e w'=>e=.returned (.bool true)/\Ab w w'/\ ∃R':Nat->Int,w'.rowIs ob 2 N (fun i=>.int .i64 (R' i))):=fun v a=>by
     rw[<- hx,<- hy]
     exact(GV.out ob c hcn HO.out R v (AR.out.trans a) (cP RR.out a)).1 gc
    clear hx hy hcn hc xc yc gc
    go_upto_region 9 with fail
    go_region_with (go_at_call 121;refine(CG.out _ (by first | exact Ab.refl _ | exact(Ab.refl _).drew)).mono ?_;rintro e9 v1 ⟨rfl,a1,R',r1⟩;have A1:=hid a1;have R1:=hid r1;clear a1 r1 CG)
    all_goals
     go_wp2
     exact⟨⟨c+1,by have:=HC.out;omega,by simp,A1.out,fun j hj=>(by
      by_cases l:j<c
      ·exact GG.out j l
      ·obtain rfl:j=c:=by omega
       exact GC.out),_,R1.out⟩,by simp[intOf];have:=HC.out;omega⟩
   ·have CG:Hid (∀v,Ab wr v->Calls prog 121 #[.pointer (some ⟨gb,0,none⟩),.int .i64 (c:Nat),.int .i64 x,.int .i64 y,.slice pf N cf,.slice (some ⟨ob,0,none⟩) N N] v fun e w'=>e=.returned (.bool false)/\Ab w w'):=fun v a=>by
     rw[<- hx,<- hy]
     exact(GV.out ob c hcn HO.out R v (AR.out.trans a) (cP RR.out a)).2 gc
    clear hx hy hcn hc xc yc gc
    go_upto_region 9 with fail
    go_region_with (go_at_call 121;refine(CG.out _ (by first | exact Ab.refl _ | exact(Ab.refl _).drew)).mono ?_;rintro e9 v1 ⟨rfl,a1⟩;have A1:=hid a1;clear a1 CG)
    all_goals
     go_wp2
     go_ret2
     exact⟨rfl,A1.out⟩
  ·have e6:M=c:=by omega
   subst e6
   exact absurd GG.out HB.out
theorem flP_og{n:Nat}{W H F:Nat->Int}{T e:Nat}(hn:1<=n)(hT:T<24*n*n)(he:e<12*n*n)(hH: ∀c,c<6*n*n->0<=H c/\H c<=9223372036854775807)(o: ∀c,c<6*n*n->oS n F c<=W c):
  flP n W H F (T+1) e=if e=eE n T/\0<og n F T then eS n T*tks n W H F T else flP n W H F T e:=by
 have st:=flP_step (W:=W) (H:=H) (F:=F) hn hT he hH o
 have cT:=sA (t:=T) (hH _ (aW hT)).1 (hH _ (aW hT)).2 (o _ (aW hT))
 rw[st]
 by_cases q:e=eE n T/\0<og n F T
 ·rw[if_pos q]
  by_cases z:0<tks n W H F T
  ·rw[if_pos ⟨q.1,z⟩,Int.mul_comm]
  ·rw[if_neg (fun h=>z h.2)]
   have z0:tks n W H F T=0:=by omega
   rw[z0,Int.mul_zero]
   have o2:og n F (mt n T)=0:=(oC (F:=F) hn hT).resolve_left (by omega)
   have m0:=kC (W:=W) (H:=H) o2
   have ed:edT n e=if isL n T=true then T else mt n T:=by rw[q.1];exact oD hn hT
   unfold flP
   by_cases l:isL n T=true
   ·rw[if_pos l]at ed
    rw[ed,m0,z0]
    simp
   ·rw[if_neg l]at ed
    rw[ed,gX hn hT,m0,z0]
    simp
 ·rw[if_neg q]
  by_cases z:0<tks n W H F T
  ·rw[if_neg (fun h=>q ⟨h.1,?_⟩)]
   have g:=yN n F T
   rcases Int.lt_or_eq_of_le g with h1 | h1
   ·exact h1
   ·have:=kC (W:=W) (H:=H) h1.symm
    omega
  ·rw[if_neg (fun h=>z h.2)]
def putS(E:Nat->Nat)(sg g k R:Nat->Int):Nat->Nat->Int
 | 0=>R
 | s+1=>fun i=>if i=E s/\0<g s then sg s*k s else putS E sg g k R s i
theorem sT{n c:Nat}{F:Nat->Int}(hn:1<=n/\n<=32)(hc:c<6*n*n)(hF: ∀e,e<12*n*n-> -4503599627370496<=F e/\F e<=4503599627370496):
  ∀s,s<4->eE n (4*c+s)<12*n*n/\eE n (4*c+s)<12*n*n/\eE n (4*c+s)<=65536/\(-4503599627370496<=eS n (4*c+s)*F (eE n (4*c+s))/\eS n (4*c+s)*F (eE n (4*c+s))<=4503599627370496)/\oA n F c s=(if 0<eS n (4*c+s)*F (eE n (4*c+s))then eS n (4*c+s)*F (eE n (4*c+s))else 0):=by
 intro s hs
 have nb:12*n*n<=65536:=by
  have h1:n*n<=32*32:=Nat.mul_le_mul hn.2 hn.2
  rw[Nat.mul_assoc]
  omega
 have sgn:eS n (4*c+s)=1\/eS n (4*c+s)= -1:=by unfold eS;split<;>simp
 have e:=fQ hn.1 (fE hc hs)
 have f:=hF _ e
 refine⟨e,e,by omega,?_,?_⟩
 ·rcases sgn with q | q<;>rw[q]<;>omega
 ·unfold oA og
  rw[Int.mul_comm]
theorem pE{n gb fb fo cf b c:Nat}{W H F:Nat->Int}{P:Nat->Nat->Int}{w v:World}(hn:1<=n/\n<=32)(hc:c<6*n*n)(g:GridOf n gb w)(iF:IsI w (some ⟨fb,fo,none⟩) (12*n*n) F)(hW:Sh.W64 (W c))(hH:Sh.W64 (H c))(gd:oO (W c) (H c) 4 (oA n F c))(hF: ∀e,e<12*n*n-> -4503599627370496<=F e/\F e<=4503599627370496)(hb:w.heap.size<=b)(a:Ab w v)
  (r:v.rowIs b 2 (12*n*n) (fun i=>.int .i64 (P 0 i))) (st: ∀s,s<4-> ∀i,i<12*n*n->P (s+1) i=if i=eE n (4*c+s)/\0<oA n F c s then eS n (4*c+s)*tkA (H c) (W c) (oA n F c) s else P s i):
  Calls prog 121 #[.pointer (some ⟨gb,0,none⟩),.int .i64 (c:Nat),.int .i64 (W c),.int .i64 (H c),.slice (some ⟨fb,fo,none⟩) (12*n*n) cf,.slice (some ⟨b,0,none⟩) (12*n*n) (12*n*n)] v fun e w'=>e=.returned (.bool true)/\Ab w w'/\w'.rowIs b 2 (12*n*n) (fun i=>.int .i64 (P 4 i)):=by
 have ff:=sT hn hc hF
 refine BT gb (12*n*n) c fb fo (12*n*n) cf b (W c) (H c) (fun s=>eE n (4*c+s)) (fun s=>eS n (4*c+s)) (fun s=>F (eE n (4*c+s))) (oA n F c) (tkA (H c) (W c) (oA n F c)) P w v hb a r ?_ ?_ ?_ ?_ st
 ·intro u s hs au
  exact zP hn hc hs (g.to au)
 ·intro u s hs au
  exact((iF.below au).at0 (fQ hn.1 (fE hc hs))).2.2
 ·intro s hs
  obtain⟨f1,f2,f3,f4,f5⟩:=ff s hs
  have sgn:eS n (4*c+s)=1\/eS n (4*c+s)= -1:=by unfold eS;split<;>simp
  have t:=tk_w64 gd hH hs
  have:=hH.2
  refine⟨f1,f2,f3,f4,f5,?_⟩
  show -9223372036854775807<=eS n (4*c+s)*tkA (H c) (W c) (oA n F c) s/\eS n (4*c+s)*tkA (H c) (W c) (oA n F c) s<=9223372036854775807
  rcases sgn with q | q<;>rw[q]<;>omega
 ·intro u o io
  refine((takesC (W c) (H c) (some ⟨o,0,none⟩) 4 4 _ u hW hH (by omega) io).1 gd).mono ?_
  rintro e w' ⟨v',rfl,bl,ow⟩
  obtain⟨g2,cap,G,rfl,h1,h2,-,h4,h5⟩:=Fz ow (by omega)
  exact⟨g2,cap,G,rfl,bl,h1,h2,h4,h5⟩
theorem BU{n gb fb fo cf b c:Nat}{W H F:Nat->Int}{R:Nat->Int}{w v:World}(hn:1<=n/\n<=32)(hc:c<6*n*n)(g:GridOf n gb w)(iF:IsI w (some ⟨fb,fo,none⟩) (12*n*n) F)(hW:Sh.W64 (W c))(hH:Sh.W64 (H c))(gd: ¬oO (W c) (H c) 4 (oA n F c))(hF: ∀e,e<12*n*n-> -4503599627370496<=F e/\F e<=4503599627370496)(hb:w.heap.size<=b)(a:Ab w v)
  (r:v.rowIs b 2 (12*n*n) (fun i=>.int .i64 (R i))):
  Calls prog 121 #[.pointer (some ⟨gb,0,none⟩),.int .i64 (c:Nat),.int .i64 (W c),.int .i64 (H c),.slice (some ⟨fb,fo,none⟩) (12*n*n) cf,.slice (some ⟨b,0,none⟩) (12*n*n) (12*n*n)] v fun e w'=>e=.returned (.bool false)/\Ab w w':=by
 refine(FF gb (12*n*n) c fb fo (12*n*n) cf b (W c) (H c) (fun s=>eE n (4*c+s)) (fun s=>eS n (4*c+s)) (fun s=>F (eE n (4*c+s))) (oA n F c) R w v hb a r ?_ ?_ (sT hn hc hF) ?_).mono ?_
 ·intro u s hs au
  exact zP hn hc hs (g.to au)
 ·intro u s hs au
  exact((iF.below au).at0 (fQ hn.1 (fE hc hs))).2.2
 ·intro u o io
  exact(takesC (W c) (H c) (some ⟨o,0,none⟩) 4 4 _ u hW hH (by omega) io).2 gd
 ·rintro e w' ⟨rfl,h1,-⟩
  exact⟨rfl,h1⟩
theorem flowsC:FlowsC:=by
 intro n gb pw lw cw W ph lh ch H pf lf cf F w hn g hlw hlh hlf iW iH iF
 have CE: ∀v,Ab w v->Calls prog 7 #[.pointer (some ⟨gb,0,none⟩)] v fun e w'=>e=.returned (.int .i64 (6*n*n:Nat))/\w'=v:=fun v a=>dT (g.to a)
 have ED: ∀v,Ab w v->Calls prog 8 #[.pointer (some ⟨gb,0,none⟩)] v fun e w'=>e=.returned (.int .i64 (12*n*n:Nat))/\w'=v:=fun v a=>bZ (g.to a)
 have p1:0<n*n:=Nat.mul_pos (by omega) (by omega)
 have q1:0<6*n*n:=by rw[Nat.mul_assoc];omega
 have q2:0<12*n*n:=by rw[Nat.mul_assoc];omega
 have toB:(Calls prog 76 #[.pointer (some ⟨gb,0,none⟩),.slice pw lw cw,.slice ph lh ch,.slice pf lf cf] w fun e w'=>e=.returned (.tuple #[.slice none 0 0,.int .i64 1])/\w'=w)->Calls prog 76 #[.pointer (some ⟨gb,0,none⟩),.slice pw lw cw,.slice ph lh ch,.slice pf lf cf] w fun e w'=>e=.returned (.tuple #[.slice none 0 0,.int .i64 1])/\Below w.heap.size w w':=fun h=>h.mono (by
  rintro e w' ⟨rfl,rfl⟩
  exact⟨rfl,Below.refl _ _⟩)
 constructor
 ·rintro⟨rfl,rfl,rfl,hW,hH,hF,hO⟩
  obtain⟨wb,wo,rfl⟩:=iW.some0 q1
  obtain⟨hb,ho,rfl⟩:=iH.some0 q1
  obtain⟨fb,fo,rfl⟩:=iF.some0 q2
  have hH2: ∀c,c<6*n*n->0<=H c/\H c<=9223372036854775807:=fun c hc=>⟨hH c hc,(iH.at0 hc).1.2⟩
  have e:(List.range (12*n*n)).map (flF n W H F)=(List.range (12*n*n)).map (flP n W H F (4*(6*n*n))):=by
   refine List.map_congr_left (fun i hi=> ?_)
   rw[show 4*(6*n*n)=24*n*n by rw[Nat.mul_assoc,Nat.mul_assoc];omega,flP_all hn.1 (List.mem_range.1 hi)]
  rw[e]
  refine FI gb wb wo _ cw hb ho ch (some ⟨fb,fo,none⟩) _ cf W H (fun T i=>flP n W H F T i) w hlw hlf (lD gb _ _ _ _ cw _ _ ch _ _ cf true w CE ED (show _ ↔ _ by simp)) (pD _ _ cf F w hlf iF (fun i hi=> ?_)) ?_ ?_ (fun i=>flP_0 n W H F i)
  ·have h:=hF i hi
   unfold gC
   rw[decide_eq_false (show¬F i< -4503599627370496 by omega),decide_eq_false (show¬4503599627370496<F i by omega)]
   rfl
  ·intro c hc v a
   exact⟨((iW.below a).at0 hc).2.2,((iH.below a).at0 hc).2.2⟩
  ·intro b c hc hb v a r
   refine pE (P:=fun s i=>flP n W H F (4*c+s) i) hn hc g iF (iW.at0 hc).1 (iH.at0 hc).1 ⟨hW c hc,hH c hc,oA_ok (hO c hc)⟩ hF hb a r (fun s hs i hi=> ?_)
   have h:=flP_og (W:=W) (H:=H) (F:=F) hn.1 (fE hc hs) hi hH2 hO
   unfold tks at h
   rw[(lY hs).1,(lY hs).2]at h
   exact h
 ·intro nf
  by_cases c1:lw=6*n*n/\lh=6*n*n/\lf=12*n*n
  ·by_cases c2: ∀i,i<lf->gC (F i)=false
   ·obtain⟨rfl,rfl,rfl⟩:=c1
    obtain⟨wb,wo,rfl⟩:=iW.some0 q1
    obtain⟨hb,ho,rfl⟩:=iH.some0 q1
    obtain⟨fb,fo,rfl⟩:=iF.some0 q2
    have hF: ∀e,e<12*n*n-> -4503599627370496<=F e/\F e<=4503599627370496:=fun i hi=>by
     have k:=c2 i hi
     unfold gC at k
     rw[Bool.or_eq_false_iff]at k
     have k1:=of_decide_eq_false k.1
     have k2:=of_decide_eq_false k.2
     omega
    refine FJ gb wb wo _ cw hb ho ch (some ⟨fb,fo,none⟩) _ cf W H (fun c=>oO (W c) (H c) 4 (oA n F c)) w hlw hlf (lD gb _ _ _ _ cw _ _ ch _ _ cf true w CE ED (show _ ↔ _ by simp)) (pD _ _ cf F w hlf iF c2) ?_ ?_ ?_
    ·intro c hc v a
     exact⟨((iW.below a).at0 hc).2.2,((iH.below a).at0 hc).2.2⟩
    ·intro b c hc hb R v a r
     constructor
     ·intro gd
      refine(pE (P:=putS (fun s=>eE n (4*c+s)) (fun s=>eS n (4*c+s)) (oA n F c) (tkA (H c) (W c) (oA n F c)) R) hn hc g iF (iW.at0 hc).1 (iH.at0 hc).1 gd hF hb a r (fun s hs i hi=>rfl)).mono ?_
      rintro e w' ⟨rfl,h1,h2⟩
      exact⟨rfl,h1,_,h2⟩
     ·intro gd
      exact BU hn hc g iF (iW.at0 hc).1 (iH.at0 hc).1 gd hF hb a r
    ·intro al
     exact nf ⟨rfl,rfl,rfl,fun c hc=>(al c hc).1,fun c hc=>(al c hc).2.1,hF,fun c hc=>(al c hc).2.2.2⟩
   ·exact toB (FH gb pw lw cw ph lh ch pf lf cf w (lD gb _ _ pw lw cw ph lh ch pf lf cf true w CE ED (show _ ↔ _ by simp[c1])) (wP pf lf cf F w hlf iF c2))
  ·exact toB (FG gb pw lw cw ph lh ch pf lf cf w (lD gb _ _ pw lw cw ph lh ch pf lf cf false w CE ED (show _ ↔ _ by simpa using fun h h2=>not_and.1 (not_and.1 c1 h) h2)))
end Tr
end
section
open Go.RowKit Go.Deep Cu
namespace Ms
open Sh
def W64(x:Int):Prop:= -9223372036854775808<=x/\x<=9223372036854775807
def fit2(n lw lf:Nat):Prop:=lw=6*n*n/\lf=12*n*n
def can(n:Nat)(W F:Nat->Int):Prop:= ∀c,c<6*n*n->0<=mv n W F c/\mv n W F c<=9223372036854775807
def MoveC:Prop:= ∀(n gb:Nat) (pw:Option Addr) (lw cw:Nat) (W:Nat->Int) (pf:Option Addr) (lf cf:Nat) (F:Nat->Int) (w:World),(1<=n/\n<=32)->GridOf n gb w->lw<=9223372036854775807->lf<=9223372036854775807->IsI w pw lw W->IsI w pf lf F->
 (fit2 n lw lf->can n W F->Calls prog 45 #[.pointer (some ⟨gb,0,none⟩),.slice pw lw cw,.slice pf lf cf] w fun e w'=> ∃v,e=.returned (.tuple #[v,.int .i64 0])/\Below w.heap.size w w'/\Own w.heap.size v ((List.range (6*n*n)).map (mv n W F)) w')/\
 (fit2 n lw lf-> ¬can n W F->Calls prog 45 #[.pointer (some ⟨gb,0,none⟩),.slice pw lw cw,.slice pf lf cf] w fun e w'=>e=.returned (.tuple #[.slice none 0 0,.int .i64 20])/\Below w.heap.size w w')/\
 (¬fit2 n lw lf->Calls prog 45 #[.pointer (some ⟨gb,0,none⟩),.slice pw lw cw,.slice pf lf cf] w fun e w'=>e=.returned (.tuple #[.slice none 0 0,.int .i64 1])/\Below w.heap.size w w')
end Ms
end
section
open Go.RowKit Go.Deep Cu
namespace Ms
open Sh
def loW(x:Int):Int:=x%18446744073709551616
def hiW(x:Int):Int:=x/18446744073709551616%18446744073709551616
def wd(n:Int):Int:=if n<0 then n+18446744073709551616 else n
def sgW(n:Int):Int:=if n<0 then 18446744073709551615 else 0
theorem dQ(x:Int):0<=loW x/\loW x<18446744073709551616:=by unfold loW;omega
theorem fC(x:Int):0<=hiW x/\hiW x<18446744073709551616:=by unfold hiW;omega
theorem uT{n:Int}(h:W64 n):0<=wd n/\wd n<18446744073709551616:=by
 unfold W64 at h;unfold wd;split<;>omega
theorem sU(n:Int):0<=sgW n/\sgW n<18446744073709551616:=by unfold sgW;split<;>omega
theorem DT{n:Int}(h:W64 n):IntKind.u64.wrap n=wd n:=by
 unfold W64 at h;unfold wd
 simp[IntKind.wrap,IntKind.bits,IntKind.signed]
 split<;>omega
theorem plus_low{x n:Int}(_h:W64 n):(loW x+wd n+0)%18446744073709551616=loW (x+n):=by
 unfold loW wd;split<;>omega
theorem FK{x n:Int}(_h:W64 n):(hiW x+sgW n+(loW x+wd n+0)/18446744073709551616)%18446744073709551616=hiW (x+n):=by
 unfold hiW loW wd sgW;split<;>omega
theorem BV{x n:Int}(h:W64 n):0<=(loW x+wd n+0)/18446744073709551616/\(loW x+wd n+0)/18446744073709551616<=1:=by
 have:=dQ x
 have:=uT h
 omega
def bo(a b:Int):Int:=if a<b then 1 else 0
theorem bo_in(a b:Int):0<=bo a b/\bo a b<=1:=by unfold bo;split<;>omega
theorem FM{x n:Int}(_h:W64 n):(loW x+18446744073709551616 - wd n - 0)%18446744073709551616=loW (x - n):=by
 unfold loW wd;split<;>omega
theorem BZ{x n:Int}(h:W64 n):(hiW x+18446744073709551616 - sgW n - bo (loW x) (wd n+0))%18446744073709551616=hiW (x - n):=by
 unfold W64 at h;unfold hiW loW wd sgW bo
 by_cases c:n<0
 ·rw[if_pos c,if_pos c];split<;>omega
 ·rw[if_neg c,if_neg c];split<;>omega
def sh(x:Int):Int:=if loW x<9223372036854775808 then loW x else loW x - 18446744073709551616
theorem sh_in(x:Int):W64 (sh x):=by
 have:=dQ x
 unfold W64 sh;split<;>omega
theorem DW(x:Int):IntKind.i64.wrap (loW x)=sh x:=by
 have:=dQ x
 unfold sh
 generalize loW x=y at*
 simp[IntKind.wrap,IntKind.bits,IntKind.signed]
 split<;>omega
theorem sh_of{x:Int}(h:W64 x):sh x=x/\hiW x=sgW (sh x):=by
 unfold W64 at h
 have e:sh x=x:=by unfold sh loW;split<;>omega
 refine⟨e,?_⟩
 rw[e]
 unfold hiW sgW;split<;>omega
theorem sh_no{x:Int}(h: ¬W64 x)(a: -170141183460469231731687303715884105728<=x)(b:x<170141183460469231731687303715884105728):hiW x≠sgW (sh x):=by
 unfold W64 at h
 unfold hiW sgW sh loW
 intro e
 by_cases c:x%18446744073709551616<9223372036854775808
 ·rw[if_pos c,if_neg (by omega)]at e;omega
 ·rw[if_neg c,if_pos (by omega)]at e;omega
theorem DX(s:String)(x y c:Nat)(hc1:c<=1)(w:World):(Extern.MathBitsCarry.three s #[.int .u64 x,.int .u64 y,.int .u64 c]).run prog w=.ok (x,y,c) w:=by
 have h:c=0\/c=1:=by omega
 rcases h with rfl | rfl<;>rfl
theorem DY(x y c s o:Int)(hx:0<=x)(hy:0<=y)(hc:0<=c)(hc1:c<=1)(hs:(x+y+c)%18446744073709551616=s)(ho:(x+y+c)/18446744073709551616=o)(w:World):
  (callFunc 122 #[.int .u64 x,.int .u64 y,.int .u64 c]).run prog w=.ok (.value (.tuple #[.int .u64 s,.int .u64 o])) w:=by
 rw[run_callFunc_extern (e:=fun args=>do
  let(x,y,c) <- Extern.MathBitsCarry.three "Add64" args
  pure (Extern.MathBitsCarry.pair ((x+y+c)%Extern.MathBitsCarry.m64) ((x+y+c)/Extern.MathBitsCarry.m64))) func122 (by kernel_rfl) (by kernel_rfl) (by kernel_rfl) (by kernel_rfl)]
 obtain⟨x,rfl⟩: ∃n:Nat,x=n:=⟨x.toNat,by omega⟩
 obtain⟨y,rfl⟩: ∃n:Nat,y=n:=⟨y.toNat,by omega⟩
 obtain⟨c,rfl⟩: ∃n:Nat,c=n:=⟨c.toNat,by omega⟩
 have e:Extern.MathBitsCarry.m64=18446744073709551616:=by decide
 have hp:Extern.MathBitsCarry.pair ((x+y+c)%Extern.MathBitsCarry.m64) ((x+y+c)/Extern.MathBitsCarry.m64)=.tuple #[.int .u64 s,.int .u64 o]:=by
  unfold Extern.MathBitsCarry.pair
  rw[e,Int.ofNat_eq_natCast,Int.ofNat_eq_natCast]
  have h1:(((x+y+c)%18446744073709551616:Nat):Int)=s:=by omega
  have h2:(((x+y+c)/18446744073709551616:Nat):Int)=o:=by omega
  rw[h1,h2]
 have h4:=DX "Add64" x y c (by omega) w
 rw[Sem.run_bind,h4,Result.andThen_ok]
 show Result.andThen (Sem.run prog (pure (Extern.MathBitsCarry.pair ((x+y+c)%Extern.MathBitsCarry.m64) ((x+y+c)/Extern.MathBitsCarry.m64))) w) _=_
 rw[hp];rfl
theorem DZ(x y c s o:Int)(hx:0<=x)(hy:0<=y)(hy1:y<18446744073709551616)(hc:0<=c)(hc1:c<=1)(hs:(x+18446744073709551616 - y - c)%18446744073709551616=s)(ho:bo x (y+c)=o)(w:World):
  (callFunc 124 #[.int .u64 x,.int .u64 y,.int .u64 c]).run prog w=.ok (.value (.tuple #[.int .u64 s,.int .u64 o])) w:=by
 rw[run_callFunc_extern (e:=fun args=>do
  let(x,y,b) <- Extern.MathBitsCarry.three "Sub64" args
  pure (Extern.MathBitsCarry.pair ((x+Extern.MathBitsCarry.m64 - y - b)%Extern.MathBitsCarry.m64) (if x<y+b then 1 else 0))) func124 (by kernel_rfl) (by kernel_rfl) (by kernel_rfl) (by kernel_rfl)]
 obtain⟨x,rfl⟩: ∃n:Nat,x=n:=⟨x.toNat,by omega⟩
 obtain⟨y,rfl⟩: ∃n:Nat,y=n:=⟨y.toNat,by omega⟩
 obtain⟨c,rfl⟩: ∃n:Nat,c=n:=⟨c.toNat,by omega⟩
 have e:Extern.MathBitsCarry.m64=18446744073709551616:=by decide
 have hp:Extern.MathBitsCarry.pair ((x+Extern.MathBitsCarry.m64 - y - c)%Extern.MathBitsCarry.m64) (if x<y+c then 1 else 0)=.tuple #[.int .u64 s,.int .u64 o]:=by
  unfold Extern.MathBitsCarry.pair
  rw[e,Int.ofNat_eq_natCast,Int.ofNat_eq_natCast]
  have h1:(((x+18446744073709551616 - y - c)%18446744073709551616:Nat):Int)=s:=by omega
  have h2:(((if x<y+c then 1 else 0):Nat):Int)=o:=by
   unfold bo at ho
   by_cases d:x<y+c
   ·rw[if_pos d];rw[if_pos (by omega)]at ho;exact ho
   ·rw[if_neg d];rw[if_neg (by omega)]at ho;exact ho
  rw[h1,h2]
 have h4:=DX "Sub64" x y c (by omega) w
 rw[Sem.run_bind,h4,Result.andThen_ok]
 show Result.andThen (Sem.run prog (pure (Extern.MathBitsCarry.pair ((x+Extern.MathBitsCarry.m64 - y - c)%Extern.MathBitsCarry.m64) (if x<y+c then 1 else 0))) w) _=_
 rw[hp];rfl
def upF(k:Nat)(F:Nat->Int)(i:Nat):Int:=if i<k then F i else 0
theorem mv_nil{n c:Nat}(W F:Nat->Int)(hn:1<=n)(hc:c<6*n*n):mv n W (upF 0 F) c=W c:=by
 have h:=mv_back n W (fun _=>0) c
 have g:=mv_two n W (fun _=>0) (fun i=> -(fun _=>(0:Int)) i) c
 rw[h]at g
 rw[g]
 exact mV hn hc rfl (fun i _=>by simp[upF])
theorem mv_up{n k c:Nat}(W F:Nat->Int)(hn:1<=n)(hk:k<12*n*n)(hc:c<6*n*n):mv n W (upF (k+1) F) c=if c=edT n k/4 then mv n W (upF k F) c - F k else if c=mt n (edT n k)/4 then mv n W (upF k F) c+F k else mv n W (upF k F) c:=by
 rw[<- mv_one (q:=F k) (mv n W (upF k F)) hn hk hc,mv_two]
 refine mV hn hc rfl (fun i _=> ?_)
 unfold upF oneF
 by_cases a:i<k
 ·rw[if_pos (by omega),if_pos a,if_neg (by omega)];omega
 ·by_cases b:i=k
  ·subst b;rw[if_pos (by omega),if_neg (by omega),if_pos rfl];omega
  ·rw[if_neg (by omega),if_neg a,if_neg b];omega
theorem wQ{n c:Nat}(W F:Nat->Int)(hn:1<=n)(hc:c<6*n*n):mv n W (upF (12*n*n) F) c=mv n W F c:=
 mV hn hc rfl (fun i hi=>by unfold upF;rw[if_pos hi])
end Ms
end
section
open Go.RowKit Go.Deep Cu
namespace Ms
open Sh
theorem mZ(n:Int)(w:World)(h:W64 n):Calls prog 123 #[.int .i64 n] w fun e w'=>e=.returned (.int .u64 (sgW n))/\w'=w:=by
 unfold W64 at h
 obtain⟨h1,h2⟩:=h
 by_cases c:n<0
 ·have e:n/9223372036854775808= -1:=by omega
  have e2:sgW n=18446744073709551615:=if_pos c
  rw[e2]
  go_enter func123,ntmps123
  go_wp2
  go_ret
  exact⟨rfl,rfl⟩
 ·have e:n/9223372036854775808=0:=by omega
  have e2:sgW n=0:=if_neg c
  rw[e2]
  go_enter func123,ntmps123
  go_wp2
  go_ret
  exact⟨rfl,rfl⟩
def PlW(w wr:World)(y:Int):Prop:=wr.heap[w.heap.size]? =some (.cells #[.int .u64 (hiW y),.int .u64 (loW y)] 135)/\wr.heap[w.heap.size+1]? =some (.cells #[.int .u64 0,.int .u64 0] 135)/\Below w.heap.size w wr
theorem frz2{w:World}{b:Nat}{v1 v2:Value}{T:TypeId}(h:w.heap[b]? =some (.cells #[v1,v2] T))(k:Nat):w.frozen? ⟨b,k,none⟩=false:=by
 have r:w.rowIs b T 2 (fun k=>(#[v1,v2]:Array Value).getD k (.bool false)):=⟨_,h,rfl,fun i hi=>by
  match i,hi with
  | 0,_=>rfl
  | 1,_=>rfl⟩
 exact r.frozen k
theorem D0{w:World}{b:Nat}{v1 v2:Value}{T:TypeId}(h:w.heap[b]? =some (.cells #[v1,v2] T))(a c:Value):((w.setCell ⟨b,0,none⟩ a).setCell ⟨b,1,none⟩ c).heap[b]? =some (.cells #[a,c] T):=aI (aI h)
theorem PlW.drewN{w wr:World}{y:Int}(h:PlW w wr y)(q:Nat):PlW w (wr.drewN q) y:=⟨by simpa using h.1,by simpa using h.2.1,Ab.drewN h.2.2 q⟩
theorem PlW.put{w wr:World}{y:Int}(h:PlW w wr y)(z:Int):PlW w ((wr.setCell ⟨w.heap.size,0,none⟩ (.int .u64 (hiW z))).setCell ⟨w.heap.size,1,none⟩ (.int .u64 (loW z))) z:=
 ⟨aI (aI h.1),by rw[Below.heap_setCell _ _ _ _ (by simp),Below.heap_setCell _ _ _ _ (by simp)];exact h.2.1,Ab.setk (Ab.setk h.2.2 (Nat.le_refl _) _) (Nat.le_refl _) _⟩
theorem mA(p:Option Addr)(n c:Nat)(f:Nat->Int)(x:Int)(w:World)(hn:n<=9223372036854775807)(hf:Hid (IsI w p n f)):
  Calls prog 77 #[.agg #[.int .u64 (hiW x),.int .u64 (loW x)],.slice p n c] w fun e w'=>e=.returned (.agg #[.int .u64 (hiW (x+sumN f n)),.int .u64 (loW (x+sumN f n))])/\Below w.heap.size w w':=by
 have P0:Hid (PlW w ((w.alloc (.cells #[.int .u64 (hiW x),.int .u64 (loW x)] 135)).alloc (.cells #[.int .u64 0,.int .u64 0] 135)) x):=⟨heap_alloc2_old _ _ _,heap_alloc2_new _ _ _,bl2 _ _ _⟩
 go_enter func77,ntmps77
 go_wp2
 go_loopw [13] (fun kv wr=> ∃k:Nat,k<=n/\kv=.int .i64 (k:Nat)/\PlW w wr (x+sumN f k)) (fun kv _=>n - (intOf kv).toNat)
 case atStart=>
  refine⟨0,by omega,rfl,?_⟩
  rw[show x+sumN f 0=x from Int.add_zero x]
  exact P0.out
 case round=>
  obtain⟨k,hk,rfl,r1⟩:=hrel
  have R1:=hid r1
  clear r1 P0
  by_cases hlt:k<n
  ·have hI:=hf.out k hlt
   obtain⟨hI1,b,o,rfl,hb,hc⟩:=hI
   have hw:W64 (f k):=hI1
   have c0:wr.cell? ⟨b,o+k,none⟩=some (.int .i64 (f k)):=by rw[<- hc];exact World.cell?_of_block (Below.block R1.out.2.2 b hb)
   have x0:=aA 0 R1.out.1
   have x1:=aA 1 R1.out.1
   have z0:=frz2 R1.out.1 0
   have z1:=frz2 R1.out.1 1
   have E1:Hid (x+sumN f (k+1)=x+sumN f k+f k):=by
    show x+(sumN f k+f k)=_
    omega
   have HL:=hid hlt
   have kI:(k:Int)<n:=by omega
   have nI:(n:Int)<=9223372036854775807:=by omega
   generalize x+sumN f k=y at*
   generalize f k=q at*
   obtain⟨cy,hcy⟩:=aB ((loW y+wd q+0)/18446744073709551616)
   have pc:=BV (x:=y) hw
   have ph:=FK (x:=y) hw
   rw[hcy]at pc ph
   have A1:=DY (loW y) (wd q) 0 (loW (y+q)) cy (dQ y).1 (uT hw).1 (by omega) (by omega) (plus_low hw) hcy
   have A2:=DY (hiW y) (sgW q) cy (hiW (y+q)) _ (fC y).1 (sU q).1 pc.1 pc.2 ph rfl
   have SG:=hid (fun u=>mZ q u hw)
   have hwr:=DT hw
   have y1:=dQ y
   have y2:=fC y
   have y3:=dQ (y+q)
   have y4:=fC (y+q)
   have y5:=uT hw
   have y6:=sU q
   generalize(hiW y+sgW q+cy)/18446744073709551616=o2 at*
   clear hcy ph hI1 hc hf hw
   generalize hiW y=hy at*
   generalize loW y=ly at*
   generalize sgW q=sq at*
   generalize wd q=wq at*
   go_wp2_with fail
   go_quiet (first | (go_at_call 123;refine Calls.quiet_of_same (SG.out _)))
   go_wp2
   refine⟨⟨k+1,by have:=HL.out;omega,by simp,?_⟩,by have:=HL.out;simp[intOf];omega⟩
   rw[E1.out]
   exact(R1.out.drewN nq).put _
  ·obtain rfl:k=n:=by omega
   have x0:=aA 0 R1.out.1
   have x1:=aA 1 R1.out.1
   have z0:=frz2 R1.out.2.1 0
   have z1:=frz2 R1.out.2.1 1
   have v0:=aA 0 R1.out.2.1
   have v1:=aA 1 R1.out.2.1
   have y3:=dQ (x+sumN f k)
   have y4:=fC (x+sumN f k)
   obtain⟨y,hy⟩:=aB (x+sumN f k)
   rw[hy]at x0 x1 y3 y4
   have HY:=hid hy
   clear hy
   go_wp2
   rw[HY.out]
   refine bodyPost_ret ?_ rfl ⟨rfl,?_⟩
   ·exact results_cell_row results77 _ _ (w.heap.size+1) _ _ (0,0) _ rfl (D0 R1.out.2.1 _ _) underlying135 rfl (by kernel_rfl)
   ·exact Ab.setk (Ab.setk R1.out.2.2 (Nat.le_succ _) _) (Nat.le_succ _) _
theorem mN(x q:Int)(w:World)(hw:W64 q):
  Calls prog 78 #[.agg #[.int .u64 (hiW x),.int .u64 (loW x)],.int .i64 q] w fun e w'=>e=.returned (.agg #[.int .u64 (hiW (x - q)),.int .u64 (loW (x - q))])/\Below w.heap.size w w':=by
 have P0:Hid (PlW w ((w.alloc (.cells #[.int .u64 (hiW x),.int .u64 (loW x)] 135)).alloc (.cells #[.int .u64 0,.int .u64 0] 135)) x):=⟨heap_alloc2_old _ _ _,heap_alloc2_new _ _ _,bl2 _ _ _⟩
 obtain⟨cy,hcy⟩:=aB (bo (loW x) (wd q+0))
 have pc:=bo_in (loW x) (wd q+0)
 have ph:=BZ (x:=x) hw
 rw[hcy]at pc ph
 have A1:=DZ (loW x) (wd q) 0 (loW (x - q)) cy (dQ x).1 (uT hw).1 (uT hw).2 (by omega) (by omega) (FM hw) hcy
 have A2:=DZ (hiW x) (sgW q) cy (hiW (x - q)) _ (fC x).1 (sU q).1 (sU q).2 pc.1 pc.2 ph rfl
 have SG:=hid (fun u=>mZ q u hw)
 have hwr:=DT hw
 have y1:=dQ x
 have y2:=fC x
 have y3:=dQ (x - q)
 have y4:=fC (x - q)
 have y5:=uT hw
 have y6:=sU q
 generalize bo (hiW x) (sgW q+cy)=o2 at*
 clear hcy ph hw
 generalize loW (x - q)=lz at*
 generalize hiW (x - q)=hz at*
 generalize sgW q=sq at*
 generalize wd q=wq at*
 go_enter func78,ntmps78
 go_upto_region 1 with fail
 generalize World.alloc _ _=W at*
 have x0:=aA 0 P0.out.1
 have x1:=aA 1 P0.out.1
 have v0:=aA 0 P0.out.2.1
 have v1:=aA 1 P0.out.2.1
 have z0:=frz2 P0.out.2.1 0
 have z1:=frz2 P0.out.2.1 1
 go_wp2_with fail
 go_quiet (first | (go_at_call 123;refine Calls.quiet_of_same (SG.out _)))
 go_wp2
 refine bodyPost_ret ?_ rfl ⟨rfl,?_⟩
 ·exact results_cell_row results78 _ _ (w.heap.size+1) _ _ (0,0) _ rfl (D0 (P0.out.drewN nq).2.1 _ _) underlying135 rfl (by kernel_rfl)
 ·exact Ab.setk (Ab.setk (P0.out.drewN nq).2.2 (Nat.le_succ _) _) (Nat.le_succ _) _
theorem zS(x s:Int)(sg:Int)(ok:Bool)(w:World)(hs:IntKind.i64.wrap (loW x)=s)(hok:(hiW x==sg)=ok)(SG:Hid (∀u,Calls prog 123 #[.int .i64 s] u fun e w'=>e=.returned (.int .u64 sg)/\w'=u)):
  Calls prog 125 #[.agg #[.int .u64 (hiW x),.int .u64 (loW x)]] w fun e w'=>e=.returned (.tuple #[.int .i64 s,.bool ok])/\Below w.heap.size w w':=by
 obtain⟨B0,P0⟩:=aL w (.cells #[.int .u64 (hiW x),.int .u64 (loW x)] 135)
 have y1:=dQ x
 have y2:=fC x
 generalize hiW x=hx at*
 generalize loW x=lx at*
 go_enter func125,ntmps125
 go_upto_region 1 with fail
 generalize World.alloc _ _=W at*
 have x0:=aA 0 P0.out
 have x1:=aA 1 P0.out
 go_wp2_with fail
 go_quiet (first | (go_at_call 123;refine Calls.quiet_of_same (SG.out _)))
 go_wp2
 go_ret2
 exact⟨rfl,Ab.drewN B0.out nq⟩
theorem FO(x:Int)(w:World)(h:W64 x):Calls prog 125 #[.agg #[.int .u64 (hiW x),.int .u64 (loW x)]] w fun e w'=>e=.returned (.tuple #[.int .i64 x,.bool true])/\Below w.heap.size w w':=by
 obtain⟨e1,e2⟩:=sh_of h
 have e3:=DW x
 rw[e1]at e2 e3
 exact zS x x (sgW x) true w e3 (by rw[e2];simp) (fun u=>mZ x u h)
theorem short_no(x:Int)(w:World)(h: ¬W64 x)(a: -170141183460469231731687303715884105728<=x)(b:x<170141183460469231731687303715884105728):Calls prog 125 #[.agg #[.int .u64 (hiW x),.int .u64 (loW x)]] w fun e w'=>e=.returned (.tuple #[.int .i64 (sh x),.bool false])/\Below w.heap.size w w':=
 zS x (sh x) (sgW (sh x)) false w (DW x) (beq_eq_false_iff_ne.2 (sh_no h a b)) (fun u=>mZ _ u (sh_in x))
end Ms
end
end Go.Proofs.YtmhnilnaffjhmaaGreatDoor
