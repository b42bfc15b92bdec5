/-
  Some of the texts of this proof, one behind the other.
-/
import Derived.Test.YtmhnilnaffjhmaaGreatDoorCeg19
set_option maxRecDepth 100000
set_option maxHeartbeats 400000000
namespace Go.Proofs.YtmhnilnaffjhmaaGreatDoor
open _root_.Go.Proofs.Tryz
section
open Go.RowKit Go.Deep
namespace Sh
theorem Fx(p:Option Addr)(n cp:Nat)(f:Nat->Int)(w:World)(hn:n<=65536)(hf:IsI w p n f)(HG:Hid ((∀i,i<n->0<=f i)/\sumN f n<=9223372036854775807)):
  Calls prog 178 #[.slice p n cp] w fun e w'=>e=.returned (.tuple #[.int .i64 (sumN f n),.bool true])/\w'=w:=by
 have HF:=hid hf
 have HN:=hid hn
 clear hf hn
 go_enter func178,ntmps178
 go_wp2
 go_loopw [4,9] (fun sv iv wr=> ∃c:Nat,c<=n/\iv=.int .i64 (c:Nat)/\sv=.int .i64 (sumN f c)/\(∀i,i<c->0<=f i)/\sumN f c<=9223372036854775807/\wr=w) (fun _ iv _=>n - (intOf iv).toNat)
 case atStart=>exact⟨0,by omega,rfl,rfl,fun i hi=>absurd hi (Nat.not_lt_zero i),by show(0:Int)<=_;omega,rfl⟩
 case round=>
  obtain⟨c,hc,rfl,rfl,g1,g2,hwr⟩:=hrel
  have hwr2:=hwr.symm
  subst hwr2
  have G1:=hid g1
  have HC:=hid hc
  have s0:=fO g1
  obtain⟨s,hs⟩:=aB (sumN f c)
  have SE:=hid hs
  rw[hs]at s0 g2 ⊢
  clear g1 hs
  by_cases hcn:c<n
  ·have HC2:=hid hcn
   have hcI:(c:Int)<n:=by omega
   have hcB:(c:Int)<=65536:=by have:=HN.out;omega
   obtain⟨b0,o0,rfl⟩:=HF.out.some0 (show 0<n by omega)
   obtain⟨x,hx⟩:=aB (f c)
   have at0:=HF.out.at0 hcn
   rw[hx]at at0
   have xc:=at0.2.2
   have x1:=at0.1.1
   have x2:=at0.1.2
   have XE:=hid hx
   clear at0 hx hcn hc
   have NX:Hid (0<=x->s+x<=9223372036854775807-> ∃c':Nat,c'<=n/\Value.int .i64 (↑c+1)=.int .i64 (c':Nat)/\Value.int .i64 (s+x)=.int .i64 (sumN f c')/\(∀i,i<c'->0<=f i)/\sumN f c'<=9223372036854775807/\True):=fun q1 q2=>by
    have e:sumN f (c+1)=s+x:=by show sumN f c+f c=_;rw[SE.out,XE.out]
    refine⟨c+1,by have:=HC2.out;omega,by simp,by rw[e],fun i hi=> ?_,by rw[e];exact q2,trivial⟩
    by_cases l:i<c
    ·exact G1.out i l
    ·obtain rfl:i=c:=by omega
     rw[XE.out];exact q1
   have q0:0<=x:=by rw[<- XE.out];exact HG.out.1 c HC2.out
   have q1:s+x<=9223372036854775807:=by
    have m:=fI HG.out.1 (m:=c+1) (by have:=HC2.out;omega)
    have e:sumN f (c+1)=s+x:=by show sumN f c+f c=_;rw[SE.out,XE.out]
    have:=HG.out.2
    omega
   have d1:decide (x<0)=false:=decide_eq_false (by omega)
   have d2:decide (9223372036854775807 - s<x)=false:=decide_eq_false (by omega)
   go_wp2
   exact⟨NX.out (by omega) (by omega),by have:=HC2.out;simp[intOf];omega⟩
  ·have e6:n=c:=by omega
   subst e6
   go_wp2
   go_ret2
   exact⟨by rw[SE.out];rfl,by first | trivial | rfl⟩
theorem total_no(p:Option Addr)(n cp:Nat)(f:Nat->Int)(w:World)(hn:n<=65536)(hf:IsI w p n f)(HB:Hid (¬((∀i,i<n->0<=f i)/\sumN f n<=9223372036854775807))):
  Calls prog 178 #[.slice p n cp] w fun e w'=>e=.returned (.tuple #[.int .i64 0,.bool false])/\w'=w:=by
 have HF:=hid hf
 have HN:=hid hn
 clear hf hn
 go_enter func178,ntmps178
 go_wp2
 go_loopw [4,9] (fun sv iv wr=> ∃c:Nat,c<=n/\iv=.int .i64 (c:Nat)/\sv=.int .i64 (sumN f c)/\(∀i,i<c->0<=f i)/\sumN f c<=9223372036854775807/\wr=w) (fun _ iv _=>n - (intOf iv).toNat)
 case atStart=>exact⟨0,by omega,rfl,rfl,fun i hi=>absurd hi (Nat.not_lt_zero i),by show(0:Int)<=_;omega,rfl⟩
 case round=>
  obtain⟨c,hc,rfl,rfl,g1,g2,hwr⟩:=hrel
  have hwr2:=hwr.symm
  subst hwr2
  have G1:=hid g1
  have HC:=hid hc
  have s0:=fO g1
  obtain⟨s,hs⟩:=aB (sumN f c)
  have SE:=hid hs
  rw[hs]at s0 g2 ⊢
  clear g1 hs
  by_cases hcn:c<n
  ·have HC2:=hid hcn
   have hcI:(c:Int)<n:=by omega
   have hcB:(c:Int)<=65536:=by have:=HN.out;omega
   obtain⟨b0,o0,rfl⟩:=HF.out.some0 (show 0<n by omega)
   obtain⟨x,hx⟩:=aB (f c)
   have at0:=HF.out.at0 hcn
   rw[hx]at at0
   have xc:=at0.2.2
   have x1:=at0.1.1
   have x2:=at0.1.2
   have XE:=hid hx
   clear at0 hx hcn hc
   have NX:Hid (0<=x->s+x<=9223372036854775807-> ∃c':Nat,c'<=n/\Value.int .i64 (↑c+1)=.int .i64 (c':Nat)/\Value.int .i64 (s+x)=.int .i64 (sumN f c')/\(∀i,i<c'->0<=f i)/\sumN f c'<=9223372036854775807/\True):=fun q1 q2=>by
    have e:sumN f (c+1)=s+x:=by show sumN f c+f c=_;rw[SE.out,XE.out]
    refine⟨c+1,by have:=HC2.out;omega,by simp,by rw[e],fun i hi=> ?_,by rw[e];exact q2,trivial⟩
    by_cases l:i<c
    ·exact G1.out i l
    ·obtain rfl:i=c:=by omega
     rw[XE.out];exact q1
   by_cases q0:x<0
   ·have d1:decide (x<0)=true:=decide_eq_true q0
    go_wp2
    go_ret2
    exact⟨rfl,by first | trivial | rfl⟩
   ·have d1:decide (x<0)=false:=decide_eq_false q0
    by_cases q1:9223372036854775807 - s<x
    ·have d2:decide (9223372036854775807 - s<x)=true:=decide_eq_true q1
     go_wp2
     go_ret2
     exact⟨rfl,by first | trivial | rfl⟩
    ·have d2:decide (9223372036854775807 - s<x)=false:=decide_eq_false q1
     go_wp2
     exact⟨NX.out (by omega) (by omega),by have:=HC2.out;simp[intOf];omega⟩
  ·have e6:n=c:=by omega
   subst e6
   exact absurd ⟨G1.out,by rw[SE.out];exact g2⟩ HB.out
theorem DS(W S:Int)(ok:Bool)(p:Option Addr)(n cp:Nat)(w:World)(hW:W<0)
  (T:Hid (Calls prog 178 #[.slice p n cp] w fun e w'=>e=.returned (.tuple #[.int .i64 S,.bool ok])/\w'=w)):
  Calls prog 155 #[.int .i64 W,.slice p n cp] w fun e w'=>e=.returned (.tuple #[.slice none 0 0,.int .i64 1])/\w'=w:=by
 have d0:decide (W<0)=true:=decide_eq_true hW
 go_enter func155,ntmps155
 go_wp2_with fail
 refine T.out.mono ?_
 rintro e9 v ⟨rfl,hv⟩
 have hv2:=hv.symm
 subst hv2
 go_wp2
 go_ret2
 exact⟨rfl,by first | trivial | rfl⟩
theorem cut_bad(W S:Int)(p:Option Addr)(n cp:Nat)(w:World)(hW:0<=W)
  (T:Hid (Calls prog 178 #[.slice p n cp] w fun e w'=>e=.returned (.tuple #[.int .i64 S,.bool false])/\w'=w)):
  Calls prog 155 #[.int .i64 W,.slice p n cp] w fun e w'=>e=.returned (.tuple #[.slice none 0 0,.int .i64 1])/\w'=w:=by
 have d0:decide (W<0)=false:=decide_eq_false (by omega)
 go_enter func155,ntmps155
 go_wp2_with fail
 refine T.out.mono ?_
 rintro e9 v ⟨rfl,hv⟩
 have hv2:=hv.symm
 subst hv2
 go_wp2
 go_ret2
 exact⟨rfl,by first | trivial | rfl⟩
theorem cut_all(W S:Int)(p:Option Addr)(n cp:Nat)(f:Nat->Int)(w:World)(hW:0<=W)(hS:S<=W)
  (T:Hid (Calls prog 178 #[.slice p n cp] w fun e w'=>e=.returned (.tuple #[.int .i64 S,.bool true])/\w'=w))
  (C:Hid (Calls prog 83 #[.slice p n cp] w fun e w'=> ∃v,e=.returned v/\Below w.heap.size w w'/\Own w.heap.size v ((List.range n).map f) w')):
  Calls prog 155 #[.int .i64 W,.slice p n cp] w fun e w'=> ∃v,e=.returned (.tuple #[v,.int .i64 0])/\Below w.heap.size w w'/\Own w.heap.size v ((List.range n).map f) w':=by
 have d0:decide (W<0)=false:=decide_eq_false (by omega)
 have d1:decide (S<=W)=true:=decide_eq_true hS
 go_enter func155,ntmps155
 go_wp2_with fail
 refine T.out.mono ?_
 rintro e9 v ⟨rfl,hv⟩
 have hv2:=hv.symm
 subst hv2
 go_wp2_with fail
 refine C.out.mono ?_
 rintro e8 v ⟨x,rfl,bl,ow⟩
 have BL:=hid bl
 have OW:=hid ow
 clear bl ow
 go_wp2
 go_ret2
 exact⟨_,rfl,BL.out,OW.out⟩
theorem cut_over(W S:Int)(b0 o0:Nat)(n cp:Nat)(f:Nat->Int)(w:World)(hn0:0<n)(hn:n<=65536)(hf:IsI w (some ⟨b0,o0,none⟩) n f)(hW:0<=W)(HW:Hid (W64 W))(hS:W<S)(HS:Hid (W64 S))
  (T:Hid (Calls prog 178 #[.slice (some ⟨b0,o0,none⟩) n cp] w fun e w'=>e=.returned (.tuple #[.int .i64 S,.bool true])/\w'=w))
  (C:Hid (Calls prog 83 #[.slice (some ⟨b0,o0,none⟩) n cp] w fun e w'=> ∃v,e=.returned v/\Below w.heap.size w w'/\Own w.heap.size v ((List.range n).map f) w')):
  Calls prog 155 #[.int .i64 W,.slice (some ⟨b0,o0,none⟩) n cp] w fun e w'=> ∃v,e=.returned (.tuple #[v,.int .i64 0])/\Below w.heap.size w w'/\Own w.heap.size v ((List.range n).map fun i=>part (f i) W S) w':=by
 have HF:=hid hf
 have HN:=hid hn
 have HN0:=hid hn0
 clear hf hn hn0
 have d0:decide (W<0)=false:=decide_eq_false (by omega)
 have d1:decide (S<=W)=false:=decide_eq_false (by omega)
 go_enter func155,ntmps155
 go_wp2_with fail
 refine T.out.mono ?_
 rintro e9 v ⟨rfl,hv⟩
 have hv2:=hv.symm
 subst hv2
 go_wp2_with fail
 refine C.out.mono ?_
 rintro e8 v ⟨x,rfl,bl,ow⟩
 obtain⟨g,cap,F,rfl,hg,hc,hm,row,hF⟩:=zN ow HN0.out
 have IN:Hid (Ab w v/\ ∃G,v.rowIs g 2 cap G/\ ∀i,i<n->G i=.int .i64 (if i<0 then part (f i) W S else f i)):=⟨bl,F,row,fun i hi=>by rw[hF i hi];simp⟩
 have GH:=hid hg
 have CH:=hid hc
 have MH:=hid hm
 clear bl ow hg hc hm row hF T C
 go_wp2
 go_loopw [30] (fun iv wr=> ∃c:Nat,c<=n/\iv=.int .i64 (c:Nat)/\Ab w wr/\ ∃G,wr.rowIs g 2 cap G/\ ∀i,i<n->G i=.int .i64 (if i<c then part (f i) W S else f i)) (fun iv _=>n - (intOf iv).toNat)
 case atStart=>exact⟨0,by omega,rfl,IN.out⟩
 case round=>
  obtain⟨c,hc,rfl,ar,G,row,hG⟩:=hrel
  have AR:=hid ar
  have RW:=hid row
  have GG:=hid hG
  clear ar row hG IN
  by_cases hcn:c<n
  ·have HC:=hid hcn
   have hcI:(c:Int)<n:=by omega
   have hcB:(c:Int)<=65536:=by have:=HN.out;omega
   obtain⟨x,hx⟩:=aB (f c)
   obtain⟨y,hy⟩:=aB (part x W S)
   have at0:=HF.out.at0 hcn
   rw[hx]at at0
   have xc:wr.cell? ⟨b0,o0+c,none⟩=some (.int .i64 x):=(Below.cell AR.out at0.2.1).trans at0.2.2
   have XW:Hid (W64 x):=at0.1
   have XE:=hid hx
   have YE:=hid hy
   have PC:=hid (partC x W S wr XW.out HW.out HS.out)
   rw[hy]at PC
   clear at0 hx hcn hy
   go_wp2_with fail
   refine PC.out.mono ?_
   rintro e7 v7 ⟨rfl,b7⟩
   have A7:Hid (Ab wr v7):=b7
   clear b7
   have R7:=hid (cP RW.out A7.out)
   have yc:=R7.out.cell (show c<cap by have:=CH.out;have:=HC.out;omega)
   have yf:=R7.out.frozen c
   go_wp2
   refine⟨⟨c+1,by have:=HC.out;omega,by simp,(AR.out.trans A7.out).set GH.out _,_,R7.out.set c _,fun i hi=> ?_⟩,by simp[intOf];have:=HC.out;omega⟩
   have q:=GG.out i hi
   by_cases e:i=c
   ·simp[e,XE.out,YE.out]
   ·rw[if_neg e,q]
    by_cases l:i<c
    ·simp[l,show i<c+1 by omega]
    ·simp[l,show¬i<c+1 by omega]
  ·have e6:n=c:=by omega
   subst e6
   go_wp2
   go_ret2
   exact⟨_,rfl,AR.out,zO RW.out GH.out CH.out MH.out (fun i hi=>by rw[GG.out i hi];simp[hi])⟩
theorem cutC:CutC:=by
 intro W p n c f w hW hn hf
 by_cases G:(∀i,i<n->0<=f i)/\sumN f n<=9223372036854775807
 ·have T:=Fx p n c f w hn hf G
  constructor
  ·rintro⟨g1,g2,g3⟩
   have C:=clone_at p n c f w hn hf
   by_cases l:sumN f n<=W
   ·have e:cutL W n f=(List.range n).map f:=by
     unfold cutL
     refine List.map_congr_left (fun i _=> ?_)
     unfold lR
     rw[if_neg (by omega)]
    rw[e]
    exact cut_all W (sumN f n) p n c f w g1 l T C
   ·have e:cutL W n f=(List.range n).map fun i=>part (f i) W (sumN f n):=by
     unfold cutL
     refine List.map_congr_left (fun i _=> ?_)
     unfold lR
     rw[if_pos (by omega)]
    have n0:0<n:=by
     rcases Nat.eq_zero_or_pos n with h0 | h0
     ·subst h0
      have z:sumN f 0=0:=rfl
      omega
     ·exact h0
    have s0:=fO g2
    obtain⟨b0,o0,rfl⟩:=hf.some0 n0
    rw[e]
    exact cut_over W (sumN f n) b0 o0 n c f w n0 hn hf g1 hW (by omega) (show W64 _ from⟨by omega,g3⟩) T C
  ·intro b
   have nW:W<0:=by
    rcases Int.lt_or_le W 0 with h | h
    ·exact h
    ·exact absurd ⟨h,G⟩ b
   refine(DS W _ _ p n c w nW T).mono ?_
   rintro e w' ⟨rfl,rfl⟩
   exact⟨rfl,Below.refl _ _⟩
 ·have T:=total_no p n c f w hn hf G
  constructor
  ·intro g
   exact absurd g.2 G
  ·intro _
   rcases Int.lt_or_le W 0 with h | h
   ·refine(DS W _ _ p n c w h T).mono ?_
    rintro e w' ⟨rfl,rfl⟩
    exact⟨rfl,Below.refl _ _⟩
   ·refine(cut_bad W _ p n c w h T).mono ?_
    rintro e w' ⟨rfl,rfl⟩
    exact⟨rfl,Below.refl _ _⟩
end Sh
end
section
open Go.RowKit Go.Deep
namespace Sh
theorem give_go(gb N cell fb fo lf cf b:Nat)(has:Int)(E:Nat->Nat)(sg x g k:Nat->Int)(P:Nat->Nat->Int)(w0 w:World)(hB:w0.heap.size<=b)
  (AV:Hid (Ab w0 w)) (RB:Hid (w.rowIs b 2 N (fun i=>.int .i64 (P 0 i))))
  (ARD:Hid (∀u s,s<4->Ab w0 u->Calls prog 11 #[.pointer (some ⟨gb,0,none⟩),.int .i64 (cell:Nat),.int .i64 (s:Nat)] u fun e w'=>e=.returned (.tuple #[.int .i64 (E s:Nat),.int .i64 (sg s)])/\Below u.heap.size u w'))
  (FL:Hid (∀u s,s<4->Ab w0 u->u.cell? ⟨fb,fo+E s,none⟩=some (.int .i64 (x s))))
  (FA:Hid (∀s,s<4->E s<N/\E s<lf/\E s<=65536/\(-4503599627370496<=sg s*x s/\sg s*x s<=4503599627370496)/\g s=(if 0<sg s*x s then sg s*x s else 0)/\(-4503599627370496<=sg s*k s/\sg s*k s<=4503599627370496)))
  (CUT:Hid (∀u a,IsI u (some ⟨a,0,none⟩) 4 g->Calls prog 155 #[.int .i64 has,.slice (some ⟨a,0,none⟩) 4 4] u fun e w'=> ∃g2 cap F,e=.returned (.tuple #[.slice (some ⟨g2,0,none⟩) 4 cap,.int .i64 0])/\Below u.heap.size u w'/\u.heap.size<=g2/\4<=cap/\w'.rowIs g2 2 cap F/\ ∀i,i<4->F i=.int .i64 (k i)))
  (ST:Hid (∀s,s<4-> ∀i,i<N->P (s+1) i=if i=E s/\0<g s then sg s*k s else P s i)):
  Calls prog 118 #[.pointer (some ⟨gb,0,none⟩),.int .i64 (cell:Nat),.int .i64 has,.slice (some ⟨fb,fo,none⟩) lf cf,.slice (some ⟨b,0,none⟩) N N] w fun e w'=>e=.returned (.tuple #[])/\Ab w0 w'/\w'.rowIs b 2 N (fun i=>.int .i64 (P 4 i)):=by
 have MK:(Instr.makeSlice 46 (.int .i64 4) (.int .i64 4)).run prog w=.ok (.slice (some ⟨w.heap.size,0,none⟩) 4 4) (w.alloc (.cells (madeCells #[.int .i64 0] 4) 2)):=run_make_row' (P:=prog) 46 2 (.int .i64 0) 8 underlying46 eW rfl .i64 .i64 4 (by omega) (by omega) w
 have HB:=hid hB
 have BL:Hid (b<w.heap.size):=RB.out.lt
 clear hB
 obtain⟨ob,hob⟩:=aB w.heap.size
 have RW:Hid ((w.alloc (.cells (madeCells #[.int .i64 0] 4) 2)).rowIs ob 2 4 (fun _=>.int .i64 0)):=by rw[<- hob];exact World.rowIs_made _ _ _ _
 have A0:Hid (Ab w (w.alloc (.cells (madeCells #[.int .i64 0] 4) 2))):=bl1 w _
 have HO:Hid (w.heap.size<=ob/\b<ob):=⟨Nat.le_of_eq hob,by rw[<- hob];exact BL.out⟩
 generalize w.alloc (.cells (madeCells #[.int .i64 0] 4) 2)=wm at*
 go_enter func118,ntmps118
 go_wp2
 clear MK hob
 go_loopw [20] (fun iv wr=> ∃c:Nat,c<=4/\iv=.int .i64 (c:Nat)/\Ab w wr/\wr.rowIs ob 2 4 (fun j=>.int .i64 (if j<c then g j else 0))) (fun iv _=>4 - (intOf iv).toNat)
 case atStart=>exact⟨0,by omega,rfl,A0.out,RW.out.congr (fun i _=>by simp)⟩
 case round=>
  obtain⟨c,hc,rfl,a1,r1⟩:=hrel
  have AR:=hid a1
  have RR:=hid r1
  clear a1 r1 A0 RW
  by_cases hcn:c<4
  ·have HC:=hid hcn
   have hcI:(c:Int)<4:=by omega
   have AW:=hid (AV.out.trans AR.out)
   have CA:=hid (ARD.out wr c hcn AW.out)
   obtain⟨f1,f2,f3,f4,f5,-⟩:=FA.out c hcn
   obtain⟨y,hy⟩:=aB (sg c*x c)
   obtain⟨ee,hee⟩:=aB (E c)
   obtain⟨xx,hxx⟩:=aB (x c)
   obtain⟨ss,hss⟩:=aB (sg c)
   have GE:=hid f5
   rw[hy]at f4 GE
   rw[hee,hss]at CA
   rw[hee]at f2 f3
   rw[hss,hxx]at hy
   have EE:=hid hee
   have XX:=hid hxx
   have y1:=f4.1
   have y2:=f4.2
   have e1:(ee:Int)<lf:=by omega
   have e2:(ee:Int)<=65536:=by omega
   clear f1 f4 f5 hee hxx hss hcn hc f2 f3
   go_wp2_with fail
   refine CA.out.mono ?_
   rintro e9 v1 ⟨rfl,b1⟩
   have A1:Hid (Ab wr v1):=b1
   clear b1 CA
   have xc:v1.cell? ⟨fb,fo+ee,none⟩=some (.int .i64 xx):=by
    have h:=FL.out v1 c HC.out (AW.out.trans A1.out)
    rwa [EE.out,XX.out]at h
   have R1:=hid (cP RR.out A1.out)
   have z1:=R1.out.cell (show c<4 from HC.out)
   have z2:=R1.out.frozen c
   by_cases c0:0<y
   ·have GV:Hid (g c=y):=by have h:=GE.out;rwa [if_pos c0]at h
    go_wp2
    refine⟨⟨c+1,by have:=HC.out;omega,by simp,(AR.out.trans A1.out).set HO.out.1 _,(R1.out.set c _).congr (fun i _=> ?_)⟩,by simp[intOf];have:=HC.out;omega⟩
    by_cases e:i=c
    ·subst e;simp[GV.out]
    ·have e2:(i<c+1) ↔ i<c:=by omega
     simp[e,e2]
   ·have GV:Hid (g c=0):=by have h:=GE.out;rwa [if_neg c0]at h
    go_wp2
    refine⟨⟨c+1,by have:=HC.out;omega,by simp,(AR.out.trans A1.out).set HO.out.1 _,(R1.out.set c _).congr (fun i _=> ?_)⟩,by simp[intOf];have:=HC.out;omega⟩
    by_cases e:i=c
    ·subst e;simp[GV.out]
    ·have e2:(i<c+1) ↔ i<c:=by omega
     simp[e,e2]
  ·have e6:c=4:=by omega
   subst e6
   have RG:Hid (wr.rowIs ob 2 4 (fun j=>.int .i64 (g j))):=RR.out.congr (fun i hi=>by simp[hi])
   have GB: ∀i,i<4-> -9223372036854775808<=g i/\g i<=9223372036854775807:=fun i hi=>by
    obtain⟨-,-,-,f4,f5,-⟩:=FA.out i hi
    rw[f5]
    split<;>omega
   have CC:=hid (CUT.out wr ob (oG RG.out GB))
   clear GB RR
   go_wp2_with fail
   refine CC.out.mono ?_
   rintro e9 v2 ⟨g2,cap,F,rfl,b2,hg2,hcap,rw2,hF⟩
   have A2:Hid (Ab wr v2):=b2
   have LG:Hid (b≠ob/\b≠g2/\4<=cap):=by
    have h1:=HO.out.2
    have h2:=RG.out.lt
    exact⟨by omega,by omega,hcap⟩
   have IN:Hid (Ab w0 v2/\v2.rowIs ob 2 4 (fun j=>.int .i64 (g j))/\v2.rowIs g2 2 cap F/\v2.rowIs b 2 N (fun i=>.int .i64 (P 0 i))):=⟨AV.out.trans (AR.out.trans A2.out),cP RG.out A2.out,rw2,cP RB.out (AR.out.trans A2.out)⟩
   have HFK:=hid hF
   clear b2 hg2 hcap rw2 hF CC RG A2 AR
   go_wp2
   go_loopw [47] (fun iv wq=> ∃c:Nat,c<=4/\iv=.int .i64 (c:Nat)/\Ab w0 wq/\wq.rowIs ob 2 4 (fun j=>.int .i64 (g j))/\wq.rowIs g2 2 cap F/\wq.rowIs b 2 N (fun i=>.int .i64 (P c i))) (fun iv _=>4 - (intOf iv).toNat)
   case atStart=>exact⟨0,by omega,rfl,IN.out⟩
   case round=>
    obtain⟨c,hc,rfl,a1,r1,r2,r3⟩:=hrel
    rename World=>wq
    have AR:=hid a1
    have RO:=hid r1
    have RG:=hid r2
    have RP:=hid r3
    clear a1 r1 r2 r3 IN
    by_cases hcn:c<4
    ·have HC:=hid hcn
     have hcI:(c:Int)<4:=by omega
     obtain⟨f1,f2,f3,-,-,f6⟩:=FA.out c hcn
     have z0:=RO.out.cell (show c<4 from hcn)
     obtain⟨gg,hgg⟩:=aB (g c)
     rw[hgg]at z0
     have GG:=hid hgg
     by_cases c0:0<gg
     ·have d0:decide (0<gg)=true:=decide_eq_true c0
      have CA:=hid (ARD.out _ c hcn AR.out)
      obtain⟨y,hy⟩:=aB (sg c*k c)
      obtain⟨ee,hee⟩:=aB (E c)
      obtain⟨kk,hkk⟩:=aB (k c)
      obtain⟨ss,hss⟩:=aB (sg c)
      have YE:=hid hy
      rw[hy]at f6
      rw[hee,hss]at CA
      rw[hee]at f1 f3
      rw[hss,hkk]at hy
      have EE:=hid hee
      have KK:=hid hkk
      have y1:=f6.1
      have y2:=f6.2
      have e1:(ee:Int)<N:=by omega
      have e2:(ee:Int)<=65536:=by omega
      have FN:=hid f1
      clear f1 f2 f3 f6 hee hkk hss hcn hc hgg
      go_wp2_with fail
      refine CA.out.mono ?_
      rintro e9 v3 ⟨rfl,b3⟩
      have A3:Hid (Ab _ v3):=b3
      clear b3 CA z0
      have R3:=hid (cP RG.out A3.out)
      have R4:=hid (cP RP.out A3.out)
      have R5:=hid (cP RO.out A3.out)
      have z1:v3.cell? ⟨g2,c,none⟩=some (.int .i64 kk):=by
       have h:=R3.out.cell (show c<cap by have:=LG.out.2.2;have:=HC.out;omega)
       rwa [HFK.out c HC.out,KK.out]at h
      have z2:=R4.out.cell FN.out
      have z3:=R4.out.frozen ee
      go_wp2
      refine⟨⟨c+1,by have:=HC.out;omega,by simp,(AR.out.trans A3.out).set HB.out _,R5.out.setOther (Ne.symm LG.out.1) _,R3.out.setOther (Ne.symm LG.out.2.1) _,(R4.out.set ee _).congr (fun i hi=> ?_)⟩,by simp[intOf];have:=HC.out;omega⟩
      have s:=ST.out c HC.out i hi
      rw[EE.out,GG.out,YE.out]at s
      rw[s]
      by_cases e:i=ee
      ·simp[e,c0]
      ·simp[e]
     ·have d0:decide (0<gg)=false:=decide_eq_false c0
      clear f1 f2 f3 f6 hcn hc hgg
      go_wp2
      refine⟨⟨c+1,by have:=HC.out;omega,by simp,AR.out,RO.out,RG.out,RP.out.congr (fun i hi=> ?_)⟩,by simp[intOf];have:=HC.out;omega⟩
      have s:=ST.out c HC.out i hi
      rw[GG.out,if_neg (fun h=>c0 h.2)]at s
      rw[s]
    ·have e6:c=4:=by omega
     subst e6
     go_wp2
     go_end0
     exact⟨rfl,AR.out,RP.out⟩
end Sh
end
section
open Go.RowKit Go.Deep
namespace Sh
theorem wN(gb M N:Nat)(pw:Option Addr)(lw cw:Nat)(pf:Option Addr)(lf cf:Nat)(ok:Bool)(w:World)
  (CE:Hid (∀v,Ab w v->Calls prog 7 #[.pointer (some ⟨gb,0,none⟩)] v fun e w'=>e=.returned (.int .i64 (M:Nat))/\w'=v))
  (ED:Hid (∀v,Ab w v->Calls prog 8 #[.pointer (some ⟨gb,0,none⟩)] v fun e w'=>e=.returned (.int .i64 (N:Nat))/\w'=v))
  (OK:Hid (ok=true ↔ lw=M/\lf=N)):
  Calls prog 115 #[.pointer (some ⟨gb,0,none⟩),.slice pw lw cw,.slice pf lf cf] w fun e w'=>e=.returned (.bool ok)/\w'=w:=by
 by_cases c1:lw=M
 ·have d1:((lw:Int)==(M:Int))=true:=by simp;omega
  by_cases c2:lf=N
  ·have d2:((lf:Int)==(N:Int))=true:=by simp;omega
   have KO:Hid (ok=true):=OK.out.2 ⟨c1,c2⟩
   clear OK c1 c2
   go_enter func115,ntmps115
   go_wp2_with fail
   refine(CE.out _ (Ab.refl _)).mono ?_
   rintro e9 v9 ⟨rfl,hv9⟩
   have hv8:=hv9.symm
   subst hv8
   go_wp2_with fail
   refine(ED.out _ (Ab.refl _)).mono ?_
   rintro e9 v9 ⟨rfl,hv9⟩
   have hv8:=hv9.symm
   subst hv8
   go_wp2
   go_ret
   exact⟨by rw[KO.out];rfl,rfl⟩
  ·have d2:((lf:Int)==(N:Int))=false:=by simp;omega
   have KO:Hid (ok=false):=by
    show _=_
    cases ok
    ·rfl
    ·exact absurd (OK.out.1 rfl).2 c2
   clear OK c1 c2
   go_enter func115,ntmps115
   go_wp2_with fail
   refine(CE.out _ (Ab.refl _)).mono ?_
   rintro e9 v9 ⟨rfl,hv9⟩
   have hv8:=hv9.symm
   subst hv8
   go_wp2_with fail
   refine(ED.out _ (Ab.refl _)).mono ?_
   rintro e9 v9 ⟨rfl,hv9⟩
   have hv8:=hv9.symm
   subst hv8
   go_wp2
   go_ret
   exact⟨by rw[KO.out];rfl,rfl⟩
 ·have d1:((lw:Int)==(M:Int))=false:=by simp;omega
  have KO:Hid (ok=false):=by
   show _=_
   cases ok
   ·rfl
   ·exact absurd (OK.out.1 rfl).1 c1
  clear OK c1
  go_enter func115,ntmps115
  go_wp2_with fail
  refine(CE.out _ (Ab.refl _)).mono ?_
  rintro e9 v9 ⟨rfl,hv9⟩
  have hv8:=hv9.symm
  subst hv8
  go_wp2
  go_ret
  exact⟨by rw[KO.out];rfl,rfl⟩
theorem all_no1(gb:Nat)(pw:Option Addr)(lw cw:Nat)(pf:Option Addr)(lf cf:Nat)(w:World)
  (FT:Hid (Calls prog 115 #[.pointer (some ⟨gb,0,none⟩),.slice pw lw cw,.slice pf lf cf] w fun e w'=>e=.returned (.bool false)/\w'=w)):
  Calls prog 75 #[.pointer (some ⟨gb,0,none⟩),.slice pw lw cw,.slice pf lf cf] w fun e w'=>e=.returned (.tuple #[.slice none 0 0,.int .i64 1])/\w'=w:=by
 go_enter func75,ntmps75
 go_wp2_with fail
 refine FT.out.mono ?_
 rintro e9 v9 ⟨rfl,hv9⟩
 have hv8:=hv9.symm
 subst hv8
 go_wp2
 go_ret2
 exact⟨rfl,rfl⟩
theorem all_no2(gb:Nat)(pw:Option Addr)(lw cw:Nat)(pf:Option Addr)(lf cf:Nat)(w:World)
  (FT:Hid (Calls prog 115 #[.pointer (some ⟨gb,0,none⟩),.slice pw lw cw,.slice pf lf cf] w fun e w'=>e=.returned (.bool true)/\w'=w))
  (H1:Hid (Calls prog 81 #[.slice pw lw cw,.func (.func 116) #[] #[]] w fun e w'=>e=.returned (.bool true)/\w'=w)):
  Calls prog 75 #[.pointer (some ⟨gb,0,none⟩),.slice pw lw cw,.slice pf lf cf] w fun e w'=>e=.returned (.tuple #[.slice none 0 0,.int .i64 1])/\w'=w:=by
 go_enter func75,ntmps75
 go_wp2_with fail
 refine FT.out.mono ?_
 rintro e9 v9 ⟨rfl,hv9⟩
 have hv8:=hv9.symm
 subst hv8
 go_wp2_with fail
 refine H1.out.mono ?_
 rintro e9 v9 ⟨rfl,hv9⟩
 have hv8:=hv9.symm
 subst hv8
 go_wp2
 go_ret2
 exact⟨rfl,rfl⟩
theorem all_no3(gb:Nat)(pw:Option Addr)(lw cw:Nat)(pf:Option Addr)(lf cf:Nat)(w:World)
  (FT:Hid (Calls prog 115 #[.pointer (some ⟨gb,0,none⟩),.slice pw lw cw,.slice pf lf cf] w fun e w'=>e=.returned (.bool true)/\w'=w))
  (H1:Hid (Calls prog 81 #[.slice pw lw cw,.func (.func 116) #[] #[]] w fun e w'=>e=.returned (.bool false)/\w'=w))
  (H2:Hid (Calls prog 81 #[.slice pf lf cf,.func (.func 117) #[] #[]] w fun e w'=>e=.returned (.bool true)/\w'=w)):
  Calls prog 75 #[.pointer (some ⟨gb,0,none⟩),.slice pw lw cw,.slice pf lf cf] w fun e w'=>e=.returned (.tuple #[.slice none 0 0,.int .i64 1])/\w'=w:=by
 go_enter func75,ntmps75
 go_wp2_with fail
 refine FT.out.mono ?_
 rintro e9 v9 ⟨rfl,hv9⟩
 have hv8:=hv9.symm
 subst hv8
 go_wp2_with fail
 refine H1.out.mono ?_
 rintro e9 v9 ⟨rfl,hv9⟩
 have hv8:=hv9.symm
 subst hv8
 go_wp2_with fail
 refine H2.out.mono ?_
 rintro e9 v9 ⟨rfl,hv9⟩
 have hv8:=hv9.symm
 subst hv8
 go_wp2
 go_ret2
 exact⟨rfl,rfl⟩
theorem all_go(gb wb wo M cw:Nat)(pf:Option Addr)(N cf:Nat)(W:Nat->Int)(P:Nat->Nat->Int)(w:World)(hM:M<=65536)(hN:N<=65536)
  (FT:Hid (Calls prog 115 #[.pointer (some ⟨gb,0,none⟩),.slice (some ⟨wb,wo,none⟩) M cw,.slice pf N cf] w fun e w'=>e=.returned (.bool true)/\w'=w))
  (H1:Hid (Calls prog 81 #[.slice (some ⟨wb,wo,none⟩) M cw,.func (.func 116) #[] #[]] w fun e w'=>e=.returned (.bool false)/\w'=w))
  (H2:Hid (Calls prog 81 #[.slice pf N cf,.func (.func 117) #[] #[]] w fun e w'=>e=.returned (.bool false)/\w'=w))
  (WC:Hid (∀c,c<M-> ∀v,Ab w v->v.cell? ⟨wb,wo+c,none⟩=some (.int .i64 (W c))))
  (GV:Hid (∀b c,c<M->w.heap.size<=b-> ∀v,Ab w v->v.rowIs b 2 N (fun i=>.int .i64 (P (4*c) i))->Calls prog 118 #[.pointer (some ⟨gb,0,none⟩),.int .i64 (c:Nat),.int .i64 (W c),.slice pf N cf,.slice (some ⟨b,0,none⟩) N N] v fun e w'=>e=.returned (.tuple #[])/\Ab w w'/\w'.rowIs b 2 N (fun i=>.int .i64 (P (4*(c+1)) i))))
  (P0:Hid (∀i,P 0 i=0)):
  Calls prog 75 #[.pointer (some ⟨gb,0,none⟩),.slice (some ⟨wb,wo,none⟩) M cw,.slice pf N cf] w fun e w'=> ∃v,e=.returned (.tuple #[v,.int .i64 0])/\Below w.heap.size w w'/\Own w.heap.size v ((List.range N).map (P (4*M))) w':=by
 have MK:=run_make_row' (P:=prog) 46 2 (.int .i64 0) 8 underlying46 eW rfl .i64 .i64 N (by omega) (by omega) w
 have NB:=hid hN
 have MB:=hid hM
 clear hM hN
 obtain⟨ob,hob⟩:=aB w.heap.size
 have RW:Hid ((w.alloc (.cells (madeCells #[.int .i64 0] N) 2)).rowIs ob 2 N (fun i=>.int .i64 (P (4*0) i))):=by
  have h:=World.rowIs_made w (.int .i64 0) N 2
  rw[hob]at h
  exact h.congr (fun i _=>by rw[show 4*0=0 from rfl,P0.out])
 have A0:Hid (Ab w (w.alloc (.cells (madeCells #[.int .i64 0] N) 2))):=bl1 w _
 have HO:Hid (w.heap.size<=ob):=Nat.le_of_eq hob
 generalize w.alloc (.cells (madeCells #[.int .i64 0] N) 2)=wm at*
 go_enter func75,ntmps75
 go_wp2_with fail
 refine FT.out.mono ?_
 rintro e9 v9 ⟨rfl,hv9⟩
 have hv8:=hv9.symm
 subst hv8
 go_wp2_with fail
 refine H1.out.mono ?_
 rintro e9 v9 ⟨rfl,hv9⟩
 have hv8:=hv9.symm
 subst hv8
 go_wp2_with fail
 refine H2.out.mono ?_
 rintro e9 v9 ⟨rfl,hv9⟩
 have hv8:=hv9.symm
 subst hv8
 go_wp2
 clear MK hob FT H1 H2 P0
 go_loopw [31] (fun iv wr=> ∃c:Nat,c<=M/\iv=.int .i64 (c:Nat)/\Ab w wr/\wr.rowIs ob 2 N (fun i=>.int .i64 (P (4*c) i))) (fun iv _=>M - (intOf iv).toNat)
 case atStart=>exact⟨0,by omega,rfl,A0.out,RW.out⟩
 case round=>
  obtain⟨c,hc,rfl,a1,r1⟩:=hrel
  have AR:=hid a1
  have RR:=hid r1
  clear a1 r1 A0 RW
  by_cases hcn:c<M
  ·have HC:=hid hcn
   have hcI:(c:Int)<M:=by omega
   have hcB:(c:Int)<=65536:=by have:=MB.out;omega
   have CG:=hid (GV.out ob c hcn HO.out wr AR.out RR.out)
   have xc:=WC.out c hcn wr AR.out
   obtain⟨x,hx⟩:=aB (W c)
   rw[hx]at CG xc
   clear hx hcn hc
   go_wp2_with fail
   refine CG.out.mono ?_
   rintro e9 v1 ⟨rfl,a1,r1⟩
   have A1:=hid a1
   have R1:=hid r1
   clear a1 r1 CG xc
   go_wp2
   exact⟨⟨c+1,by have:=HC.out;omega,by simp,A1.out,R1.out⟩,by simp[intOf];have:=HC.out;omega⟩
  ·have e6:M=c:=by omega
   subst e6
   go_wp2
   go_ret2
   exact⟨_,rfl,AR.out,zO RR.out HO.out (Nat.le_refl _) (by unfold maxLen;have:=NB.out;omega) (fun i _=>rfl)⟩
end Sh
end
section
open Go.RowKit Go.Deep Cu
namespace Sh
theorem around14{n gb c s:Nat}{v:World}(hn:1<=n/\n<=32)(hc:c<6*n*n)(hs:s<4)(g:GridOf n gb v):Calls prog 11 #[.pointer (some ⟨gb,0,none⟩),.int .i64 (c:Nat),.int .i64 (s:Nat)] v fun e w'=>e=.returned (.tuple #[.int .i64 (eE n (4*c+s):Nat),.int .i64 (eS n (4*c+s))])/\Below v.heap.size v w':=by
 have e:gT n (24*n*n) (c:Nat) (s:Nat)=(((eE n (4*c+s):Nat):Int),eS n (4*c+s)):=by
  have ht:=fE hc hs
  have hm:=cX hn.1 ht
  rw[lK,if_pos ⟨hc,hs⟩]
  unfold gN eE eS
  by_cases q:isL n (4*c+s)=true
  ·simp[q,ht]
  ·simp[q,hm]
 have b:c<6144:=by
  have h1:n*n<=32*32:=Nat.mul_le_mul hn.2 hn.2
  rw[Nat.mul_assoc]at hc
  omega
 have h:=lP (n:=n) (gb:=gb) (c:=(c:Nat)) (s:=(s:Nat)) (w:=v) ⟨by omega,by omega⟩ ⟨by omega,by omega⟩ g
 rwa [e]at h
theorem allP_og{n:Nat}{W F:Nat->Int}{T e:Nat}(hn:1<=n)(hT:T<24*n*n)(he:e<12*n*n)(hW: ∀c,c<6*n*n->0<=W c)(hF: ∀e,e<12*n*n-> -4503599627370496<=F e/\F e<=4503599627370496):
  allP n W F (T+1) e=if e=eE n T/\0<og n F T then eS n T*ct n W F T else allP n W F T e:=by
 have st:=EV (W:=W) (F:=F) hn hT he hW hF
 have cT:=rU (n:=n) (F:=F) (hW _ (aW hT)) (show og n F T<=9223372036854775807 by have:=mT (n:=n) (F:=F) (t:=T) (m:=4503599627370496) (by omega) (hF _ (fQ hn hT));omega)
 rw[st]
 by_cases q:e=eE n T/\0<og n F T
 ·rw[if_pos q]
  by_cases z:0<ct n W F T
  ·rw[if_pos ⟨q.1,z⟩,Int.mul_comm]
  ·rw[if_neg (fun h=>z h.2)]
   have z0:ct n W F T=0:=by omega
   rw[z0,Int.mul_zero]
   have hm:=cX hn hT
   have o:og n F (mt n T)=0:=(oC (F:=F) hn hT).resolve_left (by omega)
   have m0:=mU (W:=W) (hW _ (aW hm)) o
   have ed:edT n e=if isL n T=true then T else mt n T:=by rw[q.1];exact oD hn hT
   unfold allP
   by_cases l:isL n T=true
   ·rw[if_pos l]at ed
    rw[ed,m0,z0]
    simp
   ·rw[if_neg l]at ed
    rw[ed,gX hn hT,m0,z0]
    simp
 ·rw[if_neg q,if_neg (fun h=>q ⟨h.1,by have:=h.2;omega⟩)]
theorem give_at{n gb fb fo cf b c:Nat}{W F:Nat->Int}{w v:World}(hn:1<=n/\n<=32)(hc:c<6*n*n)(g:GridOf n gb w)(iF:IsI w (some ⟨fb,fo,none⟩) (12*n*n) F)(hW: ∀c,c<6*n*n->0<=W c)(hWc:W64 (W c))(hF: ∀e,e<12*n*n-> -4503599627370496<=F e/\F e<=4503599627370496)(hb:w.heap.size<=b)(a:Ab w v)
  (r:v.rowIs b 2 (12*n*n) (fun i=>.int .i64 (allP n W F (4*c) i))):
  Calls prog 118 #[.pointer (some ⟨gb,0,none⟩),.int .i64 (c:Nat),.int .i64 (W c),.slice (some ⟨fb,fo,none⟩) (12*n*n) cf,.slice (some ⟨b,0,none⟩) (12*n*n) (12*n*n)] v fun e w'=>e=.returned (.tuple #[])/\Ab w w'/\w'.rowIs b 2 (12*n*n) (fun i=>.int .i64 (allP n W F (4*(c+1)) i)):=by
 have nb:12*n*n<=65536:=by
  have h1:n*n<=32*32:=Nat.mul_le_mul hn.2 hn.2
  rw[Nat.mul_assoc]
  omega
 have sgn: ∀t,eS n t=1\/eS n t= -1:=fun t=>by unfold eS;split<;>simp
 have sb: ∀t y,-4503599627370496<=y/\y<=4503599627370496-> -4503599627370496<=eS n t*y/\eS n t*y<=4503599627370496:=fun t y hy=>by
  rcases sgn t with e | e<;>rw[e]<;>omega
 have ogb: ∀s,s<4->0<=og n F (4*c+s)/\og n F (4*c+s)<=4503599627370496:=fun s hs=>⟨yN _ _ _,mT (by omega) (hF _ (fQ hn.1 (fE hc hs)))⟩
 refine give_go gb (12*n*n) c fb fo (12*n*n) cf b (W c) (fun s=>eE n (4*c+s)) (fun s=>eS n (4*c+s)) (fun s=>F (eE n (4*c+s))) (fun s=>og n F (4*c+s)) (fun s=>ct n W F (4*c+s)) (fun s i=>allP n W F (4*c+s) i) w v hb a r ?_ ?_ ?_ ?_ ?_
 ·intro u s hs au
  exact around14 hn hc hs (g.to au)
 ·intro u s hs au
  exact((iF.below au).at0 (fQ hn.1 (fE hc hs))).2.2
 ·intro s hs
  have ht:=fE hc hs
  have e:=fQ hn.1 ht
  have cb:=rU (n:=n) (F:=F) (hW _ (aW ht)) (show og n F (4*c+s)<=9223372036854775807 by have:=(ogb s hs).2;omega)
  refine⟨e,e,by omega,sb _ _ (hF _ e),?_,sb _ _ ⟨by omega,by have:=(ogb s hs).2;omega⟩⟩
  show og n F (4*c+s)=_
  unfold og
  rw[Int.mul_comm]
 ·intro u o io
  have gd:good (W c) 4 (fun s=>og n F (4*c+s)):=⟨hW c hc,fun s hs=>(ogb s hs).1,by
   have:=oS_le (n:=n) (F:=F) (c:=c) (m:=4503599627370496) (by omega) (fun s hs=>hF _ (fQ hn.1 (fE hc hs)))
   have e:sumN (fun s=>og n F (4*c+s)) 4=oS n F c:=rfl
   omega⟩
  refine((cutC (W c) (some ⟨o,0,none⟩) 4 4 _ u hWc (by omega) io).1 gd).mono ?_
  rintro e w' ⟨v',rfl,bl,ow⟩
  obtain⟨g2,cap,G,rfl,h1,h2,-,h4,h5⟩:=zN ow (by omega)
  refine⟨g2,cap,G,rfl,bl,h1,h2,h4,fun i hi=> ?_⟩
  rw[h5 i hi]
  unfold ct
  rw[(lY hi).1]
  rfl
 ·intro s hs i hi
  exact allP_og hn.1 (fE hc hs) hi hW hF
theorem allC:AllC:=by
 intro n gb pw lw cw W pf lf cf F w hn g hlw hlf iW iF
 have CE: ∀v,Ab w v->Calls prog 7 #[.pointer (some ⟨gb,0,none⟩)] v fun e w'=>e=.returned (.int .i64 (6*n*n:Nat))/\w'=v:=fun v a=>dT (g.to a)
 have ED: ∀v,Ab w v->Calls prog 8 #[.pointer (some ⟨gb,0,none⟩)] v fun e w'=>e=.returned (.int .i64 (12*n*n:Nat))/\w'=v:=fun v a=>bZ (g.to a)
 have toB: ∀{A:Prop},(Calls prog 75 #[.pointer (some ⟨gb,0,none⟩),.slice pw lw cw,.slice pf lf cf] w fun e w'=>e=.returned (.tuple #[.slice none 0 0,.int .i64 1])/\w'=w)->A->Calls prog 75 #[.pointer (some ⟨gb,0,none⟩),.slice pw lw cw,.slice pf lf cf] w fun e w'=>e=.returned (.tuple #[.slice none 0 0,.int .i64 1])/\Below w.heap.size w w':=fun h _=>h.mono (by
  rintro e w' ⟨rfl,rfl⟩
  exact⟨rfl,Below.refl _ _⟩)
 constructor
 ·rintro⟨rfl,rfl,hW,hF⟩
  have p1:0<n*n:=Nat.mul_pos (by omega) (by omega)
  have q1:0<6*n*n:=by rw[Nat.mul_assoc];omega
  have q2:0<12*n*n:=by rw[Nat.mul_assoc];omega
  obtain⟨wb,wo,rfl⟩:=iW.some0 q1
  obtain⟨fb,fo,rfl⟩:=iF.some0 q2
  have e:(List.range (12*n*n)).map (allF n W F)=(List.range (12*n*n)).map (allP n W F (4*(6*n*n))):=by
   refine List.map_congr_left (fun i hi=> ?_)
   rw[show 4*(6*n*n)=24*n*n by rw[Nat.mul_assoc,Nat.mul_assoc];omega,allP_all hn.1 (List.mem_range.1 hi)]
  rw[e]
  refine all_go gb wb wo _ cw (some ⟨fb,fo,none⟩) _ cf W (fun T i=>allP n W F T i) w hlw hlf (wN gb _ _ _ _ cw _ _ cf true w CE ED (show _ ↔ _ by simp)) (uQ _ _ cw W w hlw iW (fun i hi=>decide_eq_false (by have:=hW i hi;omega))) (Fw _ _ cf F w hlf iF (fun i hi=> ?_)) ?_ ?_ (fun i=>ER n W F i)
  ·have h:=hF i hi
   unfold far
   rw[decide_eq_false (show¬F i< -4503599627370496 by omega),decide_eq_false (show¬4503599627370496<F i by omega)]
   rfl
  ·intro c hc v a
   exact((iW.below a).at0 hc).2.2
  ·intro b c hc hb v a r
   exact give_at hn hc g iF hW (iW.at0 hc).1 hF hb a r
 ·intro nf
  by_cases c1:lw=6*n*n/\lf=12*n*n
  ·have FT:=wN gb _ _ pw lw cw pf lf cf true w CE ED (show _ ↔ _ by simp[c1])
   by_cases c2: ∀i,i<lw->decide (W i<0)=false
   ·have c3: ¬ ∀i,i<lf->far (F i)=false:=fun h=>nf ⟨c1.1,c1.2,fun i hi=>by have:=of_decide_eq_false (c2 i hi);omega,fun i hi=>by
     have k:=h i hi
     unfold far at k
     rw[Bool.or_eq_false_iff]at k
     have k1:=of_decide_eq_false k.1
     have k2:=of_decide_eq_false k.2
     omega⟩
    exact toB (all_no3 gb pw lw cw pf lf cf w FT (uQ pw lw cw W w hlw iW c2) (BM pf lf cf F w hlf iF c3)) trivial
   ·exact toB (all_no2 gb pw lw cw pf lf cf w FT (BJ pw lw cw W w hlw iW c2)) trivial
  ·exact toB (all_no1 gb pw lw cw pf lf cf w (wN gb _ _ pw lw cw pf lf cf false w CE ED (show _ ↔ _ by simpa using fun h=>not_and.1 c1 h))) trivial
end Sh
end
section
open Go.RowKit Go.Deep
namespace Tr
open Sh
def oO(W h:Int)(n:Nat)(f:Nat->Int):Prop:=0<=W/\0<=h/\okA W f n
def tkL(W h:Int)(n:Nat)(f:Nat->Int):List Int:=(List.range n).map (tkA h W f)
def TakesC:Prop:= ∀(W h:Int) (p:Option Addr) (n c:Nat) (f:Nat->Int) (w:World),Sh.W64 W->Sh.W64 h->n<=65536->IsI w p n f->
 (oO W h n f->Calls prog 156 #[.int .i64 W,.int .i64 h,.slice p n c] w fun e w'=> ∃v,e=.returned (.tuple #[v,.int .i64 0])/\Below w.heap.size w w'/\Own w.heap.size v (tkL W h n f) w')/\
 (¬oO W h n f->Calls prog 156 #[.int .i64 W,.int .i64 h,.slice p n c] w fun e w'=>e=.returned (.tuple #[.slice none 0 0,.int .i64 1])/\Below w.heap.size w w')
theorem tk_w64{W h:Int}{n:Nat}{f:Nat->Int}(g:oO W h n f)(hh:Sh.W64 h){i:Nat}(hi:i<n):0<=tkA h W f i/\tkA h W f i<=h:=⟨tk_nn g.2.1 hh.2 g.2.2 hi,tk_in g.2.1 hh.2 g.2.2 hi⟩
end Tr
end
section
open Go.RowKit Go.Deep
namespace Tr
open Sh
theorem Fy{B:Nat}{v:Value}{l:List Int}{w:World}(h:Own B v l w)(h0:0<l.length): ∃g cap F,v=.slice (some ⟨g,0,none⟩) l.length cap/\B<=g/\l.length<=cap/\cap<=maxLen/\w.rowIs g 2 cap F/\ ∀i,i<l.length->F i=.int .i64 (l.getD i 0):=by
 rcases h.2 with⟨rfl,hz⟩ | ⟨g,cap,cur,e,hb,hg,h1,h2,h3,h4⟩
 ·omega
 ·refine⟨g,cap,fun i=>(cur[i]?).getD (.bool false),e,hb,h1,h2,⟨cur,hg,by omega,fun i hi=> ?_⟩,fun i hi=> ?_⟩
  ·have:i<cur.size:=by omega
   simp[this]
  ·have q:(cur.toList.take l.length)[i]? =(l.map (Value.int .i64))[i]? :=by
    have h4':cur.toList.take l.length=l.map (Value.int .i64):=by simpa using h4
    rw[h4']
   rw[List.getElem?_take,if_pos hi,Array.getElem?_toList]at q
   dsimp only
   rw[q]
   simp[hi,List.getD]
theorem Fz{B n:Nat}{v:Value}{x:Nat->Int}{w:World}(h:Own B v ((List.range n).map x) w)(h0:0<n): ∃g cap F,v=.slice (some ⟨g,0,none⟩) n cap/\B<=g/\n<=cap/\cap<=maxLen/\w.rowIs g 2 cap F/\ ∀i,i<n->F i=.int .i64 (x i):=by
 have e:((List.range n).map x).length=n:=by simp
 obtain⟨g,cap,F,h1,h2,h3,h4,h5,h6⟩:=Fy h (by rw[e];exact h0)
 rw[e]at h1 h3 h6
 exact⟨g,cap,F,h1,h2,h3,h4,h5,fun i hi=>by rw[h6 i hi];simp[List.getD,hi]⟩
theorem uS{B g cap n:Nat}{F:Nat->Value}{x:Nat->Int}{w:World}(h:w.rowIs g 2 cap F)(hB:B<=g)(hn:n<=cap)(hc:cap<=maxLen)(hF: ∀i,i<n->F i=.int .i64 (x i)):Own B (.slice (some ⟨g,0,none⟩) n cap) ((List.range n).map x) w:=by
 obtain⟨c,hb,hs,hf⟩:=h
 refine⟨by simp,.inr ⟨g,cap,c,by simp,hB,hb,by simpa using hn,hc,by omega,?_⟩⟩
 apply List.ext_getElem?
 intro i
 rw[List.getElem?_take,List.length_map,List.length_range]
 by_cases hi:i<n
 ·have e:=hf i (by omega)
  rw[hF i hi]at e
  rw[if_pos (by omega)]
  rw[<- Array.getElem?_toList]at e
  rw[e]
  simp[hi]
 ·rw[if_neg (by omega),List.getElem?_eq_none (by simp;omega)]
theorem FC(W h:Int)(p:Option Addr)(n cp:Nat)(w:World)(c:W<0\/h<0):
  Calls prog 156 #[.int .i64 W,.int .i64 h,.slice p n cp] w fun e w'=>e=.returned (.tuple #[.slice none 0 0,.int .i64 1])/\w'=w:=by
 by_cases c1:W<0
 ·have d1:decide (W<0)=true:=decide_eq_true c1
  clear c
  go_enter func156,ntmps156
  go_wp2
  go_ret2
  exact⟨rfl,rfl⟩
 ·have d1:decide (W<0)=false:=decide_eq_false c1
  have d2:decide (h<0)=true:=decide_eq_true (by omega)
  clear c
  go_enter func156,ntmps156
  go_wp2
  go_ret2
  exact⟨rfl,rfl⟩
theorem FD(W h:Int)(p:Option Addr)(n cp:Nat)(f:Nat->Int)(w:World)(hW:0<=W)(hh:0<=h)(WW:Hid (Sh.W64 W/\Sh.W64 h))(hn:n<=65536)(hf:IsI w p n f)(HG:Hid (okA W f n)):
  Calls prog 156 #[.int .i64 W,.int .i64 h,.slice p n cp] w fun e w'=> ∃v,e=.returned (.tuple #[v,.int .i64 0])/\Below w.heap.size w w'/\Own w.heap.size v (tkL W h n f) w':=by
 have MK:=run_make_row' (P:=prog) 46 2 (.int .i64 0) 8 underlying46 Sh.eW rfl .i64 .i64 n (by omega) (by omega) w
 have HF:=hid hf
 have HN:=hid hn
 clear hf hn
 have d1:decide (W<0)=false:=decide_eq_false (by omega)
 have d2:decide (h<0)=false:=decide_eq_false (by omega)
 obtain⟨ob,hob⟩:=aB w.heap.size
 have RW:Hid ((w.alloc (.cells (madeCells #[.int .i64 0] n) 2)).rowIs ob 2 n (fun _=>.int .i64 0)):=by rw[<- hob];exact World.rowIs_made _ _ _ _
 have A0:Hid (Ab w (w.alloc (.cells (madeCells #[.int .i64 0] n) 2))):=bl1 w _
 have HO:Hid (w.heap.size<=ob):=Nat.le_of_eq hob
 generalize w.alloc (.cells (madeCells #[.int .i64 0] n) 2)=wm at*
 go_enter func156,ntmps156
 go_wp2
 clear MK hob
 go_loopw [9,10,25] (fun gv tv iv wr=> ∃c:Nat,c<=n/\iv=.int .i64 (c:Nat)/\gv=.int .i64 (sumN f c)/\tv=.int .i64 (Sh.part h (sumN f c) W)/\okA W f c/\Ab w wr/\wr.rowIs ob 2 n (fun j=>.int .i64 (if j<c then tkA h W f j else 0))) (fun _ _ iv _=>n - (intOf iv).toNat)
 case atStart=>exact⟨0,by omega,rfl,rfl,by rw[show sumN f 0=0 from rfl,wE],⟨fun i hi=>absurd hi (Nat.not_lt_zero i),by show(0:Int)<=_;omega⟩,A0.out,RW.out.congr (fun i _=>by simp)⟩
 case round=>
  obtain⟨c,hc,rfl,rfl,rfl,ok,a1,r1⟩:=hrel
  have AR:=hid a1
  have RR:=hid r1
  have OK:=hid ok
  have HC:=hid hc
  have s0:=(ok.sum (Nat.le_refl c)).1
  have s1:=(ok.sum (Nat.le_refl c)).2
  have W2:=WW.out.1.2
  obtain⟨s,hs⟩:=aB (sumN f c)
  have SE:=hid hs
  rw[hs]at s0 s1 ⊢
  obtain⟨q,hq⟩:=aB (Sh.part h s W)
  have q0:=(Sh.gK h s W).1
  have q1:=(Sh.gK h s W).2
  have QE:=hid hq
  rw[hq]at q0 q1 ⊢
  clear hs hq a1 r1 ok A0 RW
  by_cases hcn:c<n
  ·have HC2:=hid hcn
   have hcI:(c:Int)<n:=by omega
   have hcB:(c:Int)<=65536:=by have:=HN.out;omega
   obtain⟨b0,o0,rfl⟩:=HF.out.some0 (show 0<n by omega)
   obtain⟨x,hx⟩:=aB (f c)
   have at0:=(HF.out.below AR.out).at0 hcn
   rw[hx]at at0
   have xc:=at0.2.2
   have x1:=at0.1.1
   have x2:=at0.1.2
   have XE:=hid hx
   clear at0 hx hcn hc
   have OK2:Hid (0<=x->x<=W - s->okA W f (c+1)):=fun a b=>⟨fun i hi=>by
    by_cases l:i<c
    ·exact OK.out.1 i l
    ·obtain rfl:i=c:=by omega
     rw[XE.out];exact a,by
    show sumN f c+f c<=W
    rw[SE.out,XE.out]
    omega⟩
   have x0:0<=x:=by rw[<- XE.out];exact HG.out.1 c HC2.out
   have x3:x<=W - s:=by
    have m:=(HG.out.sum (k:=c+1) (by have:=HC2.out;omega)).2
    have e:sumN f (c+1)=s+x:=by show sumN f c+f c=_;rw[SE.out,XE.out]
    omega
   have d3:decide (x<0)=false:=decide_eq_false (by omega)
   have d4:decide (W - s<x)=false:=decide_eq_false (by omega)
   obtain⟨y,hy⟩:=aB (Sh.part h (s+x) W)
   have y0:=(Sh.gK h (s+x) W).1
   have y1:=(Sh.gK h (s+x) W).2
   have PC:=hid (partC h (s+x) W wr WW.out.2 ⟨by omega,by omega⟩ WW.out.1)
   have YE:=hid hy
   rw[hy]at y0 y1 PC
   have TK:Hid (tkA h W f c=y - q):=by
    show Sh.part h (sumN f c+f c) W - Sh.part h (sumN f c) W=_
    rw[SE.out,XE.out,YE.out,QE.out]
   clear hy
   go_wp2_with fail
   refine PC.out.mono ?_
   rintro e9 v1 ⟨rfl,b1⟩
   have A1:Hid (Ab wr v1):=b1
   clear b1 PC
   have R1:=hid (cP RR.out A1.out)
   have z1:=R1.out.cell (show c<n from HC2.out)
   have z2:=R1.out.frozen c
   go_wp2
   refine⟨⟨c+1,by have:=HC2.out;omega,by simp,?_,?_,OK2.out (by omega) (by omega),(AR.out.trans A1.out).set HO.out _,(R1.out.set c _).congr (fun i _=> ?_)⟩,by have:=HC2.out;simp[intOf];omega⟩
   ·show _=Value.int .i64 (sumN f c+f c)
    rw[SE.out,XE.out]
   ·show _=Value.int .i64 (Sh.part h (sumN f c+f c) W)
    rw[SE.out,XE.out,YE.out]
   ·by_cases e:i=c
    ·subst e;simp[TK.out]
    ·have e2:(i<c+1) ↔ i<c:=by omega
     simp[e,e2]
  ·have e6:n=c:=by omega
   subst e6
   go_wp2
   go_ret2
   exact⟨_,rfl,AR.out,uS RR.out HO.out (Nat.le_refl _) (by unfold maxLen;have:=HN.out;omega) (fun i hi=>by simp[hi])⟩
theorem takes_no(W h:Int)(p:Option Addr)(n cp:Nat)(f:Nat->Int)(w:World)(hW:0<=W)(hh:0<=h)(WW:Hid (Sh.W64 W/\Sh.W64 h))(hn:n<=65536)(hf:IsI w p n f)(HB:Hid (¬okA W f n)):
  Calls prog 156 #[.int .i64 W,.int .i64 h,.slice p n cp] w fun e w'=>e=.returned (.tuple #[.slice none 0 0,.int .i64 1])/\Below w.heap.size w w':=by
 have MK:=run_make_row' (P:=prog) 46 2 (.int .i64 0) 8 underlying46 Sh.eW rfl .i64 .i64 n (by omega) (by omega) w
 have HF:=hid hf
 have HN:=hid hn
 clear hf hn
 have d1:decide (W<0)=false:=decide_eq_false (by omega)
 have d2:decide (h<0)=false:=decide_eq_false (by omega)
 obtain⟨ob,hob⟩:=aB w.heap.size
 have RW:Hid ((w.alloc (.cells (madeCells #[.int .i64 0] n) 2)).rowIs ob 2 n (fun _=>.int .i64 0)):=by rw[<- hob];exact World.rowIs_made _ _ _ _
 have A0:Hid (Ab w (w.alloc (.cells (madeCells #[.int .i64 0] n) 2))):=bl1 w _
 have HO:Hid (w.heap.size<=ob):=Nat.le_of_eq hob
 generalize w.alloc (.cells (madeCells #[.int .i64 0] n) 2)=wm at*
 go_enter func156,ntmps156
 go_wp2
 clear MK hob
 go_loopw [9,10,25] (fun gv tv iv wr=> ∃c:Nat,c<=n/\iv=.int .i64 (c:Nat)/\gv=.int .i64 (sumN f c)/\tv=.int .i64 (Sh.part h (sumN f c) W)/\okA W f c/\Ab w wr/\wr.rowIs ob 2 n (fun j=>.int .i64 (if j<c then tkA h W f j else 0))) (fun _ _ iv _=>n - (intOf iv).toNat)
 case atStart=>exact⟨0,by omega,rfl,rfl,by rw[show sumN f 0=0 from rfl,wE],⟨fun i hi=>absurd hi (Nat.not_lt_zero i),by show(0:Int)<=_;omega⟩,A0.out,RW.out.congr (fun i _=>by simp)⟩
 case round=>
  obtain⟨c,hc,rfl,rfl,rfl,ok,a1,r1⟩:=hrel
  have AR:=hid a1
  have RR:=hid r1
  have OK:=hid ok
  have HC:=hid hc
  have s0:=(ok.sum (Nat.le_refl c)).1
  have s1:=(ok.sum (Nat.le_refl c)).2
  have W2:=WW.out.1.2
  obtain⟨s,hs⟩:=aB (sumN f c)
  have SE:=hid hs
  rw[hs]at s0 s1 ⊢
  obtain⟨q,hq⟩:=aB (Sh.part h s W)
  have q0:=(Sh.gK h s W).1
  have q1:=(Sh.gK h s W).2
  have QE:=hid hq
  rw[hq]at q0 q1 ⊢
  clear hs hq a1 r1 ok A0 RW
  by_cases hcn:c<n
  ·have HC2:=hid hcn
   have hcI:(c:Int)<n:=by omega
   have hcB:(c:Int)<=65536:=by have:=HN.out;omega
   obtain⟨b0,o0,rfl⟩:=HF.out.some0 (show 0<n by omega)
   obtain⟨x,hx⟩:=aB (f c)
   have at0:=(HF.out.below AR.out).at0 hcn
   rw[hx]at at0
   have xc:=at0.2.2
   have x1:=at0.1.1
   have x2:=at0.1.2
   have XE:=hid hx
   clear at0 hx hcn hc
   have OK2:Hid (0<=x->x<=W - s->okA W f (c+1)):=fun a b=>⟨fun i hi=>by
    by_cases l:i<c
    ·exact OK.out.1 i l
    ·obtain rfl:i=c:=by omega
     rw[XE.out];exact a,by
    show sumN f c+f c<=W
    rw[SE.out,XE.out]
    omega⟩
   by_cases x0:x<0
   ·have d3:decide (x<0)=true:=decide_eq_true x0
    go_wp2
    go_ret2
    exact⟨rfl,AR.out⟩
   ·have d3:decide (x<0)=false:=decide_eq_false x0
    by_cases x3:W - s<x
    ·have d4:decide (W - s<x)=true:=decide_eq_true x3
     go_wp2
     go_ret2
     exact⟨rfl,AR.out⟩
    ·have d4:decide (W - s<x)=false:=decide_eq_false x3
     obtain⟨y,hy⟩:=aB (Sh.part h (s+x) W)
     have y0:=(Sh.gK h (s+x) W).1
     have y1:=(Sh.gK h (s+x) W).2
     have PC:=hid (partC h (s+x) W wr WW.out.2 ⟨by omega,by omega⟩ WW.out.1)
     have YE:=hid hy
     rw[hy]at y0 y1 PC
     have TK:Hid (tkA h W f c=y - q):=by
      show Sh.part h (sumN f c+f c) W - Sh.part h (sumN f c) W=_
      rw[SE.out,XE.out,YE.out,QE.out]
     clear hy
     go_wp2_with fail
     refine PC.out.mono ?_
     rintro e9 v1 ⟨rfl,b1⟩
     have A1:Hid (Ab wr v1):=b1
     clear b1 PC
     have R1:=hid (cP RR.out A1.out)
     have z1:=R1.out.cell (show c<n from HC2.out)
     have z2:=R1.out.frozen c
     go_wp2
     refine⟨⟨c+1,by have:=HC2.out;omega,by simp,?_,?_,OK2.out (by omega) (by omega),(AR.out.trans A1.out).set HO.out _,(R1.out.set c _).congr (fun i _=> ?_)⟩,by have:=HC2.out;simp[intOf];omega⟩
     ·show _=Value.int .i64 (sumN f c+f c)
      rw[SE.out,XE.out]
     ·show _=Value.int .i64 (Sh.part h (sumN f c+f c) W)
      rw[SE.out,XE.out,YE.out]
     ·by_cases e:i=c
      ·subst e;simp[TK.out]
      ·have e2:(i<c+1) ↔ i<c:=by omega
       simp[e,e2]
  ·have e6:n=c:=by omega
   subst e6
   exact absurd OK.out HB.out
theorem takesC:TakesC:=by
 intro W h p n c f w hW hh hn hf
 constructor
 ·rintro⟨g1,g2,g3⟩
  exact FD W h p n c f w g1 g2 ⟨hW,hh⟩ hn hf g3
 ·intro b
  by_cases l:W<0\/h<0
  ·refine(FC W h p n c w l).mono ?_
   rintro e w' ⟨rfl,rfl⟩
   exact⟨rfl,Below.refl _ _⟩
  ·exact takes_no W h p n c f w (by omega) (by omega) ⟨hW,hh⟩ hn hf (fun o=>b ⟨by omega,by omega,o⟩)
end Tr
end
section
open Go.RowKit Go.Deep Cu
namespace Tr
open Sh
def FlowsC:Prop:= ∀(n gb:Nat) (pw:Option Addr) (lw cw:Nat) (W:Nat->Int) (ph:Option Addr) (lh ch:Nat) (H:Nat->Int) (pf:Option Addr) (lf cf:Nat) (F:Nat->Int) (w:World),(1<=n/\n<=32)->GridOf n gb w->lw<=65536->lh<=65536->lf<=65536->IsI w pw lw W->IsI w ph lh H->IsI w pf lf F->
 (Be n lw W lh H lf F->Calls prog 76 #[.pointer (some ⟨gb,0,none⟩),.slice pw lw cw,.slice ph lh ch,.slice pf lf cf] w fun e w'=> ∃v,e=.returned (.tuple #[v,.int .i64 0])/\Below w.heap.size w w'/\Own w.heap.size v ((List.range (12*n*n)).map (flF n W H F)) w')/\
 (¬Be n lw W lh H lf F->Calls prog 76 #[.pointer (some ⟨gb,0,none⟩),.slice pw lw cw,.slice ph lh ch,.slice pf lf cf] w fun e w'=>e=.returned (.tuple #[.slice none 0 0,.int .i64 1])/\Below w.heap.size w w')
end Tr
end
end Go.Proofs.YtmhnilnaffjhmaaGreatDoor
