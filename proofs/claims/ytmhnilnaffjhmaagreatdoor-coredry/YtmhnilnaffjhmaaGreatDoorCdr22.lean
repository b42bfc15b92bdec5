/-
  Some of the texts of this proof, one behind the other.
-/
import Derived.Test.YtmhnilnaffjhmaaGreatDoorCdr21
set_option maxRecDepth 100000
set_option maxHeartbeats 400000000
namespace Go.Proofs.YtmhnilnaffjhmaaGreatDoor
open _root_.Go.Proofs.Tryz
section
open Go.RowKit Go.Deep
namespace Tr
open Sh
theorem Gy{B:Nat}{v:Value}{l:List Int}{w:World}(h:Own B v l w)(h0:0<l.length): ∃g cap F,v=.slice (some ⟨g,0,none⟩) l.length cap/\B<=g/\l.length<=cap/\cap<=maxLen/\w.rowIs g 2 cap F/\ ∀i,i<l.length->F i=.int .i64 (l.getD i 0):=by
 rcases h.2 with⟨rfl,hz⟩ | ⟨g,cap,cur,e,hb,hg,h1,h2,h3,h4⟩
 ·omega
 ·refine⟨g,cap,fun i=>(cur[i]?).getD (.bool false),e,hb,h1,h2,⟨cur,hg,by omega,fun i hi=> ?_⟩,fun i hi=> ?_⟩
  ·have:i<cur.size:=by omega
   simp[this]
  ·have q:(cur.toList.take l.length)[i]? =(l.map (Value.int .i64))[i]? :=by
    have h4':cur.toList.take l.length=l.map (Value.int .i64):=by simpa using h4
    rw[h4']
   rw[List.getElem?_take,if_pos hi,Array.getElem?_toList]at q
   dsimp only
   rw[q]
   simp[hi,List.getD]
theorem Gz{B n:Nat}{v:Value}{x:Nat->Int}{w:World}(h:Own B v ((List.range n).map x) w)(h0:0<n): ∃g cap F,v=.slice (some ⟨g,0,none⟩) n cap/\B<=g/\n<=cap/\cap<=maxLen/\w.rowIs g 2 cap F/\ ∀i,i<n->F i=.int .i64 (x i):=by
 have e:((List.range n).map x).length=n:=by simp
 obtain⟨g,cap,F,h1,h2,h3,h4,h5,h6⟩:=Gy h (by rw[e];exact h0)
 rw[e]at h1 h3 h6
 exact⟨g,cap,F,h1,h2,h3,h4,h5,fun i hi=>by rw[h6 i hi];simp[List.getD,hi]⟩
theorem vO{B g cap n:Nat}{F:Nat->Value}{x:Nat->Int}{w:World}(h:w.rowIs g 2 cap F)(hB:B<=g)(hn:n<=cap)(hc:cap<=maxLen)(hF: ∀i,i<n->F i=.int .i64 (x i)):Own B (.slice (some ⟨g,0,none⟩) n cap) ((List.range n).map x) w:=by
 obtain⟨c,hb,hs,hf⟩:=h
 refine⟨by simp,.inr ⟨g,cap,c,by simp,hB,hb,by simpa using hn,hc,by omega,?_⟩⟩
 apply List.ext_getElem?
 intro i
 rw[List.getElem?_take,List.length_map,List.length_range]
 by_cases hi:i<n
 ·have e:=hf i (by omega)
  rw[hF i hi]at e
  rw[if_pos (by omega)]
  rw[<- Array.getElem?_toList]at e
  rw[e]
  simp[hi]
 ·rw[if_neg (by omega),List.getElem?_eq_none (by simp;omega)]
theorem GD(W h:Int)(p:Option Addr)(n cp:Nat)(w:World)(c:W<0\/h<0):
  Calls prog 156 #[.int .i64 W,.int .i64 h,.slice p n cp] w fun e w'=>e=.returned (.tuple #[.slice none 0 0,.int .i64 1])/\w'=w:=by
 by_cases c1:W<0
 ·have d1:decide (W<0)=true:=decide_eq_true c1
  clear c
  go_enter func156,ntmps156
  go_wp2
  go_ret2
  exact⟨rfl,rfl⟩
 ·have d1:decide (W<0)=false:=decide_eq_false c1
  have d2:decide (h<0)=true:=decide_eq_true (by omega)
  clear c
  go_enter func156,ntmps156
  go_wp2
  go_ret2
  exact⟨rfl,rfl⟩
theorem GF(W h:Int)(p:Option Addr)(n cp:Nat)(f:Nat->Int)(w:World)(hW:0<=W)(hh:0<=h)(WW:Hid (Sh.W64 W/\Sh.W64 h))(hn:n<=65536)(hf:IsI w p n f)(HG:Hid (okA W f n)):
  Calls prog 156 #[.int .i64 W,.int .i64 h,.slice p n cp] w fun e w'=> ∃v,e=.returned (.tuple #[v,.int .i64 0])/\Below w.heap.size w w'/\Own w.heap.size v (tkL W h n f) w':=by
 have MK:=run_make_row' (P:=prog) 46 2 (.int .i64 0) 8 underlying46 Sh.fA rfl .i64 .i64 n (by omega) (by omega) w
 have HF:=hid hf
 have HN:=hid hn
 clear hf hn
 have d1:decide (W<0)=false:=decide_eq_false (by omega)
 have d2:decide (h<0)=false:=decide_eq_false (by omega)
 obtain⟨ob,hob⟩:=aB w.heap.size
 have RW:Hid ((w.alloc (.cells (madeCells #[.int .i64 0] n) 2)).rowIs ob 2 n (fun _=>.int .i64 0)):=by rw[<- hob];exact World.rowIs_made _ _ _ _
 have A0:Hid (Ab w (w.alloc (.cells (madeCells #[.int .i64 0] n) 2))):=bl1 w _
 have HO:Hid (w.heap.size<=ob):=Nat.le_of_eq hob
 generalize w.alloc (.cells (madeCells #[.int .i64 0] n) 2)=wm at*
 go_enter func156,ntmps156
 go_wp2
 clear MK hob
 go_loopw [9,10,25] (fun gv tv iv wr=> ∃c:Nat,c<=n/\iv=.int .i64 (c:Nat)/\gv=.int .i64 (sumN f c)/\tv=.int .i64 (Sh.part h (sumN f c) W)/\okA W f c/\Ab w wr/\wr.rowIs ob 2 n (fun j=>.int .i64 (if j<c then tkA h W f j else 0))) (fun _ _ iv _=>n - (intOf iv).toNat)
 case atStart=>exact⟨0,by omega,rfl,rfl,by rw[show sumN f 0=0 from rfl,xI],⟨fun i hi=>absurd hi (Nat.not_lt_zero i),by show(0:Int)<=_;omega⟩,A0.out,RW.out.congr (fun i _=>by simp)⟩
 case round=>
  obtain⟨c,hc,rfl,rfl,rfl,ok,a1,r1⟩:=hrel
  have AR:=hid a1
  have RR:=hid r1
  have OK:=hid ok
  have HC:=hid hc
  have s0:=(ok.sum (Nat.le_refl c)).1
  have s1:=(ok.sum (Nat.le_refl c)).2
  have W2:=WW.out.1.2
  obtain⟨s,hs⟩:=aB (sumN f c)
  have SE:=hid hs
  rw[hs]at s0 s1 ⊢
  obtain⟨q,hq⟩:=aB (Sh.part h s W)
  have q0:=(Sh.gP h s W).1
  have q1:=(Sh.gP h s W).2
  have QE:=hid hq
  rw[hq]at q0 q1 ⊢
  clear hs hq a1 r1 ok A0 RW
  by_cases hcn:c<n
  ·have HC2:=hid hcn
   have hcI:(c:Int)<n:=by omega
   have hcB:(c:Int)<=65536:=by have:=HN.out;omega
   obtain⟨b0,o0,rfl⟩:=HF.out.some0 (show 0<n by omega)
   obtain⟨x,hx⟩:=aB (f c)
   have at0:=(HF.out.below AR.out).at0 hcn
   rw[hx]at at0
   have xc:=at0.2.2
   have x1:=at0.1.1
   have x2:=at0.1.2
   have XE:=hid hx
   clear at0 hx hcn hc
   have OK2:Hid (0<=x->x<=W - s->okA W f (c+1)):=fun a b=>⟨fun i hi=>by
    by_cases l:i<c
    ·exact OK.out.1 i l
    ·obtain rfl:i=c:=by omega
     rw[XE.out];exact a,by
    show sumN f c+f c<=W
    rw[SE.out,XE.out]
    omega⟩
   have x0:0<=x:=by rw[<- XE.out];exact HG.out.1 c HC2.out
   have x3:x<=W - s:=by
    have m:=(HG.out.sum (k:=c+1) (by have:=HC2.out;omega)).2
    have e:sumN f (c+1)=s+x:=by show sumN f c+f c=_;rw[SE.out,XE.out]
    omega
   have d3:decide (x<0)=false:=decide_eq_false (by omega)
   have d4:decide (W - s<x)=false:=decide_eq_false (by omega)
   obtain⟨y,hy⟩:=aB (Sh.part h (s+x) W)
   have y0:=(Sh.gP h (s+x) W).1
   have y1:=(Sh.gP h (s+x) W).2
   have PC:=hid (partC h (s+x) W wr WW.out.2 ⟨by omega,by omega⟩ WW.out.1)
   have YE:=hid hy
   rw[hy]at y0 y1 PC
   have TK:Hid (tkA h W f c=y - q):=by
    show Sh.part h (sumN f c+f c) W - Sh.part h (sumN f c) W=_
    rw[SE.out,XE.out,YE.out,QE.out]
   clear hy
   go_wp2_with fail
   refine PC.out.mono ?_
   rintro e9 v1 ⟨rfl,b1⟩
   have A1:Hid (Ab wr v1):=b1
   clear b1 PC
   have R1:=hid (cX RR.out A1.out)
   have z1:=R1.out.cell (show c<n from HC2.out)
   have z2:=R1.out.frozen c
   go_wp2
   refine⟨⟨c+1,by have:=HC2.out;omega,by simp,?_,?_,OK2.out (by omega) (by omega),(AR.out.trans A1.out).set HO.out _,(R1.out.set c _).congr (fun i _=> ?_)⟩,by have:=HC2.out;simp[intOf];omega⟩
   ·show _=Value.int .i64 (sumN f c+f c)
    rw[SE.out,XE.out]
   ·show _=Value.int .i64 (Sh.part h (sumN f c+f c) W)
    rw[SE.out,XE.out,YE.out]
   ·by_cases e:i=c
    ·subst e;simp[TK.out]
    ·have e2:(i<c+1) ↔ i<c:=by omega
     simp[e,e2]
  ·have e6:n=c:=by omega
   subst e6
   go_wp2
   go_ret2
   exact⟨_,rfl,AR.out,vO RR.out HO.out (Nat.le_refl _) (by unfold maxLen;have:=HN.out;omega) (fun i hi=>by simp[hi])⟩
theorem takes_no(W h:Int)(p:Option Addr)(n cp:Nat)(f:Nat->Int)(w:World)(hW:0<=W)(hh:0<=h)(WW:Hid (Sh.W64 W/\Sh.W64 h))(hn:n<=65536)(hf:IsI w p n f)(HB:Hid (¬okA W f n)):
  Calls prog 156 #[.int .i64 W,.int .i64 h,.slice p n cp] w fun e w'=>e=.returned (.tuple #[.slice none 0 0,.int .i64 1])/\Below w.heap.size w w':=by
 have MK:=run_make_row' (P:=prog) 46 2 (.int .i64 0) 8 underlying46 Sh.fA rfl .i64 .i64 n (by omega) (by omega) w
 have HF:=hid hf
 have HN:=hid hn
 clear hf hn
 have d1:decide (W<0)=false:=decide_eq_false (by omega)
 have d2:decide (h<0)=false:=decide_eq_false (by omega)
 obtain⟨ob,hob⟩:=aB w.heap.size
 have RW:Hid ((w.alloc (.cells (madeCells #[.int .i64 0] n) 2)).rowIs ob 2 n (fun _=>.int .i64 0)):=by rw[<- hob];exact World.rowIs_made _ _ _ _
 have A0:Hid (Ab w (w.alloc (.cells (madeCells #[.int .i64 0] n) 2))):=bl1 w _
 have HO:Hid (w.heap.size<=ob):=Nat.le_of_eq hob
 generalize w.alloc (.cells (madeCells #[.int .i64 0] n) 2)=wm at*
 go_enter func156,ntmps156
 go_wp2
 clear MK hob
 go_loopw [9,10,25] (fun gv tv iv wr=> ∃c:Nat,c<=n/\iv=.int .i64 (c:Nat)/\gv=.int .i64 (sumN f c)/\tv=.int .i64 (Sh.part h (sumN f c) W)/\okA W f c/\Ab w wr/\wr.rowIs ob 2 n (fun j=>.int .i64 (if j<c then tkA h W f j else 0))) (fun _ _ iv _=>n - (intOf iv).toNat)
 case atStart=>exact⟨0,by omega,rfl,rfl,by rw[show sumN f 0=0 from rfl,xI],⟨fun i hi=>absurd hi (Nat.not_lt_zero i),by show(0:Int)<=_;omega⟩,A0.out,RW.out.congr (fun i _=>by simp)⟩
 case round=>
  obtain⟨c,hc,rfl,rfl,rfl,ok,a1,r1⟩:=hrel
  have AR:=hid a1
  have RR:=hid r1
  have OK:=hid ok
  have HC:=hid hc
  have s0:=(ok.sum (Nat.le_refl c)).1
  have s1:=(ok.sum (Nat.le_refl c)).2
  have W2:=WW.out.1.2
  obtain⟨s,hs⟩:=aB (sumN f c)
  have SE:=hid hs
  rw[hs]at s0 s1 ⊢
  obtain⟨q,hq⟩:=aB (Sh.part h s W)
  have q0:=(Sh.gP h s W).1
  have q1:=(Sh.gP h s W).2
  have QE:=hid hq
  rw[hq]at q0 q1 ⊢
  clear hs hq a1 r1 ok A0 RW
  by_cases hcn:c<n
  ·have HC2:=hid hcn
   have hcI:(c:Int)<n:=by omega
   have hcB:(c:Int)<=65536:=by have:=HN.out;omega
   obtain⟨b0,o0,rfl⟩:=HF.out.some0 (show 0<n by omega)
   obtain⟨x,hx⟩:=aB (f c)
   have at0:=(HF.out.below AR.out).at0 hcn
   rw[hx]at at0
   have xc:=at0.2.2
   have x1:=at0.1.1
   have x2:=at0.1.2
   have XE:=hid hx
   clear at0 hx hcn hc
   have OK2:Hid (0<=x->x<=W - s->okA W f (c+1)):=fun a b=>⟨fun i hi=>by
    by_cases l:i<c
    ·exact OK.out.1 i l
    ·obtain rfl:i=c:=by omega
     rw[XE.out];exact a,by
    show sumN f c+f c<=W
    rw[SE.out,XE.out]
    omega⟩
   by_cases x0:x<0
   ·have d3:decide (x<0)=true:=decide_eq_true x0
    go_wp2
    go_ret2
    exact⟨rfl,AR.out⟩
   ·have d3:decide (x<0)=false:=decide_eq_false x0
    by_cases x3:W - s<x
    ·have d4:decide (W - s<x)=true:=decide_eq_true x3
     go_wp2
     go_ret2
     exact⟨rfl,AR.out⟩
    ·have d4:decide (W - s<x)=false:=decide_eq_false x3
     obtain⟨y,hy⟩:=aB (Sh.part h (s+x) W)
     have y0:=(Sh.gP h (s+x) W).1
     have y1:=(Sh.gP h (s+x) W).2
     have PC:=hid (partC h (s+x) W wr WW.out.2 ⟨by omega,by omega⟩ WW.out.1)
     have YE:=hid hy
     rw[hy]at y0 y1 PC
     have TK:Hid (tkA h W f c=y - q):=by
      show Sh.part h (sumN f c+f c) W - Sh.part h (sumN f c) W=_
      rw[SE.out,XE.out,YE.out,QE.out]
     clear hy
     go_wp2_with fail
     refine PC.out.mono ?_
     rintro e9 v1 ⟨rfl,b1⟩
     have A1:Hid (Ab wr v1):=b1
     clear b1 PC
     have R1:=hid (cX RR.out A1.out)
     have z1:=R1.out.cell (show c<n from HC2.out)
     have z2:=R1.out.frozen c
     go_wp2
     refine⟨⟨c+1,by have:=HC2.out;omega,by simp,?_,?_,OK2.out (by omega) (by omega),(AR.out.trans A1.out).set HO.out _,(R1.out.set c _).congr (fun i _=> ?_)⟩,by have:=HC2.out;simp[intOf];omega⟩
     ·show _=Value.int .i64 (sumN f c+f c)
      rw[SE.out,XE.out]
     ·show _=Value.int .i64 (Sh.part h (sumN f c+f c) W)
      rw[SE.out,XE.out,YE.out]
     ·by_cases e:i=c
      ·subst e;simp[TK.out]
      ·have e2:(i<c+1) ↔ i<c:=by omega
       simp[e,e2]
  ·have e6:n=c:=by omega
   subst e6
   exact absurd OK.out HB.out
theorem takesC:TakesC:=by
 intro W h p n c f w hW hh hn hf
 constructor
 ·rintro⟨g1,g2,g3⟩
  exact GF W h p n c f w g1 g2 ⟨hW,hh⟩ hn hf g3
 ·intro b
  by_cases l:W<0\/h<0
  ·refine(GD W h p n c w l).mono ?_
   rintro e w' ⟨rfl,rfl⟩
   exact⟨rfl,Below.refl _ _⟩
  ·exact takes_no W h p n c f w (by omega) (by omega) ⟨hW,hh⟩ hn hf (fun o=>b ⟨by omega,by omega,o⟩)
end Tr
end
section
open Go.RowKit Go.Deep Cu
namespace Tr
open Sh
def FlowsC:Prop:= ∀(n gb:Nat) (pw:Option Addr) (lw cw:Nat) (W:Nat->Int) (ph:Option Addr) (lh ch:Nat) (H:Nat->Int) (pf:Option Addr) (lf cf:Nat) (F:Nat->Int) (w:World),(1<=n/\n<=32)->GridOf n gb w->lw<=65536->lh<=65536->lf<=65536->IsI w pw lw W->IsI w ph lh H->IsI w pf lf F->
 (BQ n lw W lh H lf F->Calls prog 76 #[.pointer (some ⟨gb,0,none⟩),.slice pw lw cw,.slice ph lh ch,.slice pf lf cf] w fun e w'=> ∃v,e=.returned (.tuple #[v,.int .i64 0])/\Below w.heap.size w w'/\Own w.heap.size v ((List.range (12*n*n)).map (flF n W H F)) w')/\
 (¬BQ n lw W lh H lf F->Calls prog 76 #[.pointer (some ⟨gb,0,none⟩),.slice pw lw cw,.slice ph lh ch,.slice pf lf cf] w fun e w'=>e=.returned (.tuple #[.slice none 0 0,.int .i64 1])/\Below w.heap.size w w')
end Tr
end
section
open Go.RowKit Go.Deep Cu
namespace Tr
open Sh
theorem Au{n gb c s:Nat}{v:World}(hn:1<=n/\n<=32)(hc:c<6*n*n)(hs:s<4)(g:GridOf n gb v):Calls prog 11 #[.pointer (some ⟨gb,0,none⟩),.int .i64 (c:Nat),.int .i64 (s:Nat)] v fun e w'=>e=.returned (.tuple #[.int .i64 (eE n (4*c+s):Nat),.int .i64 (eS n (4*c+s))])/\Below v.heap.size v w':=by
 have e:gT n (24*n*n) (c:Nat) (s:Nat)=(((eE n (4*c+s):Nat):Int),eS n (4*c+s)):=by
  have ht:=eK hc hs
  have hm:=cQ hn.1 ht
  rw[mE,if_pos ⟨hc,hs⟩]
  unfold gN eE eS
  by_cases q:isL n (4*c+s)=true
  ·simp[q,ht]
  ·simp[q,hm]
 have b:c<6144:=by
  have h1:n*n<=32*32:=Nat.mul_le_mul hn.2 hn.2
  rw[Nat.mul_assoc]at hc
  omega
 have h:=mK (n:=n) (gb:=gb) (c:=(c:Nat)) (s:=(s:Nat)) (w:=v) ⟨by omega,by omega⟩ ⟨by omega,by omega⟩ g
 rwa [e]at h
def gJ(x:Int):Bool:=decide (x< -4503599627370496)||decide (4503599627370496<x)
theorem Av(x:Int)(w:World):Calls prog 120 #[.int .i64 x] w fun e w'=>e=.returned (.bool (gJ x))/\w'=w:=by
 cases h1:decide (x< -4503599627370496)with
 | true=>
  have F:Hid (gJ x=true):=by show _=_;unfold gJ;rw[h1];rfl
  go_enter func120,ntmps120
  go_wp2
  go_ret
  exact⟨by rw[F.out];rfl,rfl⟩
 | false=>
  cases h2:decide (4503599627370496<x)with
  | true=>
   have F:Hid (gJ x=true):=by show _=_;unfold gJ;rw[h1,h2];rfl
   go_enter func120,ntmps120
   go_wp2
   go_ret
   exact⟨by rw[F.out];rfl,rfl⟩
  | false=>
   have F:Hid (gJ x=false):=by show _=_;unfold gJ;rw[h1,h2];rfl
   go_enter func120,ntmps120
   go_wp2
   go_ret
   exact⟨by rw[F.out];rfl,rfl⟩
theorem Aw(p:Option Addr)(n cp:Nat)(f:Nat->Int)(w:World)(hn:n<=65536)(hf:IsI w p n f)(HA:Hid (∀i,i<n->gJ (f i)=false)):
  Calls prog 126 #[.slice p n cp,.func (.func 120) #[] #[]] w fun e w'=>e=.returned (.int .i64 (-1))/\w'=w:=by
 have HF:=hid hf
 have HN:=hid hn
 clear hf hn
 go_enter func126,ntmps126
 go_wp2
 go_loopw [8] (fun iv wr=> ∃c:Nat,c<=n/\iv=.int .i64 (c:Nat)/\wr=w) (fun iv _=>n - (intOf iv).toNat)
 case atStart=>exact⟨0,by omega,rfl,rfl⟩
 case round=>
  obtain⟨c,hc,rfl,hwr⟩:=hrel
  have hwr2:=hwr.symm
  subst hwr2
  by_cases hcn:c<n
  ·have HC:=hid hcn
   have hcI:(c:Int)<n:=by omega
   have hcB:(c:Int)<=65536:=by have:=HN.out;omega
   obtain⟨b0,o0,rfl⟩:=HF.out.some0 (show 0<n by omega)
   obtain⟨x,hx⟩:=aB (f c)
   have at0:=HF.out.at0 hcn
   have hp:=HA.out c hcn
   rw[hx]at at0 hp
   have xc:=at0.2.2
   have CF:=hid (Av x w)
   rw[hp]at CF
   clear at0 hx hcn hc hp
   go_wp2_with fail
   refine CF.out.mono ?_
   rintro e9 v9 ⟨rfl,hv9⟩
   have hv8:=hv9.symm
   subst hv8
   go_wp2
   exact⟨⟨c+1,by have:=HC.out;omega,by simp,by first | trivial | rfl⟩,by have:=HC.out;simp[intOf];omega⟩
  ·have e6:n=c:=by omega
   subst e6
   go_wp2
   go_ret
   exact⟨rfl,by first | trivial | rfl⟩
theorem xQ(p:Option Addr)(n cp:Nat)(f:Nat->Int)(w:World)(hn:n<=65536)(hf:IsI w p n f)(HA:Hid (¬ ∀i,i<n->gJ (f i)=false)):
  Calls prog 126 #[.slice p n cp,.func (.func 120) #[] #[]] w fun e w'=>(∃i:Nat,i<=65536/\e=.returned (.int .i64 (i:Nat)))/\w'=w:=by
 have HF:=hid hf
 have HN:=hid hn
 clear hf hn
 go_enter func126,ntmps126
 go_wp2
 go_loopw [8] (fun iv wr=> ∃c:Nat,c<=n/\iv=.int .i64 (c:Nat)/\(∀i,i<c->gJ (f i)=false)/\wr=w) (fun iv _=>n - (intOf iv).toNat)
 case atStart=>exact⟨0,by omega,rfl,fun i hi=>absurd hi (Nat.not_lt_zero i),rfl⟩
 case round=>
  obtain⟨c,hc,rfl,g1,hwr⟩:=hrel
  have hwr2:=hwr.symm
  subst hwr2
  have G1:=hid g1
  clear g1
  by_cases hcn:c<n
  ·have HC:=hid hcn
   have hcI:(c:Int)<n:=by omega
   have hcB:(c:Int)<=65536:=by have:=HN.out;omega
   obtain⟨b0,o0,rfl⟩:=HF.out.some0 (show 0<n by omega)
   obtain⟨x,hx⟩:=aB (f c)
   have at0:=HF.out.at0 hcn
   rw[hx]at at0
   have xc:=at0.2.2
   have CF:=hid (Av x w)
   have XE:=hid hx
   clear at0 hx hcn hc
   cases hp:gJ (x)with
   | true=>
    rw[hp]at CF
    have hp2:=hid hp
    clear hp
    go_wp2_with fail
    refine CF.out.mono ?_
    rintro e9 v9 ⟨rfl,hv9⟩
    have hv8:=hv9.symm
    subst hv8
    go_wp2
    go_ret
    exact⟨⟨c,by have:=HC.out;have:=HN.out;omega,rfl⟩,by first | trivial | rfl⟩
   | false=>
    rw[hp]at CF
    have hp2:=hid hp
    clear hp
    go_wp2_with fail
    refine CF.out.mono ?_
    rintro e9 v9 ⟨rfl,hv9⟩
    have hv8:=hv9.symm
    subst hv8
    go_wp2
    refine⟨⟨c+1,by have:=HC.out;omega,by simp,fun i hi=> ?_,by first | trivial | rfl⟩,by have:=HC.out;simp[intOf];omega⟩
    by_cases l:i<c
    ·exact G1.out i l
    ·obtain rfl:i=c:=by omega
     rw[XE.out]
     exact hp2.out
  ·have e6:n=c:=by omega
   subst e6
   exact absurd G1.out HA.out
theorem pW(p:Option Addr)(n cp:Nat)(f:Nat->Int)(w:World)(hn:n<=65536)(hf:IsI w p n f)(HA: ∀i,i<n->gJ (f i)=false):
  Calls prog 81 #[.slice p n cp,.func (.func 120) #[] #[]] w fun e w'=>e=.returned (.bool false)/\w'=w:=by
 have IX:=hid (Aw p n cp f w hn hf HA)
 clear hn hf HA
 go_enter func81,ntmps81
 go_wp2_with fail
 refine IX.out.mono ?_
 rintro e9 v9 ⟨rfl,hv9⟩
 have hv8:=hv9.symm
 subst hv8
 go_wp2
 go_ret
 exact⟨rfl,rfl⟩
theorem xR(p:Option Addr)(n cp:Nat)(f:Nat->Int)(w:World)(hn:n<=65536)(hf:IsI w p n f)(HA: ¬ ∀i,i<n->gJ (f i)=false):
  Calls prog 81 #[.slice p n cp,.func (.func 120) #[] #[]] w fun e w'=>e=.returned (.bool true)/\w'=w:=by
 have IX:=hid (xQ p n cp f w hn hf HA)
 clear hn hf HA
 go_enter func81,ntmps81
 go_wp2_with fail
 refine IX.out.mono ?_
 rintro e9 v9 ⟨⟨i,hi,rfl⟩,hv9⟩
 have hv8:=hv9.symm
 subst hv8
 go_wp2
 go_ret
 exact⟨rfl,rfl⟩
theorem C6(gb N cell fb fo lf cf b:Nat)(wa has:Int)(E:Nat->Nat)(sg x g k:Nat->Int)(P:Nat->Nat->Int)(w0 w:World)(hB:w0.heap.size<=b)
  (AV:Hid (Ab w0 w)) (RB:Hid (w.rowIs b 2 N (fun i=>.int .i64 (P 0 i))))
  (ARD:Hid (∀u s,s<4->Ab w0 u->Calls prog 11 #[.pointer (some ⟨gb,0,none⟩),.int .i64 (cell:Nat),.int .i64 (s:Nat)] u fun e w'=>e=.returned (.tuple #[.int .i64 (E s:Nat),.int .i64 (sg s)])/\Below u.heap.size u w'))
  (FL:Hid (∀u s,s<4->Ab w0 u->u.cell? ⟨fb,fo+E s,none⟩=some (.int .i64 (x s))))
  (FA:Hid (∀s,s<4->E s<N/\E s<lf/\E s<=65536/\(-4503599627370496<=sg s*x s/\sg s*x s<=4503599627370496)/\g s=(if 0<sg s*x s then sg s*x s else 0)/\(-9223372036854775807<=sg s*k s/\sg s*k s<=9223372036854775807)))
  (CUT:Hid (∀u a,IsI u (some ⟨a,0,none⟩) 4 g->Calls prog 156 #[.int .i64 wa,.int .i64 has,.slice (some ⟨a,0,none⟩) 4 4] u fun e w'=> ∃g2 cap F,e=.returned (.tuple #[.slice (some ⟨g2,0,none⟩) 4 cap,.int .i64 0])/\Below u.heap.size u w'/\u.heap.size<=g2/\4<=cap/\w'.rowIs g2 2 cap F/\ ∀i,i<4->F i=.int .i64 (k i)))
  (ST:Hid (∀s,s<4-> ∀i,i<N->P (s+1) i=if i=E s/\0<g s then sg s*k s else P s i)):
  Calls prog 121 #[.pointer (some ⟨gb,0,none⟩),.int .i64 (cell:Nat),.int .i64 wa,.int .i64 has,.slice (some ⟨fb,fo,none⟩) lf cf,.slice (some ⟨b,0,none⟩) N N] w fun e w'=>e=.returned (.bool true)/\Ab w0 w'/\w'.rowIs b 2 N (fun i=>.int .i64 (P 4 i)):=by
 have MK:(Instr.makeSlice 46 (.int .i64 4) (.int .i64 4)).run prog w=.ok (.slice (some ⟨w.heap.size,0,none⟩) 4 4) (w.alloc (.cells (madeCells #[.int .i64 0] 4) 2)):=run_make_row' (P:=prog) 46 2 (.int .i64 0) 8 underlying46 Sh.fA rfl .i64 .i64 4 (by omega) (by omega) w
 have HB:=hid hB
 have BL:Hid (b<w.heap.size):=RB.out.lt
 clear hB
 obtain⟨ob,hob⟩:=aB w.heap.size
 have RW:Hid ((w.alloc (.cells (madeCells #[.int .i64 0] 4) 2)).rowIs ob 2 4 (fun _=>.int .i64 0)):=by rw[<- hob];exact World.rowIs_made _ _ _ _
 have A0:Hid (Ab w (w.alloc (.cells (madeCells #[.int .i64 0] 4) 2))):=bl1 w _
 have HO:Hid (w.heap.size<=ob/\b<ob):=⟨Nat.le_of_eq hob,by rw[<- hob];exact BL.out⟩
 generalize w.alloc (.cells (madeCells #[.int .i64 0] 4) 2)=wm at*
 go_enter func121,ntmps121
 go_wp2
 clear MK hob
 go_loopw [23] (fun iv wr=> ∃c:Nat,c<=4/\iv=.int .i64 (c:Nat)/\Ab w wr/\wr.rowIs ob 2 4 (fun j=>.int .i64 (if j<c then g j else 0))) (fun iv _=>4 - (intOf iv).toNat)
 case atStart=>exact⟨0,by omega,rfl,A0.out,RW.out.congr (fun i _=>by simp)⟩
 case round=>
  obtain⟨c,hc,rfl,a1,r1⟩:=hrel
  have AR:=hid a1
  have RR:=hid r1
  clear a1 r1 A0 RW
  by_cases hcn:c<4
  ·have HC:=hid hcn
   have hcI:(c:Int)<4:=by omega
   have AW:=hid (AV.out.trans AR.out)
   have CA:=hid (ARD.out wr c hcn AW.out)
   obtain⟨f1,f2,f3,f4,f5,-⟩:=FA.out c hcn
   obtain⟨y,hy⟩:=aB (sg c*x c)
   obtain⟨ee,hee⟩:=aB (E c)
   obtain⟨xx,hxx⟩:=aB (x c)
   obtain⟨ss,hss⟩:=aB (sg c)
   have GE:=hid f5
   rw[hy]at f4 GE
   rw[hee,hss]at CA
   rw[hee]at f2 f3
   rw[hss,hxx]at hy
   have EE:=hid hee
   have XX:=hid hxx
   have y1:=f4.1
   have y2:=f4.2
   have e1:(ee:Int)<lf:=by omega
   have e2:(ee:Int)<=65536:=by omega
   clear f1 f4 f5 hee hxx hss hcn hc f2 f3
   go_wp2_with fail
   refine CA.out.mono ?_
   rintro e9 v1 ⟨rfl,b1⟩
   have A1:Hid (Ab wr v1):=b1
   clear b1 CA
   have xc:v1.cell? ⟨fb,fo+ee,none⟩=some (.int .i64 xx):=by
    have h:=FL.out v1 c HC.out (AW.out.trans A1.out)
    rwa [EE.out,XX.out]at h
   have R1:=hid (cX RR.out A1.out)
   have z1:=R1.out.cell (show c<4 from HC.out)
   have z2:=R1.out.frozen c
   by_cases c0:0<y
   ·have GV:Hid (g c=y):=by have h:=GE.out;rwa [if_pos c0]at h
    go_wp2
    refine⟨⟨c+1,by have:=HC.out;omega,by simp,(AR.out.trans A1.out).set HO.out.1 _,(R1.out.set c _).congr (fun i _=> ?_)⟩,by simp[intOf];have:=HC.out;omega⟩
    by_cases e:i=c
    ·subst e;simp[GV.out]
    ·have e2:(i<c+1) ↔ i<c:=by omega
     simp[e,e2]
   ·have GV:Hid (g c=0):=by have h:=GE.out;rwa [if_neg c0]at h
    go_wp2
    refine⟨⟨c+1,by have:=HC.out;omega,by simp,(AR.out.trans A1.out).set HO.out.1 _,(R1.out.set c _).congr (fun i _=> ?_)⟩,by simp[intOf];have:=HC.out;omega⟩
    by_cases e:i=c
    ·subst e;simp[GV.out]
    ·have e2:(i<c+1) ↔ i<c:=by omega
     simp[e,e2]
  ·have e6:c=4:=by omega
   subst e6
   have RG:Hid (wr.rowIs ob 2 4 (fun j=>.int .i64 (g j))):=RR.out.congr (fun i hi=>by simp[hi])
   have GB: ∀i,i<4-> -9223372036854775808<=g i/\g i<=9223372036854775807:=fun i hi=>by
    obtain⟨-,-,-,f4,f5,-⟩:=FA.out i hi
    rw[f5]
    split<;>omega
   have CC:=hid (CUT.out wr ob (pC RG.out GB))
   clear GB RR
   go_wp2_with fail
   refine CC.out.mono ?_
   rintro e9 v2 ⟨g2,cap,F,rfl,b2,hg2,hcap,rw2,hF⟩
   have A2:Hid (Ab wr v2):=b2
   have LG:Hid (b≠ob/\b≠g2/\4<=cap):=by
    have h1:=HO.out.2
    have h2:=RG.out.lt
    exact⟨by omega,by omega,hcap⟩
   have IN:Hid (Ab w0 v2/\v2.rowIs ob 2 4 (fun j=>.int .i64 (g j))/\v2.rowIs g2 2 cap F/\v2.rowIs b 2 N (fun i=>.int .i64 (P 0 i))):=⟨AV.out.trans (AR.out.trans A2.out),cX RG.out A2.out,rw2,cX RB.out (AR.out.trans A2.out)⟩
   have HFK:=hid hF
   clear b2 hg2 hcap rw2 hF CC RG A2 AR
   go_wp2
   go_loopw [53] (fun iv wq=> ∃c:Nat,c<=4/\iv=.int .i64 (c:Nat)/\Ab w0 wq/\wq.rowIs ob 2 4 (fun j=>.int .i64 (g j))/\wq.rowIs g2 2 cap F/\wq.rowIs b 2 N (fun i=>.int .i64 (P c i))) (fun iv _=>4 - (intOf iv).toNat)
   case atStart=>exact⟨0,by omega,rfl,IN.out⟩
   case round=>
    obtain⟨c,hc,rfl,a1,r1,r2,r3⟩:=hrel
    rename World=>wq
    have AR:=hid a1
    have RO:=hid r1
    have RG:=hid r2
    have RP:=hid r3
    clear a1 r1 r2 r3 IN
    by_cases hcn:c<4
    ·have HC:=hid hcn
     have hcI:(c:Int)<4:=by omega
     obtain⟨f1,f2,f3,-,-,f6⟩:=FA.out c hcn
     have z0:=RO.out.cell (show c<4 from hcn)
     obtain⟨gg,hgg⟩:=aB (g c)
     rw[hgg]at z0
     have GG:=hid hgg
     by_cases c0:0<gg
     ·have d0:decide (0<gg)=true:=decide_eq_true c0
      have CA:=hid (ARD.out _ c hcn AR.out)
      obtain⟨y,hy⟩:=aB (sg c*k c)
      obtain⟨ee,hee⟩:=aB (E c)
      obtain⟨kk,hkk⟩:=aB (k c)
      obtain⟨ss,hss⟩:=aB (sg c)
      have YE:=hid hy
      rw[hy]at f6
      rw[hee,hss]at CA
      rw[hee]at f1 f3
      rw[hss,hkk]at hy
      have EE:=hid hee
      have KK:=hid hkk
      have y1:=f6.1
      have y2:=f6.2
      have e1:(ee:Int)<N:=by omega
      have e2:(ee:Int)<=65536:=by omega
      have FN:=hid f1
      clear f1 f2 f3 f6 hee hkk hss hcn hc hgg
      go_wp2_with fail
      refine CA.out.mono ?_
      rintro e9 v3 ⟨rfl,b3⟩
      have A3:Hid (Ab _ v3):=b3
      clear b3 CA z0
      have R3:=hid (cX RG.out A3.out)
      have R4:=hid (cX RP.out A3.out)
      have R5:=hid (cX RO.out A3.out)
      have z1:v3.cell? ⟨g2,c,none⟩=some (.int .i64 kk):=by
       have h:=R3.out.cell (show c<cap by have:=LG.out.2.2;have:=HC.out;omega)
       rwa [HFK.out c HC.out,KK.out]at h
      have z2:=R4.out.cell FN.out
      have z3:=R4.out.frozen ee
      go_wp2
      refine⟨⟨c+1,by have:=HC.out;omega,by simp,(AR.out.trans A3.out).set HB.out _,R5.out.setOther (Ne.symm LG.out.1) _,R3.out.setOther (Ne.symm LG.out.2.1) _,(R4.out.set ee _).congr (fun i hi=> ?_)⟩,by simp[intOf];have:=HC.out;omega⟩
      have s:=ST.out c HC.out i hi
      rw[EE.out,GG.out,YE.out]at s
      rw[s]
      by_cases e:i=ee
      ·simp[e,c0]
      ·simp[e]
     ·have d0:decide (0<gg)=false:=decide_eq_false c0
      clear f1 f2 f3 f6 hcn hc hgg
      go_wp2
      refine⟨⟨c+1,by have:=HC.out;omega,by simp,AR.out,RO.out,RG.out,RP.out.congr (fun i hi=> ?_)⟩,by simp[intOf];have:=HC.out;omega⟩
      have s:=ST.out c HC.out i hi
      rw[GG.out,if_neg (fun h=>c0 h.2)]at s
      rw[s]
    ·have e6:c=4:=by omega
     subst e6
     go_wp2
     go_ret
     exact⟨rfl,AR.out,RP.out⟩
theorem GI(gb N cell fb fo lf cf b:Nat)(wa has:Int)(E:Nat->Nat)(sg x g:Nat->Int)(P:Nat->Int)(w0 w:World)(hB:w0.heap.size<=b)
  (AV:Hid (Ab w0 w)) (RB:Hid (w.rowIs b 2 N (fun i=>.int .i64 (P i))))
  (ARD:Hid (∀u s,s<4->Ab w0 u->Calls prog 11 #[.pointer (some ⟨gb,0,none⟩),.int .i64 (cell:Nat),.int .i64 (s:Nat)] u fun e w'=>e=.returned (.tuple #[.int .i64 (E s:Nat),.int .i64 (sg s)])/\Below u.heap.size u w'))
  (FL:Hid (∀u s,s<4->Ab w0 u->u.cell? ⟨fb,fo+E s,none⟩=some (.int .i64 (x s))))
  (FA:Hid (∀s,s<4->E s<N/\E s<lf/\E s<=65536/\(-4503599627370496<=sg s*x s/\sg s*x s<=4503599627370496)/\g s=(if 0<sg s*x s then sg s*x s else 0)))
  (CUT:Hid (∀u a,IsI u (some ⟨a,0,none⟩) 4 g->Calls prog 156 #[.int .i64 wa,.int .i64 has,.slice (some ⟨a,0,none⟩) 4 4] u fun e w'=>e=.returned (.tuple #[.slice none 0 0,.int .i64 1])/\Below u.heap.size u w')):
  Calls prog 121 #[.pointer (some ⟨gb,0,none⟩),.int .i64 (cell:Nat),.int .i64 wa,.int .i64 has,.slice (some ⟨fb,fo,none⟩) lf cf,.slice (some ⟨b,0,none⟩) N N] w fun e w'=>e=.returned (.bool false)/\Ab w0 w'/\w'.rowIs b 2 N (fun i=>.int .i64 (P i)):=by
 have MK:(Instr.makeSlice 46 (.int .i64 4) (.int .i64 4)).run prog w=.ok (.slice (some ⟨w.heap.size,0,none⟩) 4 4) (w.alloc (.cells (madeCells #[.int .i64 0] 4) 2)):=run_make_row' (P:=prog) 46 2 (.int .i64 0) 8 underlying46 Sh.fA rfl .i64 .i64 4 (by omega) (by omega) w
 have HB:=hid hB
 have BL:Hid (b<w.heap.size):=RB.out.lt
 clear hB
 obtain⟨ob,hob⟩:=aB w.heap.size
 have RW:Hid ((w.alloc (.cells (madeCells #[.int .i64 0] 4) 2)).rowIs ob 2 4 (fun _=>.int .i64 0)):=by rw[<- hob];exact World.rowIs_made _ _ _ _
 have A0:Hid (Ab w (w.alloc (.cells (madeCells #[.int .i64 0] 4) 2))):=bl1 w _
 have HO:Hid (w.heap.size<=ob/\b<ob):=⟨Nat.le_of_eq hob,by rw[<- hob];exact BL.out⟩
 generalize w.alloc (.cells (madeCells #[.int .i64 0] 4) 2)=wm at*
 go_enter func121,ntmps121
 go_wp2
 clear MK hob
 go_loopw [23] (fun iv wr=> ∃c:Nat,c<=4/\iv=.int .i64 (c:Nat)/\Ab w wr/\wr.rowIs ob 2 4 (fun j=>.int .i64 (if j<c then g j else 0))) (fun iv _=>4 - (intOf iv).toNat)
 case atStart=>exact⟨0,by omega,rfl,A0.out,RW.out.congr (fun i _=>by simp)⟩
 case round=>
  obtain⟨c,hc,rfl,a1,r1⟩:=hrel
  have AR:=hid a1
  have RR:=hid r1
  clear a1 r1 A0 RW
  by_cases hcn:c<4
  ·have HC:=hid hcn
   have hcI:(c:Int)<4:=by omega
   have AW:=hid (AV.out.trans AR.out)
   have CA:=hid (ARD.out wr c hcn AW.out)
   obtain⟨f1,f2,f3,f4,f5⟩:=FA.out c hcn
   obtain⟨y,hy⟩:=aB (sg c*x c)
   obtain⟨ee,hee⟩:=aB (E c)
   obtain⟨xx,hxx⟩:=aB (x c)
   obtain⟨ss,hss⟩:=aB (sg c)
   have GE:=hid f5
   rw[hy]at f4 GE
   rw[hee,hss]at CA
   rw[hee]at f2 f3
   rw[hss,hxx]at hy
   have EE:=hid hee
   have XX:=hid hxx
   have y1:=f4.1
   have y2:=f4.2
   have e1:(ee:Int)<lf:=by omega
   have e2:(ee:Int)<=65536:=by omega
   clear f1 f4 f5 hee hxx hss hcn hc f2 f3
   go_wp2_with fail
   refine CA.out.mono ?_
   rintro e9 v1 ⟨rfl,b1⟩
   have A1:Hid (Ab wr v1):=b1
   clear b1 CA
   have xc:v1.cell? ⟨fb,fo+ee,none⟩=some (.int .i64 xx):=by
    have h:=FL.out v1 c HC.out (AW.out.trans A1.out)
    rwa [EE.out,XX.out]at h
   have R1:=hid (cX RR.out A1.out)
   have z1:=R1.out.cell (show c<4 from HC.out)
   have z2:=R1.out.frozen c
   by_cases c0:0<y
   ·have GV:Hid (g c=y):=by have h:=GE.out;rwa [if_pos c0]at h
    go_wp2
    refine⟨⟨c+1,by have:=HC.out;omega,by simp,(AR.out.trans A1.out).set HO.out.1 _,(R1.out.set c _).congr (fun i _=> ?_)⟩,by simp[intOf];have:=HC.out;omega⟩
    by_cases e:i=c
    ·subst e;simp[GV.out]
    ·have e2:(i<c+1) ↔ i<c:=by omega
     simp[e,e2]
   ·have GV:Hid (g c=0):=by have h:=GE.out;rwa [if_neg c0]at h
    go_wp2
    refine⟨⟨c+1,by have:=HC.out;omega,by simp,(AR.out.trans A1.out).set HO.out.1 _,(R1.out.set c _).congr (fun i _=> ?_)⟩,by simp[intOf];have:=HC.out;omega⟩
    by_cases e:i=c
    ·subst e;simp[GV.out]
    ·have e2:(i<c+1) ↔ i<c:=by omega
     simp[e,e2]
  ·have e6:c=4:=by omega
   subst e6
   have RG:Hid (wr.rowIs ob 2 4 (fun j=>.int .i64 (g j))):=RR.out.congr (fun i hi=>by simp[hi])
   have GB: ∀i,i<4-> -9223372036854775808<=g i/\g i<=9223372036854775807:=fun i hi=>by
    obtain⟨-,-,-,f4,f5⟩:=FA.out i hi
    rw[f5]
    split<;>omega
   have CC:=hid (CUT.out wr ob (pC RG.out GB))
   clear GB RR
   go_wp2_with fail
   refine CC.out.mono ?_
   rintro e9 v2 ⟨rfl,b2⟩
   have A2:Hid (Ab wr v2):=b2
   have R2:=hid (cX RB.out (AR.out.trans A2.out))
   clear b2 CC
   go_wp2
   go_ret
   exact⟨rfl,AV.out.trans (AR.out.trans A2.out),R2.out⟩
theorem lW(gb M N:Nat)(pw:Option Addr)(lw cw:Nat)(ph:Option Addr)(lh ch:Nat)(pf:Option Addr)(lf cf:Nat)(ok:Bool)(w:World)
  (CE:Hid (∀v,Ab w v->Calls prog 7 #[.pointer (some ⟨gb,0,none⟩)] v fun e w'=>e=.returned (.int .i64 (M:Nat))/\w'=v))
  (ED:Hid (∀v,Ab w v->Calls prog 8 #[.pointer (some ⟨gb,0,none⟩)] v fun e w'=>e=.returned (.int .i64 (N:Nat))/\w'=v))
  (OK:Hid (ok=true ↔ lw=M/\lh=M/\lf=N)):
  Calls prog 119 #[.pointer (some ⟨gb,0,none⟩),.slice pw lw cw,.slice ph lh ch,.slice pf lf cf] w fun e w'=>e=.returned (.bool ok)/\w'=w:=by
 by_cases c1:lw=M
 ·have d1:((lw:Int)==(M:Int))=true:=by simp;omega
  by_cases c2:lh=M
  ·have d2:((lh:Int)==(M:Int))=true:=by simp;omega
   by_cases c3:lf=N
   ·have d3:((lf:Int)==(N:Int))=true:=by simp;omega
    have KO:Hid (ok=true):=OK.out.2 ⟨c1,c2,c3⟩
    clear OK c1 c2 c3
    go_enter func119,ntmps119
    go_wp2_with fail
    refine(CE.out _ (Ab.refl _)).mono ?_
    rintro e9 v9 ⟨rfl,hv9⟩
    have hv8:=hv9.symm
    subst hv8
    go_wp2_with fail
    refine(CE.out _ (Ab.refl _)).mono ?_
    rintro e9 v9 ⟨rfl,hv9⟩
    have hv8:=hv9.symm
    subst hv8
    go_wp2_with fail
    refine(ED.out _ (Ab.refl _)).mono ?_
    rintro e9 v9 ⟨rfl,hv9⟩
    have hv8:=hv9.symm
    subst hv8
    go_wp2
    go_ret
    exact⟨by rw[KO.out];rfl,rfl⟩
   ·have d3:((lf:Int)==(N:Int))=false:=by simp;omega
    have KO:Hid (ok=false):=eq_false_of_ne_true (fun h=>absurd ((OK.out.1 h).2.2) (by assumption))
    clear OK c1 c2 c3
    go_enter func119,ntmps119
    go_wp2_with fail
    refine(CE.out _ (Ab.refl _)).mono ?_
    rintro e9 v9 ⟨rfl,hv9⟩
    have hv8:=hv9.symm
    subst hv8
    go_wp2_with fail
    refine(CE.out _ (Ab.refl _)).mono ?_
    rintro e9 v9 ⟨rfl,hv9⟩
    have hv8:=hv9.symm
    subst hv8
    go_wp2_with fail
    refine(ED.out _ (Ab.refl _)).mono ?_
    rintro e9 v9 ⟨rfl,hv9⟩
    have hv8:=hv9.symm
    subst hv8
    go_wp2
    go_ret
    exact⟨by rw[KO.out];rfl,rfl⟩
  ·have d2:((lh:Int)==(M:Int))=false:=by simp;omega
   have KO:Hid (ok=false):=eq_false_of_ne_true (fun h=>absurd ((OK.out.1 h).2.1) (by assumption))
   clear OK c1 c2
   go_enter func119,ntmps119
   go_wp2_with fail
   refine(CE.out _ (Ab.refl _)).mono ?_
   rintro e9 v9 ⟨rfl,hv9⟩
   have hv8:=hv9.symm
   subst hv8
   go_wp2_with fail
   refine(CE.out _ (Ab.refl _)).mono ?_
   rintro e9 v9 ⟨rfl,hv9⟩
   have hv8:=hv9.symm
   subst hv8
   go_wp2
   go_ret
   exact⟨by rw[KO.out];rfl,rfl⟩
 ·have d1:((lw:Int)==(M:Int))=false:=by simp;omega
  have KO:Hid (ok=false):=eq_false_of_ne_true (fun h=>absurd ((OK.out.1 h).1) (by assumption))
  clear OK c1
  go_enter func119,ntmps119
  go_wp2_with fail
  refine(CE.out _ (Ab.refl _)).mono ?_
  rintro e9 v9 ⟨rfl,hv9⟩
  have hv8:=hv9.symm
  subst hv8
  go_wp2
  go_ret
  exact⟨by rw[KO.out];rfl,rfl⟩
end Tr
end
section
open Go.RowKit Go.Deep Cu
namespace Tr
open Sh
theorem GJ(gb:Nat)(pw:Option Addr)(lw cw:Nat)(ph:Option Addr)(lh ch:Nat)(pf:Option Addr)(lf cf:Nat)(w:World)
  (FT:Hid (Calls prog 119 #[.pointer (some ⟨gb,0,none⟩),.slice pw lw cw,.slice ph lh ch,.slice pf lf cf] w fun e w'=>e=.returned (.bool false)/\w'=w)):
  Calls prog 76 #[.pointer (some ⟨gb,0,none⟩),.slice pw lw cw,.slice ph lh ch,.slice pf lf cf] w fun e w'=>e=.returned (.tuple #[.slice none 0 0,.int .i64 1])/\w'=w:=by
 go_enter func76,ntmps76
 go_wp2_with fail
 refine FT.out.mono ?_
 rintro e9 v9 ⟨rfl,hv9⟩
 have hv8:=hv9.symm
 subst hv8
 go_wp2
 go_ret2
 exact⟨rfl,rfl⟩
theorem GK(gb:Nat)(pw:Option Addr)(lw cw:Nat)(ph:Option Addr)(lh ch:Nat)(pf:Option Addr)(lf cf:Nat)(w:World)
  (FT:Hid (Calls prog 119 #[.pointer (some ⟨gb,0,none⟩),.slice pw lw cw,.slice ph lh ch,.slice pf lf cf] w fun e w'=>e=.returned (.bool true)/\w'=w))
  (H2:Hid (Calls prog 81 #[.slice pf lf cf,.func (.func 120) #[] #[]] w fun e w'=>e=.returned (.bool true)/\w'=w)):
  Calls prog 76 #[.pointer (some ⟨gb,0,none⟩),.slice pw lw cw,.slice ph lh ch,.slice pf lf cf] w fun e w'=>e=.returned (.tuple #[.slice none 0 0,.int .i64 1])/\w'=w:=by
 go_enter func76,ntmps76
 go_wp2_with fail
 refine FT.out.mono ?_
 rintro e9 v9 ⟨rfl,hv9⟩
 have hv8:=hv9.symm
 subst hv8
 go_wp2_with fail
 refine H2.out.mono ?_
 rintro e9 v9 ⟨rfl,hv9⟩
 have hv8:=hv9.symm
 subst hv8
 go_wp2
 go_ret2
 exact⟨rfl,rfl⟩
theorem GL(gb wb wo M cw hb ho ch:Nat)(pf:Option Addr)(N cf:Nat)(W H:Nat->Int)(P:Nat->Nat->Int)(w:World)(hM:M<=65536)(hN:N<=65536)
  (FT:Hid (Calls prog 119 #[.pointer (some ⟨gb,0,none⟩),.slice (some ⟨wb,wo,none⟩) M cw,.slice (some ⟨hb,ho,none⟩) M ch,.slice pf N cf] w fun e w'=>e=.returned (.bool true)/\w'=w))
  (H2:Hid (Calls prog 81 #[.slice pf N cf,.func (.func 120) #[] #[]] w fun e w'=>e=.returned (.bool false)/\w'=w))
  (WC:Hid (∀c,c<M-> ∀v,Ab w v->v.cell? ⟨wb,wo+c,none⟩=some (.int .i64 (W c))/\v.cell? ⟨hb,ho+c,none⟩=some (.int .i64 (H c))))
  (GV:Hid (∀b c,c<M->w.heap.size<=b-> ∀v,Ab w v->v.rowIs b 2 N (fun i=>.int .i64 (P (4*c) i))->Calls prog 121 #[.pointer (some ⟨gb,0,none⟩),.int .i64 (c:Nat),.int .i64 (W c),.int .i64 (H c),.slice pf N cf,.slice (some ⟨b,0,none⟩) N N] v fun e w'=>e=.returned (.bool true)/\Ab w w'/\w'.rowIs b 2 N (fun i=>.int .i64 (P (4*(c+1)) i))))
  (P0:Hid (∀i,P 0 i=0)):
  Calls prog 76 #[.pointer (some ⟨gb,0,none⟩),.slice (some ⟨wb,wo,none⟩) M cw,.slice (some ⟨hb,ho,none⟩) M ch,.slice pf N cf] w fun e w'=> ∃v,e=.returned (.tuple #[v,.int .i64 0])/\Below w.heap.size w w'/\Own w.heap.size v ((List.range N).map (P (4*M))) w':=by
 have MK:=run_make_row' (P:=prog) 46 2 (.int .i64 0) 8 underlying46 Sh.fA rfl .i64 .i64 N (by omega) (by omega) w
 have NB:=hid hN
 have MB:=hid hM
 clear hM hN
 obtain⟨ob,hob⟩:=aB w.heap.size
 have RW:Hid ((w.alloc (.cells (madeCells #[.int .i64 0] N) 2)).rowIs ob 2 N (fun i=>.int .i64 (P (4*0) i))):=by
  have h:=World.rowIs_made w (.int .i64 0) N 2
  rw[hob]at h
  exact h.congr (fun i _=>by rw[show 4*0=0 from rfl,P0.out])
 have A0:Hid (Ab w (w.alloc (.cells (madeCells #[.int .i64 0] N) 2))):=bl1 w _
 have HO:Hid (w.heap.size<=ob):=Nat.le_of_eq hob
 generalize w.alloc (.cells (madeCells #[.int .i64 0] N) 2)=wm at*
 go_enter func76,ntmps76
 go_wp2_with fail
 refine FT.out.mono ?_
 rintro e9 v9 ⟨rfl,hv9⟩
 have hv8:=hv9.symm
 subst hv8
 go_wp2_with fail
 refine H2.out.mono ?_
 rintro e9 v9 ⟨rfl,hv9⟩
 have hv8:=hv9.symm
 subst hv8
 go_wp2
 clear MK hob FT H2 P0
 go_loopw [29] (fun iv wr=> ∃c:Nat,c<=M/\iv=.int .i64 (c:Nat)/\Ab w wr/\wr.rowIs ob 2 N (fun i=>.int .i64 (P (4*c) i))) (fun iv _=>M - (intOf iv).toNat)
 case atStart=>exact⟨0,by omega,rfl,A0.out,RW.out⟩
 case round=>
  obtain⟨c,hc,rfl,a1,r1⟩:=hrel
  have AR:=hid a1
  have RR:=hid r1
  clear a1 r1 A0 RW
  by_cases hcn:c<M
  ·have HC:=hid hcn
   have hcI:(c:Int)<M:=by omega
   have hcB:(c:Int)<=65536:=by have:=MB.out;omega
   obtain⟨x,hx⟩:=aB (W c)
   obtain⟨y,hy⟩:=aB (H c)
   have xc: ∀v,Ab wr v->v.cell? ⟨wb,wo+c,none⟩=some (.int .i64 x):=fun v a=>by rw[<- hx];exact(WC.out c hcn v (AR.out.trans a)).1
   have yc: ∀v,Ab wr v->v.cell? ⟨hb,ho+c,none⟩=some (.int .i64 y):=fun v a=>by rw[<- hy];exact(WC.out c hcn v (AR.out.trans a)).2
   have XC:=hid xc
   have YC:=hid yc
   have x0:=xc wr (Ab.refl _)
   have y0:=yc wr (Ab.refl _)
   have x1:=xc wr.drew (Ab.refl _).drew
   have y1:=yc wr.drew (Ab.refl _).drew
   have CG:Hid (∀v,Ab wr v->Calls prog 121 #[.pointer (some ⟨gb,0,none⟩),.int .i64 (c:Nat),.int .i64 x,.int .i64 y,.slice pf N cf,.slice (some ⟨ob,0,none⟩) N N] v fun e w'=>e=.returned (.bool true)/\Ab w w'/\w'.rowIs ob 2 N (fun i=>.int .i64 (P (4*(c+1)) i))):=fun v a=>by
    rw[<- hx,<- hy]
    exact GV.out ob c hcn HO.out v (AR.out.trans a) (cX RR.out a)
   clear hx hy hcn hc xc yc
   go_upto_region 9 with fail
   go_region_with (go_at_call 121;refine(CG.out _ (by first | exact Ab.refl _ | exact(Ab.refl _).drew)).mono ?_;rintro e9 v1 ⟨rfl,a1,r1⟩;have A1:=hid a1;have R1:=hid r1;clear a1 r1 CG)
   all_goals
    go_wp2
    exact⟨⟨c+1,by have:=HC.out;omega,by simp,A1.out,R1.out⟩,by simp[intOf];have:=HC.out;omega⟩
  ·have e6:M=c:=by omega
   subst e6
   go_wp2
   go_ret2
   exact⟨_,rfl,AR.out,vO RR.out HO.out (Nat.le_refl _) (by unfold maxLen;have:=NB.out;omega) (fun i _=>rfl)⟩
theorem GN(gb wb wo M cw hb ho ch:Nat)(pf:Option Addr)(N cf:Nat)(W H:Nat->Int)(G:Nat->Prop)(w:World)(hM:M<=65536)(hN:N<=65536)
  (FT:Hid (Calls prog 119 #[.pointer (some ⟨gb,0,none⟩),.slice (some ⟨wb,wo,none⟩) M cw,.slice (some ⟨hb,ho,none⟩) M ch,.slice pf N cf] w fun e w'=>e=.returned (.bool true)/\w'=w))
  (H2:Hid (Calls prog 81 #[.slice pf N cf,.func (.func 120) #[] #[]] w fun e w'=>e=.returned (.bool false)/\w'=w))
  (WC:Hid (∀c,c<M-> ∀v,Ab w v->v.cell? ⟨wb,wo+c,none⟩=some (.int .i64 (W c))/\v.cell? ⟨hb,ho+c,none⟩=some (.int .i64 (H c))))
  (GV:Hid (∀b c,c<M->w.heap.size<=b-> ∀R:Nat->Int,∀v,Ab w v->v.rowIs b 2 N (fun i=>.int .i64 (R i))->(G c->Calls prog 121 #[.pointer (some ⟨gb,0,none⟩),.int .i64 (c:Nat),.int .i64 (W c),.int .i64 (H c),.slice pf N cf,.slice (some ⟨b,0,none⟩) N N] v fun e w'=>e=.returned (.bool true)/\Ab w w'/\ ∃R':Nat->Int,w'.rowIs b 2 N (fun i=>.int .i64 (R' i)))/\(¬G c->Calls prog 121 #[.pointer (some ⟨gb,0,none⟩),.int .i64 (c:Nat),.int .i64 (W c),.int .i64 (H c),.slice pf N cf,.slice (some ⟨b,0,none⟩) N N] v fun e w'=>e=.returned (.bool false)/\Ab w w')))
  (HB:Hid (¬ ∀c,c<M->G c)):
  Calls prog 76 #[.pointer (some ⟨gb,0,none⟩),.slice (some ⟨wb,wo,none⟩) M cw,.slice (some ⟨hb,ho,none⟩) M ch,.slice pf N cf] w fun e w'=>e=.returned (.tuple #[.slice none 0 0,.int .i64 1])/\Below w.heap.size w w':=by
 have MK:=run_make_row' (P:=prog) 46 2 (.int .i64 0) 8 underlying46 Sh.fA rfl .i64 .i64 N (by omega) (by omega) w
 have NB:=hid hN
 have MB:=hid hM
 clear hM hN
 obtain⟨ob,hob⟩:=aB w.heap.size
 have RW:Hid ((w.alloc (.cells (madeCells #[.int .i64 0] N) 2)).rowIs ob 2 N (fun _=>.int .i64 0)):=by
  have h:=World.rowIs_made w (.int .i64 0) N 2
  rw[hob]at h
  exact h.congr (fun i _=>rfl)
 have A0:Hid (Ab w (w.alloc (.cells (madeCells #[.int .i64 0] N) 2))):=bl1 w _
 have HO:Hid (w.heap.size<=ob):=Nat.le_of_eq hob
 generalize w.alloc (.cells (madeCells #[.int .i64 0] N) 2)=wm at*
 go_enter func76,ntmps76
 go_wp2_with fail
 refine FT.out.mono ?_
 rintro e9 v9 ⟨rfl,hv9⟩
 have hv8:=hv9.symm
 subst hv8
 go_wp2_with fail
 refine H2.out.mono ?_
 rintro e9 v9 ⟨rfl,hv9⟩
 have hv8:=hv9.symm
 subst hv8
 go_wp2
 clear MK hob FT H2
 go_loopw [29] (fun iv wr=> ∃c:Nat,c<=M/\iv=.int .i64 (c:Nat)/\Ab w wr/\(∀j,j<c->G j)/\ ∃R:Nat->Int,wr.rowIs ob 2 N (fun i=>.int .i64 (R i))) (fun iv _=>M - (intOf iv).toNat)
 case atStart=>exact⟨0,by omega,rfl,A0.out,fun j hj=>absurd hj (Nat.not_lt_zero j),fun _=>0,RW.out⟩
 case round=>
  obtain⟨c,hc,rfl,a1,g1,R,r1⟩:=hrel
  have AR:=hid a1
  have RR:=hid r1
  have GG:=hid g1
  clear a1 r1 g1 A0 RW
  by_cases hcn:c<M
  ·have HC:=hid hcn
   have hcI:(c:Int)<M:=by omega
   have hcB:(c:Int)<=65536:=by have:=MB.out;omega
   obtain⟨x,hx⟩:=aB (W c)
   obtain⟨y,hy⟩:=aB (H c)
   have xc: ∀v,Ab wr v->v.cell? ⟨wb,wo+c,none⟩=some (.int .i64 x):=fun v a=>by rw[<- hx];exact(WC.out c hcn v (AR.out.trans a)).1
   have yc: ∀v,Ab wr v->v.cell? ⟨hb,ho+c,none⟩=some (.int .i64 y):=fun v a=>by rw[<- hy];exact(WC.out c hcn v (AR.out.trans a)).2
   have XC:=hid xc
   have YC:=hid yc
   have x0:=xc wr (Ab.refl _)
   have y0:=yc wr (Ab.refl _)
   have x1:=xc wr.drew (Ab.refl _).drew
   have y1:=yc wr.drew (Ab.refl _).drew
   by_cases gc:G c
   ·have GC:=hid gc
    have CG:Hid (∀v,Ab wr v->Calls prog 121 #[.pointer (some ⟨gb,0,none⟩),.int .i64 (c:Nat),.int .i64 x,.int .i64 y,.slice pf N cf,.slice (some ⟨ob,0,none⟩) N N] v fun e w'=>e=.returned (.bool true)/\Ab w w'/\ ∃R':Nat->Int,w'.rowIs ob 2 N (fun i=>.int .i64 (R' i))):=fun v a=>by
     rw[<- hx,<- hy]
     exact(GV.out ob c hcn HO.out R v (AR.out.trans a) (cX RR.out a)).1 gc
    clear hx hy hcn hc xc yc gc
    go_upto_region 9 with fail
    go_region_with (go_at_call 121;refine(CG.out _ (by first | exact Ab.refl _ | exact(Ab.refl _).drew)).mono ?_;rintro e9 v1 ⟨rfl,a1,R',r1⟩;have A1:=hid a1;have R1:=hid r1;clear a1 r1 CG)
    all_goals
     go_wp2
     exact⟨⟨c+1,by have:=HC.out;omega,by simp,A1.out,fun j hj=>(by
      by_cases l:j<c
      ·exact GG.out j l
      ·obtain rfl:j=c:=by omega
       exact GC.out),_,R1.out⟩,by simp[intOf];have:=HC.out;omega⟩
   ·have CG:Hid (∀v,Ab wr v->Calls prog 121 #[.pointer (some ⟨gb,0,none⟩),.int .i64 (c:Nat),.int .i64 x,.int .i64 y,.slice pf N cf,.slice (some ⟨ob,0,none⟩) N N] v fun e w'=>e=.returned (.bool false)/\Ab w w'):=fun v a=>by
     rw[<- hx,<- hy]
     exact(GV.out ob c hcn HO.out R v (AR.out.trans a) (cX RR.out a)).2 gc
    clear hx hy hcn hc xc yc gc
    go_upto_region 9 with fail
    go_region_with (go_at_call 121;refine(CG.out _ (by first | exact Ab.refl _ | exact(Ab.refl _).drew)).mono ?_;rintro e9 v1 ⟨rfl,a1⟩;have A1:=hid a1;clear a1 CG)
    all_goals
     go_wp2
     go_ret2
     exact⟨rfl,A1.out⟩
  ·have e6:M=c:=by omega
   subst e6
   exact absurd GG.out HB.out
theorem flP_og{n:Nat}{W H F:Nat->Int}{T e:Nat}(hn:1<=n)(hT:T<24*n*n)(he:e<12*n*n)(hH: ∀c,c<6*n*n->0<=H c/\H c<=9223372036854775807)(o: ∀c,c<6*n*n->oS n F c<=W c):
  flP n W H F (T+1) e=if e=eE n T/\0<og n F T then eS n T*tks n W H F T else flP n W H F T e:=by
 have st:=flP_step (W:=W) (H:=H) (F:=F) hn hT he hH o
 have cT:=mQ (t:=T) (hH _ (aN hT)).1 (hH _ (aN hT)).2 (o _ (aN hT))
 rw[st]
 by_cases q:e=eE n T/\0<og n F T
 ·rw[if_pos q]
  by_cases z:0<tks n W H F T
  ·rw[if_pos ⟨q.1,z⟩,Int.mul_comm]
  ·rw[if_neg (fun h=>z h.2)]
   have z0:tks n W H F T=0:=by omega
   rw[z0,Int.mul_zero]
   have o2:og n F (mt n T)=0:=(oY (F:=F) hn hT).resolve_left (by omega)
   have m0:=hQ (W:=W) (H:=H) o2
   have ed:edT n e=if isL n T=true then T else mt n T:=by rw[q.1];exact mP hn hT
   unfold flP
   by_cases l:isL n T=true
   ·rw[if_pos l]at ed
    rw[ed,m0,z0]
    simp
   ·rw[if_neg l]at ed
    rw[ed,gI hn hT,m0,z0]
    simp
 ·rw[if_neg q]
  by_cases z:0<tks n W H F T
  ·rw[if_neg (fun h=>q ⟨h.1,?_⟩)]
   have g:=vA n F T
   rcases Int.lt_or_eq_of_le g with h1 | h1
   ·exact h1
   ·have:=hQ (W:=W) (H:=H) h1.symm
    omega
  ·rw[if_neg (fun h=>z h.2)]
def putS(E:Nat->Nat)(sg g k R:Nat->Int):Nat->Nat->Int
 | 0=>R
 | s+1=>fun i=>if i=E s/\0<g s then sg s*k s else putS E sg g k R s i
theorem tJ{n c:Nat}{F:Nat->Int}(hn:1<=n/\n<=32)(hc:c<6*n*n)(hF: ∀e,e<12*n*n-> -4503599627370496<=F e/\F e<=4503599627370496):
  ∀s,s<4->eE n (4*c+s)<12*n*n/\eE n (4*c+s)<12*n*n/\eE n (4*c+s)<=65536/\(-4503599627370496<=eS n (4*c+s)*F (eE n (4*c+s))/\eS n (4*c+s)*F (eE n (4*c+s))<=4503599627370496)/\oA n F c s=(if 0<eS n (4*c+s)*F (eE n (4*c+s))then eS n (4*c+s)*F (eE n (4*c+s))else 0):=by
 intro s hs
 have nb:12*n*n<=65536:=by
  have h1:n*n<=32*32:=Nat.mul_le_mul hn.2 hn.2
  rw[Nat.mul_assoc]
  omega
 have sgn:eS n (4*c+s)=1\/eS n (4*c+s)= -1:=by unfold eS;split<;>simp
 have e:=eD hn.1 (eK hc hs)
 have f:=hF _ e
 refine⟨e,e,by omega,?_,?_⟩
 ·rcases sgn with q | q<;>rw[q]<;>omega
 ·unfold oA og
  rw[Int.mul_comm]
theorem pX{n gb fb fo cf b c:Nat}{W H F:Nat->Int}{P:Nat->Nat->Int}{w v:World}(hn:1<=n/\n<=32)(hc:c<6*n*n)(g:GridOf n gb w)(iF:IsI w (some ⟨fb,fo,none⟩) (12*n*n) F)(hW:Sh.W64 (W c))(hH:Sh.W64 (H c))(gd:pM (W c) (H c) 4 (oA n F c))(hF: ∀e,e<12*n*n-> -4503599627370496<=F e/\F e<=4503599627370496)(hb:w.heap.size<=b)(a:Ab w v)
  (r:v.rowIs b 2 (12*n*n) (fun i=>.int .i64 (P 0 i))) (st: ∀s,s<4-> ∀i,i<12*n*n->P (s+1) i=if i=eE n (4*c+s)/\0<oA n F c s then eS n (4*c+s)*tkA (H c) (W c) (oA n F c) s else P s i):
  Calls prog 121 #[.pointer (some ⟨gb,0,none⟩),.int .i64 (c:Nat),.int .i64 (W c),.int .i64 (H c),.slice (some ⟨fb,fo,none⟩) (12*n*n) cf,.slice (some ⟨b,0,none⟩) (12*n*n) (12*n*n)] v fun e w'=>e=.returned (.bool true)/\Ab w w'/\w'.rowIs b 2 (12*n*n) (fun i=>.int .i64 (P 4 i)):=by
 have ff:=tJ hn hc hF
 refine C6 gb (12*n*n) c fb fo (12*n*n) cf b (W c) (H c) (fun s=>eE n (4*c+s)) (fun s=>eS n (4*c+s)) (fun s=>F (eE n (4*c+s))) (oA n F c) (tkA (H c) (W c) (oA n F c)) P w v hb a r ?_ ?_ ?_ ?_ st
 ·intro u s hs au
  exact Au hn hc hs (g.to au)
 ·intro u s hs au
  exact((iF.below au).at0 (eD hn.1 (eK hc hs))).2.2
 ·intro s hs
  obtain⟨f1,f2,f3,f4,f5⟩:=ff s hs
  have sgn:eS n (4*c+s)=1\/eS n (4*c+s)= -1:=by unfold eS;split<;>simp
  have t:=tk_w64 gd hH hs
  have:=hH.2
  refine⟨f1,f2,f3,f4,f5,?_⟩
  show -9223372036854775807<=eS n (4*c+s)*tkA (H c) (W c) (oA n F c) s/\eS n (4*c+s)*tkA (H c) (W c) (oA n F c) s<=9223372036854775807
  rcases sgn with q | q<;>rw[q]<;>omega
 ·intro u o io
  refine((takesC (W c) (H c) (some ⟨o,0,none⟩) 4 4 _ u hW hH (by omega) io).1 gd).mono ?_
  rintro e w' ⟨v',rfl,bl,ow⟩
  obtain⟨g2,cap,G,rfl,h1,h2,-,h4,h5⟩:=Gz ow (by omega)
  exact⟨g2,cap,G,rfl,bl,h1,h2,h4,h5⟩
theorem C7{n gb fb fo cf b c:Nat}{W H F:Nat->Int}{R:Nat->Int}{w v:World}(hn:1<=n/\n<=32)(hc:c<6*n*n)(g:GridOf n gb w)(iF:IsI w (some ⟨fb,fo,none⟩) (12*n*n) F)(hW:Sh.W64 (W c))(hH:Sh.W64 (H c))(gd: ¬pM (W c) (H c) 4 (oA n F c))(hF: ∀e,e<12*n*n-> -4503599627370496<=F e/\F e<=4503599627370496)(hb:w.heap.size<=b)(a:Ab w v)
  (r:v.rowIs b 2 (12*n*n) (fun i=>.int .i64 (R i))):
  Calls prog 121 #[.pointer (some ⟨gb,0,none⟩),.int .i64 (c:Nat),.int .i64 (W c),.int .i64 (H c),.slice (some ⟨fb,fo,none⟩) (12*n*n) cf,.slice (some ⟨b,0,none⟩) (12*n*n) (12*n*n)] v fun e w'=>e=.returned (.bool false)/\Ab w w':=by
 refine(GI gb (12*n*n) c fb fo (12*n*n) cf b (W c) (H c) (fun s=>eE n (4*c+s)) (fun s=>eS n (4*c+s)) (fun s=>F (eE n (4*c+s))) (oA n F c) R w v hb a r ?_ ?_ (tJ hn hc hF) ?_).mono ?_
 ·intro u s hs au
  exact Au hn hc hs (g.to au)
 ·intro u s hs au
  exact((iF.below au).at0 (eD hn.1 (eK hc hs))).2.2
 ·intro u o io
  exact(takesC (W c) (H c) (some ⟨o,0,none⟩) 4 4 _ u hW hH (by omega) io).2 gd
 ·rintro e w' ⟨rfl,h1,-⟩
  exact⟨rfl,h1⟩
theorem flowsC:FlowsC:=by
 intro n gb pw lw cw W ph lh ch H pf lf cf F w hn g hlw hlh hlf iW iH iF
 have CE: ∀v,Ab w v->Calls prog 7 #[.pointer (some ⟨gb,0,none⟩)] v fun e w'=>e=.returned (.int .i64 (6*n*n:Nat))/\w'=v:=fun v a=>eU (g.to a)
 have ED: ∀v,Ab w v->Calls prog 8 #[.pointer (some ⟨gb,0,none⟩)] v fun e w'=>e=.returned (.int .i64 (12*n*n:Nat))/\w'=v:=fun v a=>cG (g.to a)
 have p1:0<n*n:=Nat.mul_pos (by omega) (by omega)
 have q1:0<6*n*n:=by rw[Nat.mul_assoc];omega
 have q2:0<12*n*n:=by rw[Nat.mul_assoc];omega
 have toB:(Calls prog 76 #[.pointer (some ⟨gb,0,none⟩),.slice pw lw cw,.slice ph lh ch,.slice pf lf cf] w fun e w'=>e=.returned (.tuple #[.slice none 0 0,.int .i64 1])/\w'=w)->Calls prog 76 #[.pointer (some ⟨gb,0,none⟩),.slice pw lw cw,.slice ph lh ch,.slice pf lf cf] w fun e w'=>e=.returned (.tuple #[.slice none 0 0,.int .i64 1])/\Below w.heap.size w w':=fun h=>h.mono (by
  rintro e w' ⟨rfl,rfl⟩
  exact⟨rfl,Below.refl _ _⟩)
 constructor
 ·rintro⟨rfl,rfl,rfl,hW,hH,hF,hO⟩
  obtain⟨wb,wo,rfl⟩:=iW.some0 q1
  obtain⟨hb,ho,rfl⟩:=iH.some0 q1
  obtain⟨fb,fo,rfl⟩:=iF.some0 q2
  have hH2: ∀c,c<6*n*n->0<=H c/\H c<=9223372036854775807:=fun c hc=>⟨hH c hc,(iH.at0 hc).1.2⟩
  have e:(List.range (12*n*n)).map (flF n W H F)=(List.range (12*n*n)).map (flP n W H F (4*(6*n*n))):=by
   refine List.map_congr_left (fun i hi=> ?_)
   rw[show 4*(6*n*n)=24*n*n by rw[Nat.mul_assoc,Nat.mul_assoc];omega,flP_all hn.1 (List.mem_range.1 hi)]
  rw[e]
  refine GL gb wb wo _ cw hb ho ch (some ⟨fb,fo,none⟩) _ cf W H (fun T i=>flP n W H F T i) w hlw hlf (lW gb _ _ _ _ cw _ _ ch _ _ cf true w CE ED (show _ ↔ _ by simp)) (pW _ _ cf F w hlf iF (fun i hi=> ?_)) ?_ ?_ (fun i=>flP_0 n W H F i)
  ·have h:=hF i hi
   unfold gJ
   rw[decide_eq_false (show¬F i< -4503599627370496 by omega),decide_eq_false (show¬4503599627370496<F i by omega)]
   rfl
  ·intro c hc v a
   exact⟨((iW.below a).at0 hc).2.2,((iH.below a).at0 hc).2.2⟩
  ·intro b c hc hb v a r
   refine pX (P:=fun s i=>flP n W H F (4*c+s) i) hn hc g iF (iW.at0 hc).1 (iH.at0 hc).1 ⟨hW c hc,hH c hc,oA_ok (hO c hc)⟩ hF hb a r (fun s hs i hi=> ?_)
   have h:=flP_og (W:=W) (H:=H) (F:=F) hn.1 (eK hc hs) hi hH2 hO
   unfold tks at h
   rw[(mU hs).1,(mU hs).2]at h
   exact h
 ·intro nf
  by_cases c1:lw=6*n*n/\lh=6*n*n/\lf=12*n*n
  ·by_cases c2: ∀i,i<lf->gJ (F i)=false
   ·obtain⟨rfl,rfl,rfl⟩:=c1
    obtain⟨wb,wo,rfl⟩:=iW.some0 q1
    obtain⟨hb,ho,rfl⟩:=iH.some0 q1
    obtain⟨fb,fo,rfl⟩:=iF.some0 q2
    have hF: ∀e,e<12*n*n-> -4503599627370496<=F e/\F e<=4503599627370496:=fun i hi=>by
     have k:=c2 i hi
     unfold gJ at k
     rw[Bool.or_eq_false_iff]at k
     have k1:=of_decide_eq_false k.1
     have k2:=of_decide_eq_false k.2
     omega
    refine GN gb wb wo _ cw hb ho ch (some ⟨fb,fo,none⟩) _ cf W H (fun c=>pM (W c) (H c) 4 (oA n F c)) w hlw hlf (lW gb _ _ _ _ cw _ _ ch _ _ cf true w CE ED (show _ ↔ _ by simp)) (pW _ _ cf F w hlf iF c2) ?_ ?_ ?_
    ·intro c hc v a
     exact⟨((iW.below a).at0 hc).2.2,((iH.below a).at0 hc).2.2⟩
    ·intro b c hc hb R v a r
     constructor
     ·intro gd
      refine(pX (P:=putS (fun s=>eE n (4*c+s)) (fun s=>eS n (4*c+s)) (oA n F c) (tkA (H c) (W c) (oA n F c)) R) hn hc g iF (iW.at0 hc).1 (iH.at0 hc).1 gd hF hb a r (fun s hs i hi=>rfl)).mono ?_
      rintro e w' ⟨rfl,h1,h2⟩
      exact⟨rfl,h1,_,h2⟩
     ·intro gd
      exact C7 hn hc g iF (iW.at0 hc).1 (iH.at0 hc).1 gd hF hb a r
    ·intro al
     exact nf ⟨rfl,rfl,rfl,fun c hc=>(al c hc).1,fun c hc=>(al c hc).2.1,hF,fun c hc=>(al c hc).2.2.2⟩
   ·exact toB (GK gb pw lw cw ph lh ch pf lf cf w (lW gb _ _ pw lw cw ph lh ch pf lf cf true w CE ED (show _ ↔ _ by simp[c1])) (xR pf lf cf F w hlf iF c2))
  ·exact toB (GJ gb pw lw cw ph lh ch pf lf cf w (lW gb _ _ pw lw cw ph lh ch pf lf cf false w CE ED (show _ ↔ _ by simpa using fun h h2=>not_and.1 (not_and.1 c1 h) h2)))
end Tr
end
section
open Go.RowKit Go.Deep Cu
namespace Ms
open Sh
def W64(x:Int):Prop:= -9223372036854775808<=x/\x<=9223372036854775807
def fit2(n lw lf:Nat):Prop:=lw=6*n*n/\lf=12*n*n
def can(n:Nat)(W F:Nat->Int):Prop:= ∀c,c<6*n*n->0<=mv n W F c/\mv n W F c<=9223372036854775807
def MoveC:Prop:= ∀(n gb:Nat) (pw:Option Addr) (lw cw:Nat) (W:Nat->Int) (pf:Option Addr) (lf cf:Nat) (F:Nat->Int) (w:World),(1<=n/\n<=32)->GridOf n gb w->lw<=9223372036854775807->lf<=9223372036854775807->IsI w pw lw W->IsI w pf lf F->
 (fit2 n lw lf->can n W F->Calls prog 45 #[.pointer (some ⟨gb,0,none⟩),.slice pw lw cw,.slice pf lf cf] w fun e w'=> ∃v,e=.returned (.tuple #[v,.int .i64 0])/\Below w.heap.size w w'/\Own w.heap.size v ((List.range (6*n*n)).map (mv n W F)) w')/\
 (fit2 n lw lf-> ¬can n W F->Calls prog 45 #[.pointer (some ⟨gb,0,none⟩),.slice pw lw cw,.slice pf lf cf] w fun e w'=>e=.returned (.tuple #[.slice none 0 0,.int .i64 20])/\Below w.heap.size w w')/\
 (¬fit2 n lw lf->Calls prog 45 #[.pointer (some ⟨gb,0,none⟩),.slice pw lw cw,.slice pf lf cf] w fun e w'=>e=.returned (.tuple #[.slice none 0 0,.int .i64 1])/\Below w.heap.size w w')
end Ms
end
end Go.Proofs.YtmhnilnaffjhmaaGreatDoor
