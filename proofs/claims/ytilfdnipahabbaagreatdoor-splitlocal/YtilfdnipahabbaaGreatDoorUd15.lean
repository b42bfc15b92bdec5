/-
  Some of the texts of this proof, one behind the other.
-/
import Derived.ProofKit
import Derived.OpenShut
import Derived.WalkLawsBesides
import Derived.Stop.Joined
import Derived.Carry
import Derived.Lib.SmallJoins
import Derived.Deep.SlicePairs
import Derived.Deep.Slices
import Derived.SizedLaws
import Derived.Test.YtilfdnipahabbaaGreatDoorTie
import Derived.Test.YtilfdnipahabbaaGreatDoorCards
import Derived.LaidMore
import Derived.Test.YtilfdnipahabbaaGreatDoorUd14
set_option maxRecDepth 100000
set_option maxHeartbeats 400000000
namespace Go.Proofs.YtilfdnipahabbaaGreatDoor
open _root_.Go.Proofs.Tryz
section
open Go.RowKit Tf Cu Go.Deep
attribute [local go_sem] aL aM aP aQ aR aU aV aD
namespace Spl
theorem tU(side:Int)(pc:Option Addr)(lc cc:Nat)(pe:Option Addr)(le ce:Nat)(ph:Option Addr)(lh ch:Nat)(pb:Option Addr)(lb cb:Nat)(pw:Option Addr)(lw cw:Nat)(pt:Option Addr)(lt ct:Nat)(ps:Option Addr)(ls cs:Nat)(sky st:Int)(w:World)(LV:Hid (∀v,Ab w v->Calls prog 4 #[] v fun e w'=>e=.returned (.bool true)/\Below v.heap.size v w'))
  (LN:Hid (∀v,Calls prog 5 #[.pointer none,.agg #[.slice pc lc cc,.slice pe le ce,.slice ph lh ch],.agg #[.slice pb lb cb,.slice pw lw cw,.slice pt lt ct,.slice ps ls cs,.int .i64 sky,.int .i64 st]] v fun e w'=>e=.returned (.tuple #[.agg #[.slice none 0 0,.slice none 0 0,.slice none 0 0,.slice none 0 0,.int .i64 0,.int .i64 0],.int .i64 2])/\Below v.heap.size v w'))
  (NW:Hid (∀v,Calls prog 7 #[.int .i64 side] v fun e w'=>e=.returned (.tuple #[.pointer none,.int .i64 10])/\w'=v))
  (RW:Hid (∀v,Calls prog 8 #[.int .i64 side] v fun e w'=>e=.returned (.tuple #[.pointer none,.int .i64 10])/\w'=v)):
  Calls prog 3 #[.int .i64 side,.slice pc lc cc,.slice pe le ce,.slice ph lh ch,.agg #[.slice pb lb cb,.slice pw lw cw,.slice pt lt ct,.slice ps ls cs,.int .i64 sky,.int .i64 st]] w fun e w'=>e=.returned (.bool true)/\Below w.heap.size w w':=by
 obtain⟨A0,S0⟩:=cD w (.cells #[.slice pb lb cb,.slice pw lw cw,.slice pt lt ct,.slice ps ls cs,.int .i64 sky,.int .i64 st] 26)
 go_enter func3,ntmps3
 go_upto_region 1 with fail
 obtain⟨gs,hgs⟩:=aB w.heap.size
 generalize hW:World.alloc w _=W at*
 rw[hgs]at S0 ⊢
 clear hgs hW
 go_wp2_with fail
 refine(LV.out _ A0.out).mono ?_
 rintro e9 v1 ⟨rfl,k1⟩
 have A1:Hid (Ab w v1):=A0.out.call k1
 have S1:=hid (Ab.heap k1 S0.out)
 clear k1 A0 S0 LV
 obtain⟨A2,P2⟩:=cD v1 (.cells #[.slice pc lc cc,.slice pe le ce,.slice ph lh ch] 29)
 go_upto_region 4 with fail
 generalize hW:World.alloc v1 _=v2 at*
 obtain⟨gp,hg⟩:=aB v1.heap.size
 rw[hg]at P2 ⊢
 clear hg hW
 have B2:Hid (Ab w v2):=A1.out.trans A2.out
 have S2:=hid (Ab.heap A2.out S1.out)
 clear A1 A2 S1
 have p0:=aA 0 (P2.out)
 have p1:=aA 1 (P2.out)
 have p2:=aA 2 (P2.out)
 have s0:=aE (S2.out)
 go_wp2_with fail
 refine(LN.out v2).mono ?_
 rintro e9 v3 ⟨rfl,k3⟩
 have A4:Hid (Ab v2 (v3.alloc (.cells #[.slice none 0 0,.slice none 0 0,.slice none 0 0,.slice none 0 0,.int .i64 0,.int .i64 0] 26))):=Ab.alloc (show Ab v2 v3 from k3) _
 have N4:=hid (heap_alloc_new v3 (.cells #[.slice none 0 0,.slice none 0 0,.slice none 0 0,.slice none 0 0,.int .i64 0,.int .i64 0] 26))
 clear k3 LN p0 p1 p2 s0
 go_upto_region 5 with fail
 generalize hW:World.alloc v3 _=v4 at*
 obtain⟨gz,hg⟩:=aB v3.heap.size
 rw[hg]at N4 ⊢
 clear hg hW
 have t0:=aE (N4.out)
 go_wp2_with fail
 refine(fH v4).mono ?_
 rintro e9 v5 ⟨rfl,k5⟩
 have A5:Hid (Ab v2 v5):=A4.out.trans k5
 have B5:Hid (Ab w v5):=B2.out.trans A5.out
 have P5:=hid (Ab.heap A5.out P2.out)
 have S5:=hid (Ab.heap A5.out S2.out)
 clear k5 A4 N4 B2 A5 P2 S2 t0
 go_wp2_with fail
 refine(NW.out v5).mono ?_
 rintro e9 v6 ⟨rfl,hw⟩
 have hw2:=hw.symm
 subst hw2
 go_wp2_with fail
 refine(RW.out v5).mono ?_
 rintro e9 v7 ⟨rfl,hw⟩
 have hw2:=hw.symm
 subst hw2
 go_wp2
 go_ret
 exact⟨rfl,B5.out⟩
theorem qW(side:Int)(n:Nat)(pc:Option Addr)(lc cc:Nat)(pe:Option Addr)(le ce:Nat)(ph:Option Addr)(lh ch:Nat)(pb:Option Addr)(lb cb:Nat)(pw:Option Addr)(lw cw:Nat)(pt:Option Addr)(lt ct:Nat)(ps:Option Addr)(ls cs:Nat)(sky st:Int)(w:World)(LV:Hid (∀v,Ab w v->Calls prog 4 #[] v fun e w'=>e=.returned (.bool true)/\Below v.heap.size v w'))
  (LN:Hid (∀v,Calls prog 5 #[.pointer none,.agg #[.slice pc lc cc,.slice pe le ce,.slice ph lh ch],.agg #[.slice pb lb cb,.slice pw lw cw,.slice pt lt ct,.slice ps ls cs,.int .i64 sky,.int .i64 st]] v fun e w'=>e=.returned (.tuple #[.agg #[.slice none 0 0,.slice none 0 0,.slice none 0 0,.slice none 0 0,.int .i64 0,.int .i64 0],.int .i64 2])/\Below v.heap.size v w'))
  (NW:Hid (∀v,Ab w v->Calls prog 7 #[.int .i64 side] v fun e w'=> ∃gb,e=.returned (.tuple #[.pointer (some ⟨gb,0,none⟩),.int .i64 0])/\Ab v w'/\GridOf n gb w'))
  (RW:Hid (∀v,Ab w v->Calls prog 8 #[.int .i64 side] v fun e w'=> ∃rb,e=.returned (.tuple #[.pointer (some ⟨rb,0,none⟩),.int .i64 0])/\Ab v w'/\RefOf n rb w'))
  (LC:Hid (∀v gb,Ab w v->GridOf n gb v->Calls prog 5 #[.pointer (some ⟨gb,0,none⟩),.agg #[.slice pc lc cc,.slice pe le ce,.slice ph lh ch],.agg #[.slice pb lb cb,.slice pw lw cw,.slice pt lt ct,.slice ps ls cs,.int .i64 sky,.int .i64 st]] v fun e w'=>e=.returned (.tuple #[.agg #[.slice none 0 0,.slice none 0 0,.slice none 0 0,.slice none 0 0,.int .i64 0,.int .i64 0],.int .i64 1])/\Below v.heap.size v w'))
  (RL:Hid (∀v rb,Ab w v->RefOf n rb v->Calls prog 9 #[.pointer (some ⟨rb,0,none⟩),.agg #[.slice pc lc cc,.slice pe le ce,.slice ph lh ch],.agg #[.slice pb lb cb,.slice pw lw cw,.slice pt lt ct,.slice ps ls cs,.int .i64 sky,.int .i64 st]] v fun e w'=>e=.returned (.tuple #[.agg #[.slice none 0 0,.slice none 0 0,.slice none 0 0,.slice none 0 0,.int .i64 0,.int .i64 0],.int .i64 1])/\Below v.heap.size v w')):
  Calls prog 3 #[.int .i64 side,.slice pc lc cc,.slice pe le ce,.slice ph lh ch,.agg #[.slice pb lb cb,.slice pw lw cw,.slice pt lt ct,.slice ps ls cs,.int .i64 sky,.int .i64 st]] w fun e w'=>e=.returned (.bool true)/\Below w.heap.size w w':=by
 obtain⟨A0,S0⟩:=cD w (.cells #[.slice pb lb cb,.slice pw lw cw,.slice pt lt ct,.slice ps ls cs,.int .i64 sky,.int .i64 st] 26)
 go_enter func3,ntmps3
 go_upto_region 1 with fail
 obtain⟨gs,hgs⟩:=aB w.heap.size
 generalize hW:World.alloc w _=W at*
 rw[hgs]at S0 ⊢
 clear hgs hW
 go_wp2_with fail
 refine(LV.out _ A0.out).mono ?_
 rintro e9 v1 ⟨rfl,k1⟩
 have A1:Hid (Ab w v1):=A0.out.call k1
 have S1:=hid (Ab.heap k1 S0.out)
 clear k1 A0 S0 LV
 obtain⟨A2,P2⟩:=cD v1 (.cells #[.slice pc lc cc,.slice pe le ce,.slice ph lh ch] 29)
 go_upto_region 4 with fail
 generalize hW:World.alloc v1 _=v2 at*
 obtain⟨gp,hg⟩:=aB v1.heap.size
 rw[hg]at P2 ⊢
 clear hg hW
 have B2:Hid (Ab w v2):=A1.out.trans A2.out
 have S2:=hid (Ab.heap A2.out S1.out)
 clear A1 A2 S1
 have p0:=aA 0 (P2.out)
 have p1:=aA 1 (P2.out)
 have p2:=aA 2 (P2.out)
 have s0:=aE (S2.out)
 go_wp2_with fail
 refine(LN.out v2).mono ?_
 rintro e9 v3 ⟨rfl,k3⟩
 have A4:Hid (Ab v2 (v3.alloc (.cells #[.slice none 0 0,.slice none 0 0,.slice none 0 0,.slice none 0 0,.int .i64 0,.int .i64 0] 26))):=Ab.alloc (show Ab v2 v3 from k3) _
 have N4:=hid (heap_alloc_new v3 (.cells #[.slice none 0 0,.slice none 0 0,.slice none 0 0,.slice none 0 0,.int .i64 0,.int .i64 0] 26))
 clear k3 LN p0 p1 p2 s0
 go_upto_region 5 with fail
 generalize hW:World.alloc v3 _=v4 at*
 obtain⟨gz,hg⟩:=aB v3.heap.size
 rw[hg]at N4 ⊢
 clear hg hW
 have t0:=aE (N4.out)
 go_wp2_with fail
 refine(fH v4).mono ?_
 rintro e9 v5 ⟨rfl,k5⟩
 have A5:Hid (Ab v2 v5):=A4.out.trans k5
 have B5:Hid (Ab w v5):=B2.out.trans A5.out
 have P5:=hid (Ab.heap A5.out P2.out)
 have S5:=hid (Ab.heap A5.out S2.out)
 clear k5 A4 N4 B2 A5 P2 S2 t0
 go_wp2_with fail
 refine(NW.out v5 B5.out).mono ?_
 rintro e9 v6 ⟨gb,rfl,k6,g6⟩
 have B6:Hid (Ab w v6):=B5.out.trans k6
 have P6:=hid (Ab.heap k6 P5.out)
 have S6:=hid (Ab.heap k6 S5.out)
 have G6:=hid g6
 clear k6 g6 B5 P5 S5 NW
 go_wp2_with fail
 refine(RW.out v6 B6.out).mono ?_
 rintro e9 v7 ⟨rb,rfl,k7,g7⟩
 have B7:Hid (Ab w v7):=B6.out.trans k7
 have P7:=hid (Ab.heap k7 P6.out)
 have S7:=hid (Ab.heap k7 S6.out)
 have G7:=hid (G6.out.to k7)
 have R7:=hid g7
 clear k7 g7 B6 P6 S6 G6 RW
 have p0:=aA 0 (P7.out)
 have p1:=aA 1 (P7.out)
 have p2:=aA 2 (P7.out)
 have s0:=aE (S7.out)
 go_wp2_with fail
 refine(LC.out v7 gb B7.out G7.out).mono ?_
 rintro e9 v8 ⟨rfl,k8⟩
 have A9:Hid (Ab v7 (v8.alloc (.cells #[.slice none 0 0,.slice none 0 0,.slice none 0 0,.slice none 0 0,.int .i64 0,.int .i64 0] 26))):=Ab.alloc (show Ab v7 v8 from k8) _
 have N9:=hid (heap_alloc_new v8 (.cells #[.slice none 0 0,.slice none 0 0,.slice none 0 0,.slice none 0 0,.int .i64 0,.int .i64 0] 26))
 clear k8 LC p0 p1 p2 s0
 go_upto_region 12 with fail
 generalize hW:World.alloc v8 _=v9 at*
 obtain⟨ga,hg⟩:=aB v8.heap.size
 rw[hg]at N9 ⊢
 clear hg hW
 have B9:Hid (Ab w v9):=B7.out.trans A9.out
 have S9:=hid (Ab.heap A9.out S7.out)
 have R9:=hid (R7.out.to A9.out)
 have s0:=aE (S9.out)
 go_wp2_with fail
 refine(RL.out v9 rb B9.out R9.out).mono ?_
 rintro e9 v10 ⟨rfl,k10⟩
 have A11:Hid (Ab v9 (v10.alloc (.cells #[.slice none 0 0,.slice none 0 0,.slice none 0 0,.slice none 0 0,.int .i64 0,.int .i64 0] 26))):=Ab.alloc (show Ab v9 v10 from k10) _
 have M11:=hid (heap_alloc_new v10 (.cells #[.slice none 0 0,.slice none 0 0,.slice none 0 0,.slice none 0 0,.int .i64 0,.int .i64 0] 26))
 clear k10 RL s0
 go_upto_region 13 with fail
 generalize hW:World.alloc v10 _=v11 at*
 obtain⟨gq,hg⟩:=aB v10.heap.size
 rw[hg]at M11 ⊢
 clear hg hW
 have N11:=hid (Ab.heap A11.out N9.out)
 have x0:=aE (N11.out)
 have y0:=aE (M11.out)
 go_wp2_with fail
 refine(fH v11).mono ?_
 rintro e9 v12 ⟨rfl,k12⟩
 have B12:Hid (Ab w v12):=B9.out.trans (A11.out.trans k12)
 go_wp2
 go_ret
 exact⟨rfl,B12.out⟩
theorem tV(side:Int)(n N M:Nat)(pc:Option Addr)(lc cc:Nat)(pe:Option Addr)(le ce:Nat)(ph:Option Addr)(lh ch:Nat)(pb:Option Addr)(cb:Nat)(pw:Option Addr)(cw:Nat)(pt:Option Addr)(ct:Nat)(ps:Option Addr)(cs:Nat)(sky st:Int)(A:Nat->Nat)(Wk Tk:Nat->Int)(Sk:Nat->Nat)(w:World)(hN:N<=12288)(hM:M<=12288)(LV:Hid (∀v,Ab w v->Calls prog 4 #[] v fun e w'=>e=.returned (.bool true)/\Below v.heap.size v w'))
  (LN:Hid (∀v,Calls prog 5 #[.pointer none,.agg #[.slice pc lc cc,.slice pe le ce,.slice ph lh ch],.agg #[.slice pb N cb,.slice pw N cw,.slice pt N ct,.slice ps M cs,.int .i64 sky,.int .i64 st]] v fun e w'=>e=.returned (.tuple #[.agg #[.slice none 0 0,.slice none 0 0,.slice none 0 0,.slice none 0 0,.int .i64 0,.int .i64 0],.int .i64 2])/\Below v.heap.size v w'))
  (NW:Hid (∀v,Ab w v->Calls prog 7 #[.int .i64 side] v fun e w'=> ∃gb,e=.returned (.tuple #[.pointer (some ⟨gb,0,none⟩),.int .i64 0])/\Ab v w'/\GridOf n gb w'))
  (RW:Hid (∀v,Ab w v->Calls prog 8 #[.int .i64 side] v fun e w'=> ∃rb,e=.returned (.tuple #[.pointer (some ⟨rb,0,none⟩),.int .i64 0])/\Ab v w'/\RefOf n rb w'))
  (LC:Hid (∀v gb,Ab w v->GridOf n gb v->Calls prog 5 #[.pointer (some ⟨gb,0,none⟩),.agg #[.slice pc lc cc,.slice pe le ce,.slice ph lh ch],.agg #[.slice pb N cb,.slice pw N cw,.slice pt N ct,.slice ps M cs,.int .i64 sky,.int .i64 st]] v fun e w'=> ∃s,e=.returned (.tuple #[s,.int .i64 0])/\Below v.heap.size v w'/\OwnS v.heap.size s N N N M A Wk Tk Sk 0 st w'))
  (BN:Hid (Bnd N N N M A Wk Tk Sk))
  (RL:Hid (∀v rb,Ab w v->RefOf n rb v->Calls prog 9 #[.pointer (some ⟨rb,0,none⟩),.agg #[.slice pc lc cc,.slice pe le ce,.slice ph lh ch],.agg #[.slice pb N cb,.slice pw N cw,.slice pt N ct,.slice ps M cs,.int .i64 sky,.int .i64 st]] v fun e w'=> ∃b1 b2 b3 b4,e=.returned (.tuple #[.agg #[.slice (some ⟨b1,0,none⟩) N N,.slice (some ⟨b2,0,none⟩) N N,.slice (some ⟨b3,0,none⟩) N N,.slice (some ⟨b4,0,none⟩) M M,.int .i64 0,.int .i64 st],.int .i64 0])/\Below v.heap.size v w'/\w'.rowIs b1 53 N (fun i=>.float .f64 (A i))/\w'.rowIs b2 2 N (fun i=>.int .i64 (Wk i))/\w'.rowIs b3 2 N (fun i=>.int .i64 (Tk i))/\w'.rowIs b4 53 M (fun i=>.float .f64 (Sk i)))):
  Calls prog 3 #[.int .i64 side,.slice pc lc cc,.slice pe le ce,.slice ph lh ch,.agg #[.slice pb N cb,.slice pw N cw,.slice pt N ct,.slice ps M cs,.int .i64 sky,.int .i64 st]] w fun e w'=>e=.returned (.bool true)/\Below w.heap.size w w':=by
 have HN:=hid (And.intro hN hM)
 clear hN hM
 obtain⟨A0,S0⟩:=cD w (.cells #[.slice pb N cb,.slice pw N cw,.slice pt N ct,.slice ps M cs,.int .i64 sky,.int .i64 st] 26)
 go_enter func3,ntmps3
 go_upto_region 1 with fail
 obtain⟨gs,hgs⟩:=aB w.heap.size
 generalize hW:World.alloc w _=W at*
 rw[hgs]at S0 ⊢
 clear hgs hW
 go_wp2_with fail
 refine(LV.out _ A0.out).mono ?_
 rintro e9 v1 ⟨rfl,k1⟩
 have A1:Hid (Ab w v1):=A0.out.call k1
 have S1:=hid (Ab.heap k1 S0.out)
 clear k1 A0 S0 LV
 obtain⟨A2,P2⟩:=cD v1 (.cells #[.slice pc lc cc,.slice pe le ce,.slice ph lh ch] 29)
 go_upto_region 4 with fail
 generalize hW:World.alloc v1 _=v2 at*
 obtain⟨gp,hg⟩:=aB v1.heap.size
 rw[hg]at P2 ⊢
 clear hg hW
 have B2:Hid (Ab w v2):=A1.out.trans A2.out
 have S2:=hid (Ab.heap A2.out S1.out)
 clear A1 A2 S1
 have p0:=aA 0 (P2.out)
 have p1:=aA 1 (P2.out)
 have p2:=aA 2 (P2.out)
 have s0:=aE (S2.out)
 go_wp2_with fail
 refine(LN.out v2).mono ?_
 rintro e9 v3 ⟨rfl,k3⟩
 have A4:Hid (Ab v2 (v3.alloc (.cells #[.slice none 0 0,.slice none 0 0,.slice none 0 0,.slice none 0 0,.int .i64 0,.int .i64 0] 26))):=Ab.alloc (show Ab v2 v3 from k3) _
 have N4:=hid (heap_alloc_new v3 (.cells #[.slice none 0 0,.slice none 0 0,.slice none 0 0,.slice none 0 0,.int .i64 0,.int .i64 0] 26))
 clear k3 LN p0 p1 p2 s0
 go_upto_region 5 with fail
 generalize hW:World.alloc v3 _=v4 at*
 obtain⟨gz,hg⟩:=aB v3.heap.size
 rw[hg]at N4 ⊢
 clear hg hW
 have t0:=aE (N4.out)
 go_wp2_with fail
 refine(fH v4).mono ?_
 rintro e9 v5 ⟨rfl,k5⟩
 have A5:Hid (Ab v2 v5):=A4.out.trans k5
 have B5:Hid (Ab w v5):=B2.out.trans A5.out
 have P5:=hid (Ab.heap A5.out P2.out)
 have S5:=hid (Ab.heap A5.out S2.out)
 clear k5 A4 N4 B2 A5 P2 S2 t0
 go_wp2_with fail
 refine(NW.out v5 B5.out).mono ?_
 rintro e9 v6 ⟨gb,rfl,k6,g6⟩
 have B6:Hid (Ab w v6):=B5.out.trans k6
 have P6:=hid (Ab.heap k6 P5.out)
 have S6:=hid (Ab.heap k6 S5.out)
 have G6:=hid g6
 clear k6 g6 B5 P5 S5 NW
 go_wp2_with fail
 refine(RW.out v6 B6.out).mono ?_
 rintro e9 v7 ⟨rb,rfl,k7,g7⟩
 have B7:Hid (Ab w v7):=B6.out.trans k7
 have P7:=hid (Ab.heap k7 P6.out)
 have S7:=hid (Ab.heap k7 S6.out)
 have G7:=hid (G6.out.to k7)
 have R7:=hid g7
 clear k7 g7 B6 P6 S6 G6 RW
 have p0:=aA 0 (P7.out)
 have p1:=aA 1 (P7.out)
 have p2:=aA 2 (P7.out)
 have s0:=aE (S7.out)
 go_wp2_with fail
 refine(LC.out v7 gb B7.out G7.out).mono ?_
 rintro e9 v8 ⟨vv,rfl,k8,os⟩
 obtain⟨u1,d1,u2,d2,u3,d3,u4,d4,rfl,SPa⟩:=sea_nw os BN.out
 have A9:Hid (Ab v7 (v8.alloc (.cells #[.slice u1 N d1,.slice u2 N d2,.slice u3 N d3,.slice u4 M d4,.int .i64 0,.int .i64 st] 26))):=Ab.alloc (show Ab v7 v8 from k8) _
 have N9:=hid SPa
 clear k8 os SPa LC p0 p1 p2 s0
 go_upto_region 12 with fail
 generalize hW:World.alloc v8 _=v9 at*
 obtain⟨ga,hg⟩:=aB v8.heap.size
 rw[hg]at N9 ⊢
 clear hg hW
 have B9:Hid (Ab w v9):=B7.out.trans A9.out
 have S9:=hid (Ab.heap A9.out S7.out)
 have R9:=hid (R7.out.to A9.out)
 have s0:=aE (S9.out)
 go_wp2_with fail
 refine(RL.out v9 rb B9.out R9.out).mono ?_
 rintro e9 v10 ⟨b1,b2,b3,b4,rfl,k10,r1,r2,r3,r4⟩
 have A11:Hid (Ab v9 (v10.alloc (.cells #[.slice (some ⟨b1,0,none⟩) N N,.slice (some ⟨b2,0,none⟩) N N,.slice (some ⟨b3,0,none⟩) N N,.slice (some ⟨b4,0,none⟩) M M,.int .i64 0,.int .i64 st] 26))):=Ab.alloc (show Ab v9 v10 from k10) _
 have M11:=hid (heap_alloc_new v10 (.cells #[.slice (some ⟨b1,0,none⟩) N N,.slice (some ⟨b2,0,none⟩) N N,.slice (some ⟨b3,0,none⟩) N N,.slice (some ⟨b4,0,none⟩) M M,.int .i64 0,.int .i64 st] 26))
 have D1:Hid (IsFl (v10.alloc (.cells #[.slice (some ⟨b1,0,none⟩) N N,.slice (some ⟨b2,0,none⟩) N N,.slice (some ⟨b3,0,none⟩) N N,.slice (some ⟨b4,0,none⟩) M M,.int .i64 0,.int .i64 st] 26)) (some ⟨b1,0,none⟩) N A):=rowIs.fl (r1.alloc _) BN.out.1
 have D2:Hid (Sh.IsI (v10.alloc (.cells #[.slice (some ⟨b1,0,none⟩) N N,.slice (some ⟨b2,0,none⟩) N N,.slice (some ⟨b3,0,none⟩) N N,.slice (some ⟨b4,0,none⟩) M M,.int .i64 0,.int .i64 st] 26)) (some ⟨b2,0,none⟩) N Wk):=Sh.mP (r2.alloc _) BN.out.2.1
 have D3:Hid (Sh.IsI (v10.alloc (.cells #[.slice (some ⟨b1,0,none⟩) N N,.slice (some ⟨b2,0,none⟩) N N,.slice (some ⟨b3,0,none⟩) N N,.slice (some ⟨b4,0,none⟩) M M,.int .i64 0,.int .i64 st] 26)) (some ⟨b3,0,none⟩) N Tk):=Sh.mP (r3.alloc _) BN.out.2.2.1
 have D4:Hid (IsFl (v10.alloc (.cells #[.slice (some ⟨b1,0,none⟩) N N,.slice (some ⟨b2,0,none⟩) N N,.slice (some ⟨b3,0,none⟩) N N,.slice (some ⟨b4,0,none⟩) M M,.int .i64 0,.int .i64 st] 26)) (some ⟨b4,0,none⟩) M Sk):=rowIs.fl (r4.alloc _) BN.out.2.2.2
 clear k10 r1 r2 r3 r4 RL s0
 go_upto_region 13 with fail
 generalize hW:World.alloc v10 _=v11 at*
 obtain⟨gq,hg⟩:=aB v10.heap.size
 rw[hg]at M11 ⊢
 clear hg hW
 have N11:=hid (N9.out.to A11.out)
 have x0:=aE (N11.out.1)
 have y0:=aE (M11.out)
 go_wp2_with fail
 refine(lK u1 N d1 A u2 N d2 Wk u3 N d3 Tk u4 M d4 Sk 0 st (some ⟨b1,0,none⟩) N (some ⟨b2,0,none⟩) N (some ⟨b3,0,none⟩) N (some ⟨b4,0,none⟩) M v11 (by have:=HN.out;omega) N11.out.2.1 N11.out.2.2.1 N11.out.2.2.2.1 N11.out.2.2.2.2 D1.out D2.out D3.out D4.out).mono ?_
 rintro e9 v12 ⟨rfl,k12⟩
 have B12:Hid (Ab w v12):=B9.out.trans (A11.out.trans k12)
 go_wp2
 go_ret
 exact⟨rfl,B12.out⟩
theorem bnd_any{w:World}{N M lb lw lt ls:Nat}{pb pw pt ps:Option Addr}{B:Nat->Nat}{Wt T:Nat->Int}{S:Nat->Nat}(q1 q2 q3 q4:Nat->Bool)(h:lb=N/\lw=N/\lt=N/\ls=M)(IB:IsFl w pb lb B)(IW:Sh.IsI w pw lw Wt)(IT:Sh.IsI w pt lt T)(IS:IsFl w ps ls S):
  Bnd N N N M (shB q1 B) (shW q2 Wt) (shW q3 T) (shB q4 S):=by
 obtain⟨rfl,rfl,rfl,rfl⟩:=h
 refine⟨fun i hi=> ?_,fun i hi=> ?_,fun i hi=> ?_,fun i hi=> ?_⟩
 ·unfold shB;split
  ·exact(IB i hi).1
  ·decide
 ·unfold shW;split
  ·exact(IW i hi).1
  ·unfold W64;decide
 ·unfold shW;split
  ·exact(IT i hi).1
  ·unfold W64;decide
 ·unfold shB;split
  ·exact(IS i hi).1
  ·decide
theorem pK(SC:SplitC)(LC:LocalC)(LN:LocalN)(side:Int)(pc:Option Addr)(lc cc:Nat)(C:Nat->Int)(pe:Option Addr)(le ce:Nat)(E:Nat->Int)(ph:Option Addr)(lh ch:Nat)(H:Nat->Int)(pb:Option Addr)(lb cb:Nat)(B:Nat->Nat)(pw:Option Addr)(lw cw:Nat)(Wt:Nat->Int)(pt:Option Addr)(lt ct:Nat)(T:Nat->Int)(ps:Option Addr)(ls cs:Nat)(S:Nat->Nat)(sky st:Int)(w:World)(hF:Fr w)(h64:W64 sky/\W64 st)(hl:lc<=281474976710656/\le<=281474976710656/\lh<=281474976710656)(hs4:lb<=281474976710656/\lw<=281474976710656/\lt<=281474976710656/\ls<=281474976710656)(IC:Sh.IsI w pc lc C)(IE:Sh.IsI w pe le E)(IH:Sh.IsI w ph lh H)(IB:IsFl w pb lb B)(IW:Sh.IsI w pw lw Wt)(IT:Sh.IsI w pt lt T)(IS:IsFl w ps ls S):
  Calls prog 3 #[.int .i64 side,.slice pc lc cc,.slice pe le ce,.slice ph lh ch,.agg #[.slice pb lb cb,.slice pw lw cw,.slice pt lt ct,.slice ps ls cs,.int .i64 sky,.int .i64 st]] w fun e w'=>e=.returned (.bool true)/\Below w.heap.size w w':=by
 have LV:=hid (fun v (a:Ab w v)=>qV SC LC v (hF.to a))
 have LNv:=hid (fun v=>LN (.agg #[.slice pc lc cc,.slice pe le ce,.slice ph lh ch]) (.agg #[.slice pb lb cb,.slice pw lw cw,.slice pt lt ct,.slice ps ls cs,.int .i64 sky,.int .i64 st]) v ⟨_,_,_,rfl⟩ ⟨_,_,_,_,_,_,rfl⟩)
 by_cases hs:1<=side/\side<=32
 ·obtain⟨n,rfl⟩: ∃n:Nat,side=(n:Nat):=⟨side.toNat,by omega⟩
  have hn:1<=n/\n<=32:=by omega
  have NW:Hid (∀v,Ab w v->Calls prog 7 #[.int .i64 (n:Nat)] v fun e w'=> ∃gb,e=.returned (.tuple #[.pointer (some ⟨gb,0,none⟩),.int .i64 0])/\Ab v w'/\GridOf n gb w'):=fun v a=>(new_at n v hn (hF.to a)).mono fun _ _ ⟨gb,h1,h2,_,h4⟩=>⟨gb,h1,h2,h4⟩
  have RW:Hid (∀v,Ab w v->Calls prog 8 #[.int .i64 (n:Nat)] v fun e w'=> ∃rb,e=.returned (.tuple #[.pointer (some ⟨rb,0,none⟩),.int .i64 0])/\Ab v w'/\RefOf n rb w'):=fun v _=>(rnew_at n v hn).mono fun _ _ ⟨rb,_,_,h1,h2,h3⟩=>⟨rb,h1,h2,RE.all hn.1 h3⟩
  have n1:=n12 hn
  have n3:12*n*n=2*(6*n*n):=by rw[<- Nat.mul_assoc,<- Nat.mul_assoc]
  by_cases hf:lG n lc le lh C E H lb lw lt ls
  ·have h4:=hf.1
   obtain⟨rfl,rfl,rfl,rfl⟩:=h4
   refine tV (n:Nat) n (6*n*n) (12*n*n) pc lc cc pe le ce ph lh ch pb cb pw cw pt ct ps cs sky st (shB (mk2 lc lh C H) B) (shW (mk2 lc lh C H) Wt) (shW (mk2 lc lh C H) T) (shB (Spl.hs le E) S) w (by omega) n1 LV LNv NW RW (hid fun v gb a g=> ?_) (hid (bnd_any _ _ _ _ ⟨rfl,rfl,rfl,rfl⟩ IB IW IT IS)) (hid fun v rb a g=> ?_)
   ·exact(LC n gb pc lc cc C pe le ce E ph lh ch H pb _ cb B pw _ cw Wt pt _ ct T ps _ cs S sky st v hn g h64 hl hs4 (IC.below a) (IE.below a) (IH.below a) (IB.below a) (IW.below a) (IT.below a) (IS.below a)).1 hf
   ·exact(iH n rb pc lc cc C pe le ce E ph lh ch H pb _ cb B pw _ cw Wt pt _ ct T ps _ cs S sky st v hn g hl (IC.below a) (IE.below a) (IH.below a) (IB.below a) (IW.below a) (IT.below a) (IS.below a)).1 hf
  ·refine qW (n:Nat) n pc lc cc pe le ce ph lh ch pb lb cb pw lw cw pt lt ct ps ls cs sky st w LV LNv NW RW (hid fun v gb a g=> ?_) (hid fun v rb a g=> ?_)
   ·exact(LC n gb pc lc cc C pe le ce E ph lh ch H pb lb cb B pw lw cw Wt pt lt ct T ps ls cs S sky st v hn g h64 hl hs4 (IC.below a) (IE.below a) (IH.below a) (IB.below a) (IW.below a) (IT.below a) (IS.below a)).2 hf
   ·exact(iH n rb pc lc cc C pe le ce E ph lh ch H pb lb cb B pw lw cw Wt pt lt ct T ps ls cs S sky st v hn g hl (IC.below a) (IE.below a) (IH.below a) (IB.below a) (IW.below a) (IT.below a) (IS.below a)).2 hf
 ·exact tU side pc lc cc pe le ce ph lh ch pb lb cb pw lw cw pt lt ct ps ls cs sky st w LV LNv (hid fun v=>new_no side v hs) (hid fun v=>rnew_no side v hs)
end Spl
end
section
open Go.ChangeShapes Go.WideShapes Go.ChangeAt Go.WideMaps Go.WideElems Go.RowKit Go.Deep
theorem array6'{c:Array Value}(h:c.size=6): ∃v0 v1 v2 v3 v4 v5,c= #[v0,v1,v2,v3,v4,v5]:=by
 rcases c with⟨l⟩
 match l,h with
 | [v0,v1,v2,v3,v4,v5],_=>exact⟨v0,v1,v2,v3,v4,v5,rfl⟩
end
section
open Go.ChangeShapes Go.WideShapes Go.ChangeAt Go.WideMaps Go.WideElems Go.RowKit Go.Deep
namespace Sh
theorem trod_int{H:Type}{enc:TypeId × Value->H}{P:Program}{w:World}{base:Nat}{spare:Nat->Bool}{held:Bool}{t:TypeId}{fuel:Nat}{v:Value}{x:DataW H × List MemPlace}(ht:P.underlying t=some (.int .i64))(h:DataW.trod enc P w base spare held fuel t [v]=some x):
  ∃b,v=.int .i64 b/\(-9223372036854775808<=b/\b<=9223372036854775807):=by
 obtain⟨k,e,_,wf⟩:=DataW.trod_int ht h
 simp at e
 simp only[Lit.wf,Bool.and_eq_true,decide_eq_true_eq]at wf
 have q1:IntKind.i64.min= -9223372036854775808:=by decide
 have q2:IntKind.i64.max=9223372036854775807:=by decide
 rw[q1,q2]at wf
 exact⟨k,e,wf⟩
theorem kF{w:World}{a:Addr}{v:Value}(h:w.cell? a=some v):a.block<w.heap.size:=by
 by_cases c:a.block<w.heap.size
 ·exact c
 ·exfalso
  have:w.heap[a.block]? =none:=by simp;omega
  simp[World.cell?,this]at h
theorem iT{α:Type}{n:Nat}{R:Nat->α->Prop}(d:α)(h: ∀i,i<n-> ∃x,R i x): ∃f:Nat->α,∀i,i<n->R i (f i):=by
 have: ∀i,∃x,i<n->R i x:=fun i=>by
  by_cases c:i<n
  ·obtain⟨x,h1⟩:=h i c
   exact⟨x,fun _=>h1⟩
  ·exact⟨d,fun h=>absurd h c⟩
 exact⟨fun i=>(this i).choose,fun i hi=>(this i).choose_spec hi⟩
theorem lM{H:Type}{enc:TypeId × Value->H}{W:World}{cs:List Value}{fuel:Nat}{x:DataW H × List MemPlace}
  (hf:DataW.trod enc prog W 0 (fun _=>true) true fuel 24 cs=some x): ∃a0 len cap xs,cs=[.slice a0 len cap]/\IsI W a0 len xs/\len<=cap/\cap<=maxLen:=by
 rcases open_slice1 underlying24 (by kernel_rfl) hf with⟨hcs,_⟩ | ⟨a,l,c,m,n,V,D,Pl,hcs,_,hl,hm,hmm,_,hx⟩
 ·exact⟨none,0,0,fun _=>0,hcs,fun k hk=>by omega,Nat.le_refl _,Nat.zero_le _⟩
 ·simp only[if_true]at hmm
  have each: ∀i,i<l-> ∃x:Int,W.cell? (a.add i)=some (.int .i64 x)/\(-9223372036854775808<=x/\x<=9223372036854775807):=by
   intro i hi
   obtain⟨h1,h2⟩:=hx i (by omega)
   obtain⟨x,e,wx⟩:=trod_int underlying2 h2
   rw[e]at h1
   exact⟨x,h1,wx⟩
  obtain⟨f,hf⟩:=iT 0 each
  refine⟨some a,l,c,f,hcs,fun k hk=>⟨(hf k hk).2,?_⟩,hl,hm⟩
  have h0:=(hf k hk).1
  have z:=(hf 0 (by omega)).1
  obtain⟨b,off,spot⟩:=a
  have hspot:spot=none:=by simpa [Addr.add]using World.cell?_spot z
  subst hspot
  rw[iU]at h0
  exact⟨b,off,rfl,kF h0,h0⟩
end Sh
end
section
open Go.ChangeShapes Go.WideShapes Go.ChangeAt Go.WideMaps Go.WideElems Go.RowKit Tf Cu Go.Deep
namespace Spl
theorem pM{H:Type}{P:Program}{ts:List TypeId}{ds:List (DataW H)}(h:(DataW.weightsEach P ts ds).all (· <=reachBytes)=true){j:Nat}{t:TypeId}{fs:Array Field}{parts:List (DataW H)}(ht:ts[j]? =some t)(hd:ds[j]? =some (.agg parts))(hu:P.underlying t=some (.struct fs)):
  (DataW.weightsEach P (fs.toList.map (·.type)) parts).all (· <=reachBytes)=true:=by
 refine List.all_eq_true.2 (fun n hn=> ?_)
 exact List.all_eq_true.1 h _ (DataW.weights_mem_each ht hd n (by simpa [DataW.weights,hu]using hn))
theorem pN:Tryz.prog.bytesOf 53=8:=by kernel_rfl
theorem pO:Tryz.prog.bytesOf 2=8:=by kernel_rfl
theorem bR{H:Type}{enc:TypeId × Value->H}{W:World}{T E:TypeId}{a0:Option Addr}{len0 cap0:Nat}{fuel:Nat}{x:DataW H × List MemPlace}(hu:Tryz.prog.underlying T=some (.slice E))(h1:Tryz.prog.cellsOf E=1)
  (hf:DataW.trod enc prog W 0 (fun _=>true) true fuel T [.slice a0 len0 cap0]=some x) (hs: ∀elems spare,x.1=.slice elems spare->(elems.length+spare.length)*8<=reachBytes):len0<=281474976710656:=by
 rcases Go.Deep.open_slice1 hu h1 hf with⟨hcs,_⟩ | ⟨a,l,c,m,n,V,D,Pl,hcs,_,hl,hm,hmm,hx,_⟩
 ·simp at hcs
  obtain⟨rfl,rfl,rfl⟩:=hcs
  exact Nat.zero_le _
 ·simp at hcs
  obtain⟨rfl,rfl,rfl⟩:=hcs
  simp only[if_true]at hmm
  subst hmm
  have:=hs _ _ (by rw[hx])
  simp only[List.length_map,List.length_range,reachBytes]at this
  omega
theorem qX{H:Type}{enc:TypeId × Value->H}{W:World}{r:Reach}{b0:Nat}{v:Value}{d:DataW H}{p:List MemPlace}(hv:Value.okWide prog W r b0 26 v)(h:DataW.Trod enc prog W 0 (fun _=>true) true 26 v d p)
  (hz: ∀parts,d=.agg parts->(DataW.weightsEach prog [23,24,24,23,2,3] parts).all (· <=reachBytes)=true):
  ∃pb lb cb B pw lw cw Wt pt lt ct Tr ps ls cs Sp sky st,v=.agg #[.slice pb lb cb,.slice pw lw cw,.slice pt lt ct,.slice ps ls cs,.int .i64 sky,.int .i64 st]/\(IsFl W pb lb B/\Sh.IsI W pw lw Wt/\Sh.IsI W pt lt Tr/\IsFl W ps ls Sp)/\(lb<=281474976710656/\lw<=281474976710656/\lt<=281474976710656/\ls<=281474976710656)/\W64 sky/\W64 st:=by
 have hC:Tryz.prog.cellsOf 26=6:=by kernel_rfl
 have k0:Tryz.prog.cellsOf 23=1:=by kernel_rfl
 have k1:Tryz.prog.cellsOf 24=1:=by kernel_rfl
 have k2:Tryz.prog.cellsOf 2=1:=by kernel_rfl
 have k3:Tryz.prog.cellsOf 3=1:=by kernel_rfl
 obtain⟨cs,rfl,hsz⟩:=okWide_struct underlying26 hv
 obtain⟨v0,v1,v2,v3,v4,v5,rfl⟩:=array6' (hsz.trans hC)
 obtain⟨fuel,hf⟩:=h
 have hf':DataW.trod enc prog W 0 (fun _=>true) true fuel 26 [v0,v1,v2,v3,v4,v5]=some (d,p):=by simpa [Value.cells]using hf
 obtain⟨xs,m,_,hx,hlen,hn,hel⟩:=DataW.trod_struct underlying26 hf'
 match xs,hn with
 | [x0,x1,x2,x3,x4,x5],_=>
  have h0:=hel 0 _ rfl
  have h1:=hel 1 _ rfl
  have h2:=hel 2 _ rfl
  have h3:=hel 3 _ rfl
  have h4:=hel 4 _ rfl
  have h5:=hel 5 _ rfl
  simp[k0,k1,k2,k3]at h0 h1 h2 h3 h4 h5
  have hzz:=hz _ (congrArg Prod.fst hx)
  obtain⟨pb,lb,cb,B,e0,i0,-,-⟩:=lF h0
  obtain⟨pw,lw,cw,Wt,e1,i1,-,-⟩:=Sh.lM h1
  obtain⟨pt,lt,ct,Tr,e2,i2,-,-⟩:=Sh.lM h2
  obtain⟨ps,ls,cs,Sp,e3,i3,-,-⟩:=lF h3
  obtain⟨sky,e4,g4⟩:=Sh.trod_int underlying2 h4
  obtain⟨st,e5,g5⟩:=Sh.trod_int underlying3 h5
  simp at e0 e1 e2 e3
  subst e0 e1 e2 e3 e4 e5
  exact⟨pb,lb,cb,B,pw,lw,cw,Wt,pt,lt,ct,Tr,ps,ls,cs,Sp,sky,st,rfl,⟨i0,i1,i2,i3⟩,⟨bR underlying23 (by kernel_rfl) h0 (fun elems spare e=>by have q:=sized_slice hzz (j:=0) (t:=23) (e:=53) (elems:=elems) (spare:=spare) rfl (by rw[<- e];rfl) underlying23;rw[pN]at q;exact q),bR underlying24 (by kernel_rfl) h1 (fun elems spare e=>by have q:=sized_slice hzz (j:=1) (t:=24) (e:=2) (elems:=elems) (spare:=spare) rfl (by rw[<- e];rfl) underlying24;rw[pO]at q;exact q),bR underlying24 (by kernel_rfl) h2 (fun elems spare e=>by have q:=sized_slice hzz (j:=2) (t:=24) (e:=2) (elems:=elems) (spare:=spare) rfl (by rw[<- e];rfl) underlying24;rw[pO]at q;exact q),bR underlying23 (by kernel_rfl) h3 (fun elems spare e=>by have q:=sized_slice hzz (j:=3) (t:=23) (e:=53) (elems:=elems) (spare:=spare) rfl (by rw[<- e];rfl) underlying23;rw[pN]at q;exact q)⟩,g4,g5⟩
theorem kG:Tryz.prog.bytesOf 3=8:=by kernel_rfl
theorem eV{H:Type}{enc:TypeId × Value->H}{W:World}{cs:List Value}{fuel:Nat}{x:DataW H × List MemPlace}
  (hf:DataW.trod enc prog W 0 (fun _=>true) true fuel 22 cs=some x): ∃a0 len cap xs,cs=[.slice a0 len cap]/\Sh.IsI W a0 len xs/\len<=cap/\cap<=maxLen:=by
 rcases open_slice1 underlying22 (by kernel_rfl) hf with⟨hcs,_⟩ | ⟨a,l,c,m,n,V,D,Pl,hcs,_,hl,hm,hmm,_,hx⟩
 ·exact⟨none,0,0,fun _=>0,hcs,fun k hk=>by omega,Nat.le_refl _,Nat.zero_le _⟩
 ·simp only[if_true]at hmm
  have each: ∀i,i<l-> ∃x:Int,W.cell? (a.add i)=some (.int .i64 x)/\(-9223372036854775808<=x/\x<=9223372036854775807):=by
   intro i hi
   obtain⟨h1,h2⟩:=hx i (by omega)
   obtain⟨x,e,wx⟩:=Sh.trod_int underlying3 h2
   rw[e]at h1
   exact⟨x,h1,wx⟩
  obtain⟨f,hf⟩:=Sh.iT 0 each
  refine⟨some a,l,c,f,hcs,fun k hk=>⟨(hf k hk).2,?_⟩,hl,hm⟩
  have h0:=(hf k hk).1
  have z:=(hf 0 (by omega)).1
  obtain⟨b,off,spot⟩:=a
  have hspot:spot=none:=by simpa [Addr.add]using World.cell?_spot z
  subst hspot
  rw[Sh.iU]at h0
  exact⟨b,off,rfl,Sh.kF h0,h0⟩
end Spl
end
section
open Go.ChangeShapes Go.WideShapes Go.ChangeAt Go.WideMaps Go.WideElems Go.RowKit Cu
theorem own:ownKnob Tryz.prog.godebug=none:=by kernel_rfl
theorem gFrames:Tryz.prog.globalNamed "tarn/cube.frames" =some 0:=by kernel_rfl
theorem tFrames:(Tryz.prog.globals[0]?).map (·.type)=some 119:=by kernel_rfl
theorem door_met(os:Os)(args:Array Value):laidMetH prog [("tarn/cube.frames",Rows.laid_tarn_cube_frames)] ((World.doorLaid prog 400 os).forCall (fun _ _=>0) ⟨#[],args,[]⟩).memory:=
 laidMetH_of_parts3 (fuel:=8) (laidMet_of_run' 8 (by kernel_rfl) (by kernel_rfl)) (by kernel_rfl) (by kernel_rfl)
theorem mW{H:Type}{enc:TypeId × Value->H}{w:World}{base fuel:Nat}{spare:Nat->Bool}{held:Bool}{cs:List Value}{x:DataW H × List MemPlace}(h:DataW.trod enc prog w base spare held fuel 111 cs=some x)
  (a b c:Int) (e:x.1=.agg [.lit (.int .i64 a),.lit (.int .i64 b),.lit (.int .i64 c)]):cs=[.int .i64 a,.int .i64 b,.int .i64 c]:=by
 have k3:Tryz.prog.cellsOf 3=1:=by kernel_rfl
 have kp:Tryz.prog.cellsOf 111=3:=by kernel_rfl
 obtain⟨xs,m,_,hx,hlen,hn,hel⟩:=DataW.trod_array underlying111 h
 rw[hx]at e
 match xs,hn,cs,hlen.trans kp with
 | [x0,x1,x2],_,[c0,c1,c2],_=>
  have h0:=hel 0 (by decide)
  have h1:=hel 1 (by decide)
  have h2:=hel 2 (by decide)
  simp[k3]at h0 h1 h2
  obtain⟨n0,e0,f0,_⟩:=DataW.trod_int underlying3 h0
  obtain⟨n1,e1,f1,_⟩:=DataW.trod_int underlying3 h1
  obtain⟨n2,e2,f2,_⟩:=DataW.trod_int underlying3 h2
  simp at e0 e1 e2
  simp[f0,f1,f2]at e
  rw[e0,e1,e2,e.1,e.2.1,e.2.2]
theorem cB{H:Type}{enc:TypeId × Value->H}{w:World}{base fuel:Nat}{spare:Nat->Bool}{held:Bool}{cs:List Value}{x:DataW H × List MemPlace}(h:DataW.trod enc prog w base spare held fuel 118 cs=some x)
  (p q r:P3) (e:x.1=.agg [.agg [.lit (.int .i64 p.1),.lit (.int .i64 p.2.1),.lit (.int .i64 p.2.2)],.agg [.lit (.int .i64 q.1),.lit (.int .i64 q.2.1),.lit (.int .i64 q.2.2)],.agg [.lit (.int .i64 r.1),.lit (.int .i64 r.2.1),.lit (.int .i64 r.2.2)]]):
  cs=[.int .i64 p.1,.int .i64 p.2.1,.int .i64 p.2.2,.int .i64 q.1,.int .i64 q.2.1,.int .i64 q.2.2,.int .i64 r.1,.int .i64 r.2.1,.int .i64 r.2.2]:=by
 have kp:Tryz.prog.cellsOf 111=3:=by kernel_rfl
 have kf:Tryz.prog.cellsOf 118=9:=by kernel_rfl
 obtain⟨xs,m,_,hx,hlen,hn,hel⟩:=DataW.trod_struct underlying118 h
 rw[hx]at e
 match xs,hn,cs,hlen.trans kf with
 | [x0,x1,x2],_,[c0,c1,c2,c3,c4,c5,c6,c7,c8],_=>
  have h0:=hel 0 _ rfl
  have h1:=hel 1 _ rfl
  have h2:=hel 2 _ rfl
  simp[kp]at h0 h1 h2
  simp at e
  have e0:=mW h0 _ _ _ e.1
  have e1:=mW h1 _ _ _ e.2.1
  have e2:=mW h2 _ _ _ e.2.2
  simp at e0 e1 e2
  simp[e0,e1,e2]
theorem qY{H:Type}{enc:TypeId × Value->H}{w:World}{base fuel:Nat}{spare:Nat->Bool}{held:Bool}{cs:List Value}{x:DataW H × List MemPlace}(h:DataW.trod enc prog w base spare held fuel 119 cs=some x)
  (e:x.1=Rows.laid_tarn_cube_frames): ∀f,f<6->(cs.drop (f*9)).take 9=[.int .i64 (cC f).1,.int .i64 (cC f).2.1,.int .i64 (cC f).2.2,.int .i64 (cR f).1,.int .i64 (cR f).2.1,.int .i64 (cR f).2.2,.int .i64 (cU f).1,.int .i64 (cU f).2.1,.int .i64 (cU f).2.2]:=by
 have kf:Tryz.prog.cellsOf 118=9:=by kernel_rfl
 obtain⟨xs,m,_,hx,hlen,hn,hel⟩:=DataW.trod_array underlying119 h
 rw[hx]at e
 intro f hf
 have h0:=hel f hf
 rw[kf]at h0
 match xs,hn with
 | [x0,x1,x2,x3,x4,x5],_=>
  simp only[List.map_cons,List.map_nil,Rows.laid_tarn_cube_frames,DataW.agg.injEq,List.cons.injEq]at e
  rcases six hf with rfl | rfl | rfl | rfl | rfl | rfl
  ·exact cB h0 (cC 0) (cR 0) (cU 0) e.1
  ·exact cB h0 (cC 1) (cR 1) (cU 1) e.2.1
  ·exact cB h0 (cC 2) (cR 2) (cU 2) e.2.2.1
  ·exact cB h0 (cC 3) (cR 3) (cU 3) e.2.2.2.1
  ·exact cB h0 (cC 4) (cR 4) (cU 4) e.2.2.2.2.1
  ·exact cB h0 (cC 5) (cR 5) (cU 5) e.2.2.2.2.2.1
theorem of_laid{W:World}(h:laidMetH prog [("tarn/cube.frames",Rows.laid_tarn_cube_frames)] W):Fr W:=by
 rw[MakeChecks.laidMetH_plain _ _ _ (by kernel_rfl)]at h
 obtain⟨ps,⟨g0,t0,cs0,f0,p0,q0,hg0,ht0,hv0,hd0,_⟩,_⟩:=h
 obtain rfl:=Option.some.inj (gFrames.symm.trans hg0)
 obtain rfl:=Option.some.inj (tFrames.symm.trans ht0)
 have T:=qY hd0 rfl
 have C:=World.var?_cell hg0 hv0
 have K: ∀f,f<6-> ∀k,k<9->W.cell? ⟨0,f*9+k,none⟩=((cs0.toList.drop (f*9)).take 9)[k]? :=by
  intro f hf k hk
  rw[C,List.getElem?_take,if_pos hk,List.getElem?_drop]
  simp
 have N: ∀f,f<6->Fr9 W f:=by
  intro f hf
  have K:=K f hf
  rw[T f hf]at K
  exact⟨⟨K 0 (by omega),K 1 (by omega),K 2 (by omega)⟩,⟨K 3 (by omega),K 4 (by omega),K 5 (by omega)⟩,⟨K 6 (by omega),K 7 (by omega),K 8 (by omega)⟩⟩
 refine⟨?_,N⟩
 have c0:=(N 0 (by omega)).1.1
 rcases Nat.lt_or_ge 0 W.heap.size with h1 | h1
 ·exact h1
 ·rw[World.cell?,Array.getElem?_eq_none h1]at c0;cases c0
end
end Go.Proofs.YtilfdnipahabbaaGreatDoor
