/-
  Some of the texts of this proof, one behind the other.
-/
import Derived.Test.YtaphajlpbgcfjaaGreatDoorRa14
set_option maxRecDepth 100000
set_option maxHeartbeats 400000000
namespace Go.Proofs.YtaphajlpbgcfjaaGreatDoor
open _root_.Go.Proofs.Tryz
section
open Go.RowKit Tf Cu Go.Deep
attribute [local go_sem] aJ aK aP aQ aR aV aX aF
namespace St
open Ss Fc
theorem Hs(sd:Int)(dt gr dr:Nat)(lim:Int)(rv:Bool)(pr:Option Addr)(lr cr:Nat)(pb:Option Addr)(lb cb:Nat)(pw:Option Addr)(lw cw:Nat)(pt:Option Addr)(lt ct:Nat)(ps:Option Addr)(ls cs:Nat)(sky st:Int)(surf:Int)(w:World)
  (LV:Hid (∀v,Ab w v->Calls prog 9 #[] v fun e w'=>e=.returned (.bool true)/\Below v.heap.size v w'))
  (GD:Hid (∀v,Ab w v->Calls prog 10 #[.agg #[.int .i64 sd,.float .f64 dt,.float .f64 gr,.float .f64 dr,.int .i64 lim,.bool false,.slice none 0 0],.agg #[.slice pb lb cb,.slice pw lw cw,.slice pt lt ct,.slice ps ls cs,.int .i64 sky,.int .i64 st]] v fun e w'=>e=.returned (.tuple #[.pointer none,.bool false])/\Below v.heap.size v w')):
  Calls prog 5 #[.agg #[.int .i64 sd,.float .f64 dt,.float .f64 gr,.float .f64 dr,.int .i64 lim,.bool rv,.slice pr lr cr],.agg #[.slice pb lb cb,.slice pw lw cw,.slice pt lt ct,.slice ps ls cs,.int .i64 sky,.int .i64 st],.int .i64 surf] w fun e w'=>e=.returned (.bool true)/\Below w.heap.size w w':=by
 obtain⟨A0,R0,Q0⟩:=bO w (.cells #[.int .i64 sd,.float .f64 dt,.float .f64 gr,.float .f64 dr,.int .i64 lim,.bool rv,.slice pr lr cr] 25) (.cells #[.slice pb lb cb,.slice pw lw cw,.slice pt lt ct,.slice ps ls cs,.int .i64 sky,.int .i64 st] 29)
 go_enter func5,ntmps5
 go_upto_region 1 with fail
 generalize hW:World.alloc (World.alloc w _) _=V0 at*
 obtain⟨ga,hga⟩:=aB w.heap.size
 obtain⟨gq,hgq⟩:=aB (w.heap.size+1)
 have HGQ:Hid (w.heap.size<=ga/\w.heap.size<=gq):=by show _/\_;omega
 rw[hgq]at Q0 ⊢
 rw[hga]at R0 ⊢
 clear hga hgq hW
 go_wp2_with fail
 refine(LV.out V0 A0.out).mono ?_
 rintro e9 v1 ⟨rfl,b1⟩
 have A1:Hid (Ab w v1):=A0.out.trans b1
 have R1:=hid (Ab.heap b1 R0.out)
 have Q1:=hid (Ab.heap b1 Q0.out)
 clear b1 A0 R0 Q0 LV
 have x0:=aG R1.out
 have f0:=aD R1.out 0
 have f1:=aD R1.out 1
 have f2:=aD R1.out 2
 have f3:=aD R1.out 3
 have f4:=aD R1.out 4
 have f5:=aD R1.out 5
 have f6:=aD R1.out 6
 go_upto_region 5 with fail
 have GN:Hid (ga≠gq):=fun e=>by
  have h1:=R1.out
  have h2:=Q1.out
  rw[e,h2]at h1
  injection h1 with h1
  injection h1 with h1 h3
  exact absurd h3 (by decide)
 have A2:Hid (Ab w ((v1.setCell ⟨ga,6,none⟩ (.slice none 0 0)).setCell ⟨ga,5,none⟩ (.bool false))):=(A1.out.setk HGQ.out.1 _).setk HGQ.out.1 _
 have R2:Hid (((v1.setCell ⟨ga,6,none⟩ (.slice none 0 0)).setCell ⟨ga,5,none⟩ (.bool false)).heap[ga]? =some (.cells #[.int .i64 sd,.float .f64 dt,.float .f64 gr,.float .f64 dr,.int .i64 lim,.bool false,.slice none 0 0] 25)):=by
  have h1:=aI (v:=.slice none 0 0) (k:=6) R1.out
  have h2:=aI (v:=.bool false) (k:=5) h1
  show _=_
  simpa using h2
 have Q2:Hid (((v1.setCell ⟨ga,6,none⟩ (.slice none 0 0)).setCell ⟨ga,5,none⟩ (.bool false)).heap[gq]? =some (.cells #[.slice pb lb cb,.slice pw lw cw,.slice pt lt ct,.slice ps ls cs,.int .i64 sky,.int .i64 st] 29)):=(aW (Ne.symm GN.out)).trans ((aW (Ne.symm GN.out)).trans Q1.out)
 clear x0 f0 f1 f2 f3 f4 f5 f6 R1 Q1 A1 GN HGQ
 generalize World.setCell _ _ _=v2 at*
 clear v1
 have x0:=aG R2.out
 have y0:=aE Q2.out
 go_wp2_with fail
 refine(GD.out v2 A2.out).mono ?_
 rintro e9 v3 ⟨rfl,b3⟩
 have A3:Hid (Ab w v3):=A2.out.trans b3
 clear b3 x0 y0
 go_wp2
 go_ret
 exact⟨rfl,A3.out⟩
theorem Ht(n N:Nat)(sd:Int)(dt gr dr:Nat)(lim:Int)(rv:Bool)(pr:Option Addr)(lr cr:Nat)(qb ob cb:Nat)(pw:Option Addr)(lw cw:Nat)(pt:Option Addr)(lt ct:Nat)(ps:Option Addr)(ls cs:Nat)(sky st:Int)(surf sm:Int)(B:Nat->Nat)(ib:Nat->Int)(fb:Nat->Nat)(fl:Nat)(k1 k2 k3 k4:Nat)(D1:Nat->Nat)(D2 D3:Nat->Int)(D4:Nat->Nat)(w:World)(hN:N<=6144)(tm:surf.tmod 1000=sm)(ft:floatOfInt .f64 sm=fl)
  (LV:Hid (∀v,Ab w v->Calls prog 9 #[] v fun e w'=>e=.returned (.bool true)/\Below v.heap.size v w'))
  (GD:Hid (∀v,Ab w v->Calls prog 10 #[.agg #[.int .i64 sd,.float .f64 dt,.float .f64 gr,.float .f64 dr,.int .i64 lim,.bool false,.slice none 0 0],.agg #[.slice (some ⟨qb,ob,none⟩) N cb,.slice pw lw cw,.slice pt lt ct,.slice ps ls cs,.int .i64 sky,.int .i64 st]] v fun e w'=> ∃gb,e=.returned (.tuple #[.pointer (some ⟨gb,0,none⟩),.bool true])/\Below v.heap.size v w'/\GridOf n gb w'))
  (RS:Hid (∀v gb,Ab w v->GridOf n gb v->Calls prog 26 #[.pointer (some ⟨gb,0,none⟩),.agg #[.slice (some ⟨qb,ob,none⟩) N cb,.slice pw lw cw,.slice pt lt ct,.slice ps ls cs,.int .i64 sky,.int .i64 st]] v fun e w'=>e=.returned (.bool true)/\Below v.heap.size v w'))
  (SY:Hid (∀v gb,Ab w v->GridOf n gb v->Calls prog 27 #[.pointer (some ⟨gb,0,none⟩),.agg #[.int .i64 sd,.float .f64 dt,.float .f64 gr,.float .f64 dr,.int .i64 lim,.bool false,.slice none 0 0],.agg #[.slice (some ⟨qb,ob,none⟩) N cb,.slice pw lw cw,.slice pt lt ct,.slice ps ls cs,.int .i64 sky,.int .i64 st]] v fun e w'=>e=.returned (.bool true)/\Below v.heap.size v w'))
  (GC:Hid (∀v gb,GridOf n gb v->Calls prog 28 #[.pointer (some ⟨gb,0,none⟩)] v fun e w'=>e=.returned (.int .i64 (N:Nat))/\Below v.heap.size v w'))
  (CV:Hid (∀c,c<N->((fgt (B c) 0||feq (B c) 0)=true/\(∀w:World,(convert 22 2 (.float .f64 (B c))).run prog w=.ok (.int .i64 (ib c)) w)/\floatOfInt .f64 (ib c)=fb c)\/((fgt (B c) 0||feq (B c) 0)=false/\fb c=0)))
  (LK:Hid (∀v p c,Ab w v->IsFl v p N fb->Calls prog 29 #[.int .i64 sd,.slice p N c,.float .f64 fl] v fun e w'=> ∃vv,e=.returned (.tuple #[vv,.int .i64 0])/\Below v.heap.size v w'/\OwnS v.heap.size vv k1 k2 k3 k4 D1 D2 D3 D4 0 0 w'))
  (BL:Hid (Bnd k1 k2 k3 k4 D1 D2 D3 D4)) (FB:Hid (∀c,c<N->fb c<18446744073709551616)) (IB:Hid (IsFl w (some ⟨qb,ob,none⟩) N B))
  (R2':Hid (∀v gb p1 c1 p2 c2 p3 c3 p4 c4,Ab w v->GridOf n gb v->IsFl v p1 k1 D1->Sh.IsI v p2 k2 D2->Sh.IsI v p3 k3 D3->IsFl v p4 k4 D4->Calls prog 26 #[.pointer (some ⟨gb,0,none⟩),.agg #[.slice p1 k1 c1,.slice p2 k2 c2,.slice p3 k3 c3,.slice p4 k4 c4,.int .i64 0,.int .i64 0]] v fun e w'=>e=.returned (.bool true)/\Below v.heap.size v w'))
  (S2':Hid (∀v gb p1 c1 p2 c2 p3 c3 p4 c4,Ab w v->GridOf n gb v->IsFl v p1 k1 D1->Sh.IsI v p2 k2 D2->Sh.IsI v p3 k3 D3->IsFl v p4 k4 D4->Calls prog 27 #[.pointer (some ⟨gb,0,none⟩),.agg #[.int .i64 sd,.float .f64 dt,.float .f64 gr,.float .f64 dr,.int .i64 lim,.bool false,.slice none 0 0],.agg #[.slice p1 k1 c1,.slice p2 k2 c2,.slice p3 k3 c3,.slice p4 k4 c4,.int .i64 0,.int .i64 0]] v fun e w'=>e=.returned (.bool true)/\Below v.heap.size v w')):
  Calls prog 5 #[.agg #[.int .i64 sd,.float .f64 dt,.float .f64 gr,.float .f64 dr,.int .i64 lim,.bool rv,.slice pr lr cr],.agg #[.slice (some ⟨qb,ob,none⟩) N cb,.slice pw lw cw,.slice pt lt ct,.slice ps ls cs,.int .i64 sky,.int .i64 st],.int .i64 surf] w fun e w'=>e=.returned (.bool true)/\Below w.heap.size w w':=by
 have M1: ∀v:World,(Instr.makeSlice 26 (.int .i64 (N:Nat)) (.int .i64 (N:Nat))).run prog v=.ok (.slice (some ⟨v.heap.size,0,none⟩) N N) (v.alloc (Obj.cells (madeCells #[.float .f64 0] N) 22)):=fun v=>run_make_row' (P:=prog) 26 22 (.float .f64 0) 8 underlying26 jV rfl .i64 .i64 N (by omega) (by omega) v
 have HN:=hid hN
 have nB:(N:Int)<=6144:=by omega
 clear hN
 obtain⟨A0,R0,Q0⟩:=bO w (.cells #[.int .i64 sd,.float .f64 dt,.float .f64 gr,.float .f64 dr,.int .i64 lim,.bool rv,.slice pr lr cr] 25) (.cells #[.slice (some ⟨qb,ob,none⟩) N cb,.slice pw lw cw,.slice pt lt ct,.slice ps ls cs,.int .i64 sky,.int .i64 st] 29)
 go_enter func5,ntmps5
 go_upto_region 1 with fail
 generalize hW:World.alloc (World.alloc w _) _=V0 at*
 obtain⟨ga,hga⟩:=aB w.heap.size
 obtain⟨gq,hgq⟩:=aB (w.heap.size+1)
 have HGQ:Hid (w.heap.size<=ga/\w.heap.size<=gq):=by show _/\_;omega
 rw[hgq]at Q0 ⊢
 rw[hga]at R0 ⊢
 clear hga hgq hW
 go_wp2_with fail
 refine(LV.out V0 A0.out).mono ?_
 rintro e9 v1 ⟨rfl,b1⟩
 have A1:Hid (Ab w v1):=A0.out.trans b1
 have R1:=hid (Ab.heap b1 R0.out)
 have Q1:=hid (Ab.heap b1 Q0.out)
 clear b1 A0 R0 Q0 LV
 have x0:=aG R1.out
 have f0:=aD R1.out 0
 have f1:=aD R1.out 1
 have f2:=aD R1.out 2
 have f3:=aD R1.out 3
 have f4:=aD R1.out 4
 have f5:=aD R1.out 5
 have f6:=aD R1.out 6
 go_upto_region 5 with fail
 have GN:Hid (ga≠gq):=fun e=>by
  have h1:=R1.out
  have h2:=Q1.out
  rw[e,h2]at h1
  injection h1 with h1
  injection h1 with h1 h3
  exact absurd h3 (by decide)
 have A2:Hid (Ab w ((v1.setCell ⟨ga,6,none⟩ (.slice none 0 0)).setCell ⟨ga,5,none⟩ (.bool false))):=(A1.out.setk HGQ.out.1 _).setk HGQ.out.1 _
 have R2:Hid (((v1.setCell ⟨ga,6,none⟩ (.slice none 0 0)).setCell ⟨ga,5,none⟩ (.bool false)).heap[ga]? =some (.cells #[.int .i64 sd,.float .f64 dt,.float .f64 gr,.float .f64 dr,.int .i64 lim,.bool false,.slice none 0 0] 25)):=by
  have h1:=aI (v:=.slice none 0 0) (k:=6) R1.out
  have h2:=aI (v:=.bool false) (k:=5) h1
  show _=_
  simpa using h2
 have Q2:Hid (((v1.setCell ⟨ga,6,none⟩ (.slice none 0 0)).setCell ⟨ga,5,none⟩ (.bool false)).heap[gq]? =some (.cells #[.slice (some ⟨qb,ob,none⟩) N cb,.slice pw lw cw,.slice pt lt ct,.slice ps ls cs,.int .i64 sky,.int .i64 st] 29)):=(aW (Ne.symm GN.out)).trans ((aW (Ne.symm GN.out)).trans Q1.out)
 clear x0 f0 f1 f2 f3 f4 f5 f6 R1 Q1 A1 GN HGQ
 generalize World.setCell _ _ _=v2 at*
 clear v1
 have x0:=aG R2.out
 have y0:=aE Q2.out
 go_wp2_with fail
 refine(GD.out v2 A2.out).mono ?_
 rintro e9 v3 ⟨gb,rfl,b3,g3⟩
 have A3:Hid (Ab w v3):=A2.out.trans b3
 have R3:=hid (Ab.heap b3 R2.out)
 have Q3:=hid (Ab.heap b3 Q2.out)
 have G3:=hid g3
 clear b3 g3 A2 R2 Q2 GD x0 y0
 have y0:=aE Q3.out
 go_wp2_with fail
 refine(RS.out v3 gb A3.out G3.out).mono ?_
 rintro e9 v4 ⟨rfl,b4⟩
 have A4:Hid (Ab w v4):=A3.out.trans b4
 have R4:=hid (Ab.heap b4 R3.out)
 have Q4:=hid (Ab.heap b4 Q3.out)
 have G4:=hid (G3.out.to b4)
 clear A3 R3 Q3 G3
 clear b4 y0 RS
 have x0:=aG R4.out
 have y0:=aE Q4.out
 go_wp2_with fail
 refine(SY.out v4 gb A4.out G4.out).mono ?_
 rintro e9 v5 ⟨rfl,b5⟩
 have A5:Hid (Ab w v5):=A4.out.trans b5
 have R5:=hid (Ab.heap b5 R4.out)
 have Q5:=hid (Ab.heap b5 Q4.out)
 have G5:=hid (G4.out.to b5)
 clear A4 R4 Q4 G4
 clear b5 x0 y0 SY
 go_wp2_with fail
 refine(GC.out v5 gb G5.out).mono ?_
 rintro e9 v6 ⟨rfl,b6⟩
 have A6:Hid (Ab w v6):=A5.out.trans b6
 have R6:=hid (Ab.heap b6 R5.out)
 have Q6:=hid (Ab.heap b6 Q5.out)
 have G6:=hid (G5.out.to b6)
 clear A5 R5 Q5 G5
 clear b6 GC
 have BA:=fJ (bl1 v6 (Obj.cells (madeCells #[.float .f64 0] N) 22))
 have N1:Hid ((v6.alloc (Obj.cells (madeCells #[.float .f64 0] N) 22)).rowIs v6.heap.size 22 N (fun _=>.float .f64 0)):=dT (heap_alloc_new _ _)
 go_upto_region 11 with fail
 generalize hW:World.alloc v6 _=v7 at*
 obtain⟨bb,hbb⟩:=aB v6.heap.size
 have BO:Hid (v6.heap.size<=bb):=by show _<=_;omega
 rw[hbb]at N1 ⊢
 clear hbb hW
 go_wp2
 go_loopw [10] (fun iv wr=> ∃k:Nat,k<=N/\iv=.int .i64 (k:Nat)/\Ab v6 wr/\wr.rowIs bb 22 N (fun i=>.float .f64 (if i<k then fb i else 0))) (fun iv _=>N - (intOf iv).toNat)
 case atStart=>exact⟨0,by omega,rfl,BA.out,N1.out.congr (fun i _=>by simp)⟩
 case round=>
  clear BA N1 v7
  obtain⟨k,hk,rfl,ar',r2⟩:=hrel
  have AW:=hid ar'
  have P2:=hid r2
  clear ar' r2
  by_cases hkn:k<N
  ·have HK:=hid hkn
   have kI:(k:Int)<N:=by omega
   have kB:(k:Int)<=6144:=by have:=HN.out;omega
   have cv:=CV.out k hkn
   obtain⟨x,hx⟩:=aB (B k)
   obtain⟨yi,hyi⟩:=aB (ib k)
   obtain⟨zf,hzf⟩:=aB (fb k)
   rw[hx,hyi,hzf]at cv
   have ZE:=hid hzf
   have xc:wr.cell? ⟨qb,ob+k,none⟩=some (.float .f64 x):=by rw[<- hx];exact((IB.out.below (A6.out.trans AW.out)).at0 hkn).2.2
   have y0:=aA 0 (AW.out.heap Q6.out)
   clear hx hyi hzf hkn hk
   rcases cv with⟨c1,c2,c3⟩ | ⟨c1,c2⟩
   ·have z1:=P2.out.cell HK.out
    have z2:=P2.out.frozen k
    go_wp2_with fail
    refine⟨⟨k+1,by have:=HK.out;omega,by simp,AW.out.setk BO.out _,(P2.out.set k _).congr (fun i _=> ?_)⟩,by have:=HK.out;simp[intOf];omega⟩
    by_cases e:i=k
    ·subst e;simp[ZE.out]
    ·have e2:(i<k+1) ↔ i<k:=by omega
     simp[e,e2]
   ·have c3:=hid c2
    clear c2
    go_wp2_with fail
    refine⟨⟨k+1,by have:=HK.out;omega,by simp,AW.out,P2.out.congr (fun i _=> ?_)⟩,by have:=HK.out;simp[intOf];omega⟩
    by_cases e:i=k
    ·subst e;simp[ZE.out,c3.out]
    ·have e2:(i<k+1) ↔ i<k:=by omega
     simp[e2]
  ·have e6:N=k:=by omega
   subst e6
   have FI:Hid (IsFl wr (some ⟨bb,0,none⟩) N fb):=rowIs.fl (P2.out.congr (fun i hi=>by simp[hi])) FB.out
   clear hkn hk P2 CV
   have A8:Hid (Ab w wr):=A6.out.trans AW.out
   have R8:=hid (Ab.heap AW.out R6.out)
   have Q8:=hid (Ab.heap AW.out Q6.out)
   have G8:=hid (G6.out.to AW.out)
   clear AW A6 R6 Q6 G6 BO
   have x0:=aG R8.out
   go_wp2_with fail
   refine(LK.out wr (some ⟨bb,0,none⟩) N A8.out FI.out).mono ?_
   rintro e9 u9 ⟨vv,rfl,b9,os⟩
   obtain⟨lp1,lc1,lp2,lc2,lp3,lc3,lp4,lc4,rfl,sn⟩:=mG os BL.out
   have BB:Hid (Ab wr (u9.alloc (.cells #[.slice lp1 k1 lc1,.slice lp2 k2 lc2,.slice lp3 k3 lc3,.slice lp4 k4 lc4,.int .i64 0,.int .i64 0] 29))):=(show Ab wr u9 from b9).trans (bl1 _ _)
   have T9:Hid (SeaP u9.heap.size lp1 lc1 lp2 lc2 lp3 lc3 lp4 lc4 k1 k2 k3 k4 D1 D2 D3 D4 0 0 (u9.alloc (.cells #[.slice lp1 k1 lc1,.slice lp2 k2 lc2,.slice lp3 k3 lc3,.slice lp4 k4 lc4,.int .i64 0,.int .i64 0] 29))):=⟨sn.1,sn.2.1⟩
   clear os sn b9 x0
   go_upto_region 17 with fail
   generalize hW:World.alloc u9 _=v9 at*
   obtain⟨gl,hg⟩:=aB u9.heap.size
   rw[hg]at T9 ⊢
   clear hg hW
   have A9:Hid (Ab w v9):=A8.out.trans BB.out
   have R9:=hid (Ab.heap BB.out R8.out)
   have G9:=hid (G8.out.to BB.out)
   clear BB A8 R8 Q8 G8 FI
   have y0:=aE T9.out.1
   go_wp2_with fail
   refine(R2'.out v9 gb lp1 lc1 lp2 lc2 lp3 lc3 lp4 lc4 A9.out G9.out T9.out.2.1 T9.out.2.2.1 T9.out.2.2.2.1 T9.out.2.2.2.2).mono ?_
   rintro e9 v10 ⟨rfl,b10⟩
   have A10:Hid (Ab w v10):=A9.out.trans b10
   have R10:=hid (Ab.heap b10 R9.out)
   have G10:=hid (G9.out.to b10)
   have T10:=hid (oK T9.out b10)
   clear b10 A9 R9 G9 T9 y0
   have x0:=aG R10.out
   have y0:=aE T10.out.1
   go_wp2_with fail
   refine(S2'.out v10 gb lp1 lc1 lp2 lc2 lp3 lc3 lp4 lc4 A10.out G10.out T10.out.2.1 T10.out.2.2.1 T10.out.2.2.2.1 T10.out.2.2.2.2).mono ?_
   rintro e9 v11 ⟨rfl,b11⟩
   have A11:Hid (Ab w v11):=A10.out.trans b11
   clear b11 x0 y0
   go_wp2
   go_ret
   exact⟨rfl,A11.out⟩
theorem Du(n N:Nat)(sd:Int)(dt gr dr:Nat)(lim:Int)(rv:Bool)(pr:Option Addr)(lr cr:Nat)(qb ob cb:Nat)(pw:Option Addr)(lw cw:Nat)(pt:Option Addr)(lt ct:Nat)(ps:Option Addr)(ls cs:Nat)(sky st:Int)(surf sm:Int)(B:Nat->Nat)(ib:Nat->Int)(fb:Nat->Nat)(fl:Nat)(k1 k2 k3 k4:Nat)(D1:Nat->Nat)(D2 D3:Nat->Int)(D4:Nat->Nat)(w:World)(hN:N<=6144)(tm:surf.tmod 1000=sm)(ft:floatOfInt .f64 sm=fl)
  (LV:Hid (∀v,Ab w v->Calls prog 9 #[] v fun e w'=>e=.returned (.bool true)/\Below v.heap.size v w'))
  (GD:Hid (∀v,Ab w v->Calls prog 10 #[.agg #[.int .i64 sd,.float .f64 dt,.float .f64 gr,.float .f64 dr,.int .i64 lim,.bool false,.slice none 0 0],.agg #[.slice (some ⟨qb,ob,none⟩) N cb,.slice pw lw cw,.slice pt lt ct,.slice ps ls cs,.int .i64 sky,.int .i64 st]] v fun e w'=> ∃gb,e=.returned (.tuple #[.pointer (some ⟨gb,0,none⟩),.bool true])/\Below v.heap.size v w'/\GridOf n gb w'))
  (RS:Hid (∀v gb,Ab w v->GridOf n gb v->Calls prog 26 #[.pointer (some ⟨gb,0,none⟩),.agg #[.slice (some ⟨qb,ob,none⟩) N cb,.slice pw lw cw,.slice pt lt ct,.slice ps ls cs,.int .i64 sky,.int .i64 st]] v fun e w'=>e=.returned (.bool true)/\Below v.heap.size v w'))
  (SY:Hid (∀v gb,Ab w v->GridOf n gb v->Calls prog 27 #[.pointer (some ⟨gb,0,none⟩),.agg #[.int .i64 sd,.float .f64 dt,.float .f64 gr,.float .f64 dr,.int .i64 lim,.bool false,.slice none 0 0],.agg #[.slice (some ⟨qb,ob,none⟩) N cb,.slice pw lw cw,.slice pt lt ct,.slice ps ls cs,.int .i64 sky,.int .i64 st]] v fun e w'=>e=.returned (.bool true)/\Below v.heap.size v w'))
  (GC:Hid (∀v gb,GridOf n gb v->Calls prog 28 #[.pointer (some ⟨gb,0,none⟩)] v fun e w'=>e=.returned (.int .i64 (N:Nat))/\Below v.heap.size v w'))
  (CV:Hid (∀c,c<N->((fgt (B c) 0||feq (B c) 0)=true/\(∀w:World,(convert 22 2 (.float .f64 (B c))).run prog w=.ok (.int .i64 (ib c)) w)/\floatOfInt .f64 (ib c)=fb c)\/((fgt (B c) 0||feq (B c) 0)=false/\fb c=0)))
  (LK:Hid (∀v p c,Ab w v->IsFl v p N fb->Calls prog 29 #[.int .i64 sd,.slice p N c,.float .f64 fl] v fun e w'=> ∃vv,e=.returned (.tuple #[vv,.int .i64 14])/\Below v.heap.size v w'/\OwnS v.heap.size vv k1 k2 k3 k4 D1 D2 D3 D4 0 0 w'))
  (BL:Hid (Bnd k1 k2 k3 k4 D1 D2 D3 D4)) (FB:Hid (∀c,c<N->fb c<18446744073709551616)) (IB:Hid (IsFl w (some ⟨qb,ob,none⟩) N B)):
  Calls prog 5 #[.agg #[.int .i64 sd,.float .f64 dt,.float .f64 gr,.float .f64 dr,.int .i64 lim,.bool rv,.slice pr lr cr],.agg #[.slice (some ⟨qb,ob,none⟩) N cb,.slice pw lw cw,.slice pt lt ct,.slice ps ls cs,.int .i64 sky,.int .i64 st],.int .i64 surf] w fun e w'=>e=.returned (.bool true)/\Below w.heap.size w w':=by
 have M1: ∀v:World,(Instr.makeSlice 26 (.int .i64 (N:Nat)) (.int .i64 (N:Nat))).run prog v=.ok (.slice (some ⟨v.heap.size,0,none⟩) N N) (v.alloc (Obj.cells (madeCells #[.float .f64 0] N) 22)):=fun v=>run_make_row' (P:=prog) 26 22 (.float .f64 0) 8 underlying26 jV rfl .i64 .i64 N (by omega) (by omega) v
 have HN:=hid hN
 have nB:(N:Int)<=6144:=by omega
 clear hN
 obtain⟨A0,R0,Q0⟩:=bO w (.cells #[.int .i64 sd,.float .f64 dt,.float .f64 gr,.float .f64 dr,.int .i64 lim,.bool rv,.slice pr lr cr] 25) (.cells #[.slice (some ⟨qb,ob,none⟩) N cb,.slice pw lw cw,.slice pt lt ct,.slice ps ls cs,.int .i64 sky,.int .i64 st] 29)
 go_enter func5,ntmps5
 go_upto_region 1 with fail
 generalize hW:World.alloc (World.alloc w _) _=V0 at*
 obtain⟨ga,hga⟩:=aB w.heap.size
 obtain⟨gq,hgq⟩:=aB (w.heap.size+1)
 have HGQ:Hid (w.heap.size<=ga/\w.heap.size<=gq):=by show _/\_;omega
 rw[hgq]at Q0 ⊢
 rw[hga]at R0 ⊢
 clear hga hgq hW
 go_wp2_with fail
 refine(LV.out V0 A0.out).mono ?_
 rintro e9 v1 ⟨rfl,b1⟩
 have A1:Hid (Ab w v1):=A0.out.trans b1
 have R1:=hid (Ab.heap b1 R0.out)
 have Q1:=hid (Ab.heap b1 Q0.out)
 clear b1 A0 R0 Q0 LV
 have x0:=aG R1.out
 have f0:=aD R1.out 0
 have f1:=aD R1.out 1
 have f2:=aD R1.out 2
 have f3:=aD R1.out 3
 have f4:=aD R1.out 4
 have f5:=aD R1.out 5
 have f6:=aD R1.out 6
 go_upto_region 5 with fail
 have GN:Hid (ga≠gq):=fun e=>by
  have h1:=R1.out
  have h2:=Q1.out
  rw[e,h2]at h1
  injection h1 with h1
  injection h1 with h1 h3
  exact absurd h3 (by decide)
 have A2:Hid (Ab w ((v1.setCell ⟨ga,6,none⟩ (.slice none 0 0)).setCell ⟨ga,5,none⟩ (.bool false))):=(A1.out.setk HGQ.out.1 _).setk HGQ.out.1 _
 have R2:Hid (((v1.setCell ⟨ga,6,none⟩ (.slice none 0 0)).setCell ⟨ga,5,none⟩ (.bool false)).heap[ga]? =some (.cells #[.int .i64 sd,.float .f64 dt,.float .f64 gr,.float .f64 dr,.int .i64 lim,.bool false,.slice none 0 0] 25)):=by
  have h1:=aI (v:=.slice none 0 0) (k:=6) R1.out
  have h2:=aI (v:=.bool false) (k:=5) h1
  show _=_
  simpa using h2
 have Q2:Hid (((v1.setCell ⟨ga,6,none⟩ (.slice none 0 0)).setCell ⟨ga,5,none⟩ (.bool false)).heap[gq]? =some (.cells #[.slice (some ⟨qb,ob,none⟩) N cb,.slice pw lw cw,.slice pt lt ct,.slice ps ls cs,.int .i64 sky,.int .i64 st] 29)):=(aW (Ne.symm GN.out)).trans ((aW (Ne.symm GN.out)).trans Q1.out)
 clear x0 f0 f1 f2 f3 f4 f5 f6 R1 Q1 A1 GN HGQ
 generalize World.setCell _ _ _=v2 at*
 clear v1
 have x0:=aG R2.out
 have y0:=aE Q2.out
 go_wp2_with fail
 refine(GD.out v2 A2.out).mono ?_
 rintro e9 v3 ⟨gb,rfl,b3,g3⟩
 have A3:Hid (Ab w v3):=A2.out.trans b3
 have R3:=hid (Ab.heap b3 R2.out)
 have Q3:=hid (Ab.heap b3 Q2.out)
 have G3:=hid g3
 clear b3 g3 A2 R2 Q2 GD x0 y0
 have y0:=aE Q3.out
 go_wp2_with fail
 refine(RS.out v3 gb A3.out G3.out).mono ?_
 rintro e9 v4 ⟨rfl,b4⟩
 have A4:Hid (Ab w v4):=A3.out.trans b4
 have R4:=hid (Ab.heap b4 R3.out)
 have Q4:=hid (Ab.heap b4 Q3.out)
 have G4:=hid (G3.out.to b4)
 clear A3 R3 Q3 G3
 clear b4 y0 RS
 have x0:=aG R4.out
 have y0:=aE Q4.out
 go_wp2_with fail
 refine(SY.out v4 gb A4.out G4.out).mono ?_
 rintro e9 v5 ⟨rfl,b5⟩
 have A5:Hid (Ab w v5):=A4.out.trans b5
 have R5:=hid (Ab.heap b5 R4.out)
 have Q5:=hid (Ab.heap b5 Q4.out)
 have G5:=hid (G4.out.to b5)
 clear A4 R4 Q4 G4
 clear b5 x0 y0 SY
 go_wp2_with fail
 refine(GC.out v5 gb G5.out).mono ?_
 rintro e9 v6 ⟨rfl,b6⟩
 have A6:Hid (Ab w v6):=A5.out.trans b6
 have R6:=hid (Ab.heap b6 R5.out)
 have Q6:=hid (Ab.heap b6 Q5.out)
 have G6:=hid (G5.out.to b6)
 clear A5 R5 Q5 G5
 clear b6 GC
 have BA:=fJ (bl1 v6 (Obj.cells (madeCells #[.float .f64 0] N) 22))
 have N1:Hid ((v6.alloc (Obj.cells (madeCells #[.float .f64 0] N) 22)).rowIs v6.heap.size 22 N (fun _=>.float .f64 0)):=dT (heap_alloc_new _ _)
 go_upto_region 11 with fail
 generalize hW:World.alloc v6 _=v7 at*
 obtain⟨bb,hbb⟩:=aB v6.heap.size
 have BO:Hid (v6.heap.size<=bb):=by show _<=_;omega
 rw[hbb]at N1 ⊢
 clear hbb hW
 go_wp2
 go_loopw [10] (fun iv wr=> ∃k:Nat,k<=N/\iv=.int .i64 (k:Nat)/\Ab v6 wr/\wr.rowIs bb 22 N (fun i=>.float .f64 (if i<k then fb i else 0))) (fun iv _=>N - (intOf iv).toNat)
 case atStart=>exact⟨0,by omega,rfl,BA.out,N1.out.congr (fun i _=>by simp)⟩
 case round=>
  clear BA N1 v7
  obtain⟨k,hk,rfl,ar',r2⟩:=hrel
  have AW:=hid ar'
  have P2:=hid r2
  clear ar' r2
  by_cases hkn:k<N
  ·have HK:=hid hkn
   have kI:(k:Int)<N:=by omega
   have kB:(k:Int)<=6144:=by have:=HN.out;omega
   have cv:=CV.out k hkn
   obtain⟨x,hx⟩:=aB (B k)
   obtain⟨yi,hyi⟩:=aB (ib k)
   obtain⟨zf,hzf⟩:=aB (fb k)
   rw[hx,hyi,hzf]at cv
   have ZE:=hid hzf
   have xc:wr.cell? ⟨qb,ob+k,none⟩=some (.float .f64 x):=by rw[<- hx];exact((IB.out.below (A6.out.trans AW.out)).at0 hkn).2.2
   have y0:=aA 0 (AW.out.heap Q6.out)
   clear hx hyi hzf hkn hk
   rcases cv with⟨c1,c2,c3⟩ | ⟨c1,c2⟩
   ·have z1:=P2.out.cell HK.out
    have z2:=P2.out.frozen k
    go_wp2_with fail
    refine⟨⟨k+1,by have:=HK.out;omega,by simp,AW.out.setk BO.out _,(P2.out.set k _).congr (fun i _=> ?_)⟩,by have:=HK.out;simp[intOf];omega⟩
    by_cases e:i=k
    ·subst e;simp[ZE.out]
    ·have e2:(i<k+1) ↔ i<k:=by omega
     simp[e,e2]
   ·have c3:=hid c2
    clear c2
    go_wp2_with fail
    refine⟨⟨k+1,by have:=HK.out;omega,by simp,AW.out,P2.out.congr (fun i _=> ?_)⟩,by have:=HK.out;simp[intOf];omega⟩
    by_cases e:i=k
    ·subst e;simp[ZE.out,c3.out]
    ·have e2:(i<k+1) ↔ i<k:=by omega
     simp[e2]
  ·have e6:N=k:=by omega
   subst e6
   have FI:Hid (IsFl wr (some ⟨bb,0,none⟩) N fb):=rowIs.fl (P2.out.congr (fun i hi=>by simp[hi])) FB.out
   clear hkn hk P2 CV
   have A8:Hid (Ab w wr):=A6.out.trans AW.out
   have R8:=hid (Ab.heap AW.out R6.out)
   have Q8:=hid (Ab.heap AW.out Q6.out)
   have G8:=hid (G6.out.to AW.out)
   clear AW A6 R6 Q6 G6 BO
   have x0:=aG R8.out
   go_wp2_with fail
   refine(LK.out wr (some ⟨bb,0,none⟩) N A8.out FI.out).mono ?_
   rintro e9 u9 ⟨vv,rfl,b9,os⟩
   obtain⟨lp1,lc1,lp2,lc2,lp3,lc3,lp4,lc4,rfl,sn⟩:=mG os BL.out
   have BB:Hid (Ab wr (u9.alloc (.cells #[.slice lp1 k1 lc1,.slice lp2 k2 lc2,.slice lp3 k3 lc3,.slice lp4 k4 lc4,.int .i64 0,.int .i64 0] 29))):=(show Ab wr u9 from b9).trans (bl1 _ _)
   have T9:Hid (SeaP u9.heap.size lp1 lc1 lp2 lc2 lp3 lc3 lp4 lc4 k1 k2 k3 k4 D1 D2 D3 D4 0 0 (u9.alloc (.cells #[.slice lp1 k1 lc1,.slice lp2 k2 lc2,.slice lp3 k3 lc3,.slice lp4 k4 lc4,.int .i64 0,.int .i64 0] 29))):=⟨sn.1,sn.2.1⟩
   clear os sn b9 x0
   go_upto_region 17 with fail
   generalize hW:World.alloc u9 _=v9 at*
   obtain⟨gl,hg⟩:=aB u9.heap.size
   rw[hg]at T9 ⊢
   clear hg hW
   have A9:Hid (Ab w v9):=A8.out.trans BB.out
   have R9:=hid (Ab.heap BB.out R8.out)
   have G9:=hid (G8.out.to BB.out)
   clear BB A8 R8 Q8 G8 FI
   go_wp2
   go_ret
   exact⟨rfl,A9.out⟩
theorem Hu(n N:Nat)(sd:Int)(dt gr dr:Nat)(lim:Int)(rv:Bool)(pr:Option Addr)(lr cr:Nat)(qb ob cb:Nat)(pw:Option Addr)(lw cw:Nat)(pt:Option Addr)(lt ct:Nat)(ps:Option Addr)(ls cs:Nat)(sky st:Int)(surf sm:Int)(B:Nat->Nat)(ib:Nat->Int)(fb:Nat->Nat)(fl:Nat)(k1 k2 k3 k4:Nat)(D1:Nat->Nat)(D2 D3:Nat->Int)(D4:Nat->Nat)(w:World)(hN:N<=6144)(tm:surf.tmod 1000=sm)(ft:floatOfInt .f64 sm=fl)
  (LV:Hid (∀v,Ab w v->Calls prog 9 #[] v fun e w'=>e=.returned (.bool true)/\Below v.heap.size v w'))
  (GD:Hid (∀v,Ab w v->Calls prog 10 #[.agg #[.int .i64 sd,.float .f64 dt,.float .f64 gr,.float .f64 dr,.int .i64 lim,.bool false,.slice none 0 0],.agg #[.slice (some ⟨qb,ob,none⟩) N cb,.slice pw lw cw,.slice pt lt ct,.slice ps ls cs,.int .i64 sky,.int .i64 st]] v fun e w'=> ∃gb,e=.returned (.tuple #[.pointer (some ⟨gb,0,none⟩),.bool true])/\Below v.heap.size v w'/\GridOf n gb w'))
  (RS:Hid (∀v gb,Ab w v->GridOf n gb v->Calls prog 26 #[.pointer (some ⟨gb,0,none⟩),.agg #[.slice (some ⟨qb,ob,none⟩) N cb,.slice pw lw cw,.slice pt lt ct,.slice ps ls cs,.int .i64 sky,.int .i64 st]] v fun e w'=>e=.returned (.bool false)/\Below v.heap.size v w'))
  (GC:Hid (∀v gb,GridOf n gb v->Calls prog 28 #[.pointer (some ⟨gb,0,none⟩)] v fun e w'=>e=.returned (.int .i64 (N:Nat))/\Below v.heap.size v w'))
  (CV:Hid (∀c,c<N->((fgt (B c) 0||feq (B c) 0)=true/\(∀w:World,(convert 22 2 (.float .f64 (B c))).run prog w=.ok (.int .i64 (ib c)) w)/\floatOfInt .f64 (ib c)=fb c)\/((fgt (B c) 0||feq (B c) 0)=false/\fb c=0)))
  (LK:Hid (∀v p c,Ab w v->IsFl v p N fb->Calls prog 29 #[.int .i64 sd,.slice p N c,.float .f64 fl] v fun e w'=> ∃vv,e=.returned (.tuple #[vv,.int .i64 0])/\Below v.heap.size v w'/\OwnS v.heap.size vv k1 k2 k3 k4 D1 D2 D3 D4 0 0 w'))
  (BL:Hid (Bnd k1 k2 k3 k4 D1 D2 D3 D4)) (FB:Hid (∀c,c<N->fb c<18446744073709551616)) (IB:Hid (IsFl w (some ⟨qb,ob,none⟩) N B))
  (R2':Hid (∀v gb p1 c1 p2 c2 p3 c3 p4 c4,Ab w v->GridOf n gb v->IsFl v p1 k1 D1->Sh.IsI v p2 k2 D2->Sh.IsI v p3 k3 D3->IsFl v p4 k4 D4->Calls prog 26 #[.pointer (some ⟨gb,0,none⟩),.agg #[.slice p1 k1 c1,.slice p2 k2 c2,.slice p3 k3 c3,.slice p4 k4 c4,.int .i64 0,.int .i64 0]] v fun e w'=>e=.returned (.bool true)/\Below v.heap.size v w'))
  (S2':Hid (∀v gb p1 c1 p2 c2 p3 c3 p4 c4,Ab w v->GridOf n gb v->IsFl v p1 k1 D1->Sh.IsI v p2 k2 D2->Sh.IsI v p3 k3 D3->IsFl v p4 k4 D4->Calls prog 27 #[.pointer (some ⟨gb,0,none⟩),.agg #[.int .i64 sd,.float .f64 dt,.float .f64 gr,.float .f64 dr,.int .i64 lim,.bool false,.slice none 0 0],.agg #[.slice p1 k1 c1,.slice p2 k2 c2,.slice p3 k3 c3,.slice p4 k4 c4,.int .i64 0,.int .i64 0]] v fun e w'=>e=.returned (.bool true)/\Below v.heap.size v w')):
  Calls prog 5 #[.agg #[.int .i64 sd,.float .f64 dt,.float .f64 gr,.float .f64 dr,.int .i64 lim,.bool rv,.slice pr lr cr],.agg #[.slice (some ⟨qb,ob,none⟩) N cb,.slice pw lw cw,.slice pt lt ct,.slice ps ls cs,.int .i64 sky,.int .i64 st],.int .i64 surf] w fun e w'=>e=.returned (.bool true)/\Below w.heap.size w w':=by
 have M1: ∀v:World,(Instr.makeSlice 26 (.int .i64 (N:Nat)) (.int .i64 (N:Nat))).run prog v=.ok (.slice (some ⟨v.heap.size,0,none⟩) N N) (v.alloc (Obj.cells (madeCells #[.float .f64 0] N) 22)):=fun v=>run_make_row' (P:=prog) 26 22 (.float .f64 0) 8 underlying26 jV rfl .i64 .i64 N (by omega) (by omega) v
 have HN:=hid hN
 have nB:(N:Int)<=6144:=by omega
 clear hN
 obtain⟨A0,R0,Q0⟩:=bO w (.cells #[.int .i64 sd,.float .f64 dt,.float .f64 gr,.float .f64 dr,.int .i64 lim,.bool rv,.slice pr lr cr] 25) (.cells #[.slice (some ⟨qb,ob,none⟩) N cb,.slice pw lw cw,.slice pt lt ct,.slice ps ls cs,.int .i64 sky,.int .i64 st] 29)
 go_enter func5,ntmps5
 go_upto_region 1 with fail
 generalize hW:World.alloc (World.alloc w _) _=V0 at*
 obtain⟨ga,hga⟩:=aB w.heap.size
 obtain⟨gq,hgq⟩:=aB (w.heap.size+1)
 have HGQ:Hid (w.heap.size<=ga/\w.heap.size<=gq):=by show _/\_;omega
 rw[hgq]at Q0 ⊢
 rw[hga]at R0 ⊢
 clear hga hgq hW
 go_wp2_with fail
 refine(LV.out V0 A0.out).mono ?_
 rintro e9 v1 ⟨rfl,b1⟩
 have A1:Hid (Ab w v1):=A0.out.trans b1
 have R1:=hid (Ab.heap b1 R0.out)
 have Q1:=hid (Ab.heap b1 Q0.out)
 clear b1 A0 R0 Q0 LV
 have x0:=aG R1.out
 have f0:=aD R1.out 0
 have f1:=aD R1.out 1
 have f2:=aD R1.out 2
 have f3:=aD R1.out 3
 have f4:=aD R1.out 4
 have f5:=aD R1.out 5
 have f6:=aD R1.out 6
 go_upto_region 5 with fail
 have GN:Hid (ga≠gq):=fun e=>by
  have h1:=R1.out
  have h2:=Q1.out
  rw[e,h2]at h1
  injection h1 with h1
  injection h1 with h1 h3
  exact absurd h3 (by decide)
 have A2:Hid (Ab w ((v1.setCell ⟨ga,6,none⟩ (.slice none 0 0)).setCell ⟨ga,5,none⟩ (.bool false))):=(A1.out.setk HGQ.out.1 _).setk HGQ.out.1 _
 have R2:Hid (((v1.setCell ⟨ga,6,none⟩ (.slice none 0 0)).setCell ⟨ga,5,none⟩ (.bool false)).heap[ga]? =some (.cells #[.int .i64 sd,.float .f64 dt,.float .f64 gr,.float .f64 dr,.int .i64 lim,.bool false,.slice none 0 0] 25)):=by
  have h1:=aI (v:=.slice none 0 0) (k:=6) R1.out
  have h2:=aI (v:=.bool false) (k:=5) h1
  show _=_
  simpa using h2
 have Q2:Hid (((v1.setCell ⟨ga,6,none⟩ (.slice none 0 0)).setCell ⟨ga,5,none⟩ (.bool false)).heap[gq]? =some (.cells #[.slice (some ⟨qb,ob,none⟩) N cb,.slice pw lw cw,.slice pt lt ct,.slice ps ls cs,.int .i64 sky,.int .i64 st] 29)):=(aW (Ne.symm GN.out)).trans ((aW (Ne.symm GN.out)).trans Q1.out)
 clear x0 f0 f1 f2 f3 f4 f5 f6 R1 Q1 A1 GN HGQ
 generalize World.setCell _ _ _=v2 at*
 clear v1
 have x0:=aG R2.out
 have y0:=aE Q2.out
 go_wp2_with fail
 refine(GD.out v2 A2.out).mono ?_
 rintro e9 v3 ⟨gb,rfl,b3,g3⟩
 have A3:Hid (Ab w v3):=A2.out.trans b3
 have R3:=hid (Ab.heap b3 R2.out)
 have Q3:=hid (Ab.heap b3 Q2.out)
 have G3:=hid g3
 clear b3 g3 A2 R2 Q2 GD x0 y0
 have y0:=aE Q3.out
 go_wp2_with fail
 refine(RS.out v3 gb A3.out G3.out).mono ?_
 rintro e9 v4 ⟨rfl,b4⟩
 have A4:Hid (Ab w v4):=A3.out.trans b4
 have R4:=hid (Ab.heap b4 R3.out)
 have Q4:=hid (Ab.heap b4 Q3.out)
 have G4:=hid (G3.out.to b4)
 clear A3 R3 Q3 G3
 clear b4 y0 RS
 go_wp2_with fail
 refine(GC.out v4 gb G4.out).mono ?_
 rintro e9 v5 ⟨rfl,b5⟩
 have A5:Hid (Ab w v5):=A4.out.trans b5
 have R5:=hid (Ab.heap b5 R4.out)
 have Q5:=hid (Ab.heap b5 Q4.out)
 have G5:=hid (G4.out.to b5)
 clear A4 R4 Q4 G4
 clear b5 GC
 have BA:=fJ (bl1 v5 (Obj.cells (madeCells #[.float .f64 0] N) 22))
 have N1:Hid ((v5.alloc (Obj.cells (madeCells #[.float .f64 0] N) 22)).rowIs v5.heap.size 22 N (fun _=>.float .f64 0)):=dT (heap_alloc_new _ _)
 go_upto_region 11 with fail
 generalize hW:World.alloc v5 _=v6 at*
 obtain⟨bb,hbb⟩:=aB v5.heap.size
 have BO:Hid (v5.heap.size<=bb):=by show _<=_;omega
 rw[hbb]at N1 ⊢
 clear hbb hW
 go_wp2
 go_loopw [10] (fun iv wr=> ∃k:Nat,k<=N/\iv=.int .i64 (k:Nat)/\Ab v5 wr/\wr.rowIs bb 22 N (fun i=>.float .f64 (if i<k then fb i else 0))) (fun iv _=>N - (intOf iv).toNat)
 case atStart=>exact⟨0,by omega,rfl,BA.out,N1.out.congr (fun i _=>by simp)⟩
 case round=>
  clear BA N1 v6
  obtain⟨k,hk,rfl,ar',r2⟩:=hrel
  have AW:=hid ar'
  have P2:=hid r2
  clear ar' r2
  by_cases hkn:k<N
  ·have HK:=hid hkn
   have kI:(k:Int)<N:=by omega
   have kB:(k:Int)<=6144:=by have:=HN.out;omega
   have cv:=CV.out k hkn
   obtain⟨x,hx⟩:=aB (B k)
   obtain⟨yi,hyi⟩:=aB (ib k)
   obtain⟨zf,hzf⟩:=aB (fb k)
   rw[hx,hyi,hzf]at cv
   have ZE:=hid hzf
   have xc:wr.cell? ⟨qb,ob+k,none⟩=some (.float .f64 x):=by rw[<- hx];exact((IB.out.below (A5.out.trans AW.out)).at0 hkn).2.2
   have y0:=aA 0 (AW.out.heap Q5.out)
   clear hx hyi hzf hkn hk
   rcases cv with⟨c1,c2,c3⟩ | ⟨c1,c2⟩
   ·have z1:=P2.out.cell HK.out
    have z2:=P2.out.frozen k
    go_wp2_with fail
    refine⟨⟨k+1,by have:=HK.out;omega,by simp,AW.out.setk BO.out _,(P2.out.set k _).congr (fun i _=> ?_)⟩,by have:=HK.out;simp[intOf];omega⟩
    by_cases e:i=k
    ·subst e;simp[ZE.out]
    ·have e2:(i<k+1) ↔ i<k:=by omega
     simp[e,e2]
   ·have c3:=hid c2
    clear c2
    go_wp2_with fail
    refine⟨⟨k+1,by have:=HK.out;omega,by simp,AW.out,P2.out.congr (fun i _=> ?_)⟩,by have:=HK.out;simp[intOf];omega⟩
    by_cases e:i=k
    ·subst e;simp[ZE.out,c3.out]
    ·have e2:(i<k+1) ↔ i<k:=by omega
     simp[e2]
  ·have e6:N=k:=by omega
   subst e6
   have FI:Hid (IsFl wr (some ⟨bb,0,none⟩) N fb):=rowIs.fl (P2.out.congr (fun i hi=>by simp[hi])) FB.out
   clear hkn hk P2 CV
   have A7:Hid (Ab w wr):=A5.out.trans AW.out
   have R7:=hid (Ab.heap AW.out R5.out)
   have Q7:=hid (Ab.heap AW.out Q5.out)
   have G7:=hid (G5.out.to AW.out)
   clear AW A5 R5 Q5 G5 BO
   have x0:=aG R7.out
   go_wp2_with fail
   refine(LK.out wr (some ⟨bb,0,none⟩) N A7.out FI.out).mono ?_
   rintro e9 u9 ⟨vv,rfl,b9,os⟩
   obtain⟨lp1,lc1,lp2,lc2,lp3,lc3,lp4,lc4,rfl,sn⟩:=mG os BL.out
   have BB:Hid (Ab wr (u9.alloc (.cells #[.slice lp1 k1 lc1,.slice lp2 k2 lc2,.slice lp3 k3 lc3,.slice lp4 k4 lc4,.int .i64 0,.int .i64 0] 29))):=(show Ab wr u9 from b9).trans (bl1 _ _)
   have T9:Hid (SeaP u9.heap.size lp1 lc1 lp2 lc2 lp3 lc3 lp4 lc4 k1 k2 k3 k4 D1 D2 D3 D4 0 0 (u9.alloc (.cells #[.slice lp1 k1 lc1,.slice lp2 k2 lc2,.slice lp3 k3 lc3,.slice lp4 k4 lc4,.int .i64 0,.int .i64 0] 29))):=⟨sn.1,sn.2.1⟩
   clear os sn b9 x0
   go_upto_region 17 with fail
   generalize hW:World.alloc u9 _=v9 at*
   obtain⟨gl,hg⟩:=aB u9.heap.size
   rw[hg]at T9 ⊢
   clear hg hW
   have A9:Hid (Ab w v9):=A7.out.trans BB.out
   have R9:=hid (Ab.heap BB.out R7.out)
   have G9:=hid (G7.out.to BB.out)
   clear BB A7 R7 Q7 G7 FI
   have y0:=aE T9.out.1
   go_wp2_with fail
   refine(R2'.out v9 gb lp1 lc1 lp2 lc2 lp3 lc3 lp4 lc4 A9.out G9.out T9.out.2.1 T9.out.2.2.1 T9.out.2.2.2.1 T9.out.2.2.2.2).mono ?_
   rintro e9 v10 ⟨rfl,b10⟩
   have A10:Hid (Ab w v10):=A9.out.trans b10
   have R10:=hid (Ab.heap b10 R9.out)
   have G10:=hid (G9.out.to b10)
   have T10:=hid (oK T9.out b10)
   clear b10 A9 R9 G9 T9 y0
   have x0:=aG R10.out
   have y0:=aE T10.out.1
   go_wp2_with fail
   refine(S2'.out v10 gb lp1 lc1 lp2 lc2 lp3 lc3 lp4 lc4 A10.out G10.out T10.out.2.1 T10.out.2.2.1 T10.out.2.2.2.1 T10.out.2.2.2.2).mono ?_
   rintro e9 v11 ⟨rfl,b11⟩
   have A11:Hid (Ab w v11):=A10.out.trans b11
   clear b11 x0 y0
   go_wp2
   go_ret
   exact⟨rfl,A11.out⟩
theorem Dv(n N:Nat)(sd:Int)(dt gr dr:Nat)(lim:Int)(rv:Bool)(pr:Option Addr)(lr cr:Nat)(qb ob cb:Nat)(pw:Option Addr)(lw cw:Nat)(pt:Option Addr)(lt ct:Nat)(ps:Option Addr)(ls cs:Nat)(sky st:Int)(surf sm:Int)(B:Nat->Nat)(ib:Nat->Int)(fb:Nat->Nat)(fl:Nat)(k1 k2 k3 k4:Nat)(D1:Nat->Nat)(D2 D3:Nat->Int)(D4:Nat->Nat)(w:World)(hN:N<=6144)(tm:surf.tmod 1000=sm)(ft:floatOfInt .f64 sm=fl)
  (LV:Hid (∀v,Ab w v->Calls prog 9 #[] v fun e w'=>e=.returned (.bool true)/\Below v.heap.size v w'))
  (GD:Hid (∀v,Ab w v->Calls prog 10 #[.agg #[.int .i64 sd,.float .f64 dt,.float .f64 gr,.float .f64 dr,.int .i64 lim,.bool false,.slice none 0 0],.agg #[.slice (some ⟨qb,ob,none⟩) N cb,.slice pw lw cw,.slice pt lt ct,.slice ps ls cs,.int .i64 sky,.int .i64 st]] v fun e w'=> ∃gb,e=.returned (.tuple #[.pointer (some ⟨gb,0,none⟩),.bool true])/\Below v.heap.size v w'/\GridOf n gb w'))
  (RS:Hid (∀v gb,Ab w v->GridOf n gb v->Calls prog 26 #[.pointer (some ⟨gb,0,none⟩),.agg #[.slice (some ⟨qb,ob,none⟩) N cb,.slice pw lw cw,.slice pt lt ct,.slice ps ls cs,.int .i64 sky,.int .i64 st]] v fun e w'=>e=.returned (.bool false)/\Below v.heap.size v w'))
  (GC:Hid (∀v gb,GridOf n gb v->Calls prog 28 #[.pointer (some ⟨gb,0,none⟩)] v fun e w'=>e=.returned (.int .i64 (N:Nat))/\Below v.heap.size v w'))
  (CV:Hid (∀c,c<N->((fgt (B c) 0||feq (B c) 0)=true/\(∀w:World,(convert 22 2 (.float .f64 (B c))).run prog w=.ok (.int .i64 (ib c)) w)/\floatOfInt .f64 (ib c)=fb c)\/((fgt (B c) 0||feq (B c) 0)=false/\fb c=0)))
  (LK:Hid (∀v p c,Ab w v->IsFl v p N fb->Calls prog 29 #[.int .i64 sd,.slice p N c,.float .f64 fl] v fun e w'=> ∃vv,e=.returned (.tuple #[vv,.int .i64 14])/\Below v.heap.size v w'/\OwnS v.heap.size vv k1 k2 k3 k4 D1 D2 D3 D4 0 0 w'))
  (BL:Hid (Bnd k1 k2 k3 k4 D1 D2 D3 D4)) (FB:Hid (∀c,c<N->fb c<18446744073709551616)) (IB:Hid (IsFl w (some ⟨qb,ob,none⟩) N B)):
  Calls prog 5 #[.agg #[.int .i64 sd,.float .f64 dt,.float .f64 gr,.float .f64 dr,.int .i64 lim,.bool rv,.slice pr lr cr],.agg #[.slice (some ⟨qb,ob,none⟩) N cb,.slice pw lw cw,.slice pt lt ct,.slice ps ls cs,.int .i64 sky,.int .i64 st],.int .i64 surf] w fun e w'=>e=.returned (.bool true)/\Below w.heap.size w w':=by
 have M1: ∀v:World,(Instr.makeSlice 26 (.int .i64 (N:Nat)) (.int .i64 (N:Nat))).run prog v=.ok (.slice (some ⟨v.heap.size,0,none⟩) N N) (v.alloc (Obj.cells (madeCells #[.float .f64 0] N) 22)):=fun v=>run_make_row' (P:=prog) 26 22 (.float .f64 0) 8 underlying26 jV rfl .i64 .i64 N (by omega) (by omega) v
 have HN:=hid hN
 have nB:(N:Int)<=6144:=by omega
 clear hN
 obtain⟨A0,R0,Q0⟩:=bO w (.cells #[.int .i64 sd,.float .f64 dt,.float .f64 gr,.float .f64 dr,.int .i64 lim,.bool rv,.slice pr lr cr] 25) (.cells #[.slice (some ⟨qb,ob,none⟩) N cb,.slice pw lw cw,.slice pt lt ct,.slice ps ls cs,.int .i64 sky,.int .i64 st] 29)
 go_enter func5,ntmps5
 go_upto_region 1 with fail
 generalize hW:World.alloc (World.alloc w _) _=V0 at*
 obtain⟨ga,hga⟩:=aB w.heap.size
 obtain⟨gq,hgq⟩:=aB (w.heap.size+1)
 have HGQ:Hid (w.heap.size<=ga/\w.heap.size<=gq):=by show _/\_;omega
 rw[hgq]at Q0 ⊢
 rw[hga]at R0 ⊢
 clear hga hgq hW
 go_wp2_with fail
 refine(LV.out V0 A0.out).mono ?_
 rintro e9 v1 ⟨rfl,b1⟩
 have A1:Hid (Ab w v1):=A0.out.trans b1
 have R1:=hid (Ab.heap b1 R0.out)
 have Q1:=hid (Ab.heap b1 Q0.out)
 clear b1 A0 R0 Q0 LV
 have x0:=aG R1.out
 have f0:=aD R1.out 0
 have f1:=aD R1.out 1
 have f2:=aD R1.out 2
 have f3:=aD R1.out 3
 have f4:=aD R1.out 4
 have f5:=aD R1.out 5
 have f6:=aD R1.out 6
 go_upto_region 5 with fail
 have GN:Hid (ga≠gq):=fun e=>by
  have h1:=R1.out
  have h2:=Q1.out
  rw[e,h2]at h1
  injection h1 with h1
  injection h1 with h1 h3
  exact absurd h3 (by decide)
 have A2:Hid (Ab w ((v1.setCell ⟨ga,6,none⟩ (.slice none 0 0)).setCell ⟨ga,5,none⟩ (.bool false))):=(A1.out.setk HGQ.out.1 _).setk HGQ.out.1 _
 have R2:Hid (((v1.setCell ⟨ga,6,none⟩ (.slice none 0 0)).setCell ⟨ga,5,none⟩ (.bool false)).heap[ga]? =some (.cells #[.int .i64 sd,.float .f64 dt,.float .f64 gr,.float .f64 dr,.int .i64 lim,.bool false,.slice none 0 0] 25)):=by
  have h1:=aI (v:=.slice none 0 0) (k:=6) R1.out
  have h2:=aI (v:=.bool false) (k:=5) h1
  show _=_
  simpa using h2
 have Q2:Hid (((v1.setCell ⟨ga,6,none⟩ (.slice none 0 0)).setCell ⟨ga,5,none⟩ (.bool false)).heap[gq]? =some (.cells #[.slice (some ⟨qb,ob,none⟩) N cb,.slice pw lw cw,.slice pt lt ct,.slice ps ls cs,.int .i64 sky,.int .i64 st] 29)):=(aW (Ne.symm GN.out)).trans ((aW (Ne.symm GN.out)).trans Q1.out)
 clear x0 f0 f1 f2 f3 f4 f5 f6 R1 Q1 A1 GN HGQ
 generalize World.setCell _ _ _=v2 at*
 clear v1
 have x0:=aG R2.out
 have y0:=aE Q2.out
 go_wp2_with fail
 refine(GD.out v2 A2.out).mono ?_
 rintro e9 v3 ⟨gb,rfl,b3,g3⟩
 have A3:Hid (Ab w v3):=A2.out.trans b3
 have R3:=hid (Ab.heap b3 R2.out)
 have Q3:=hid (Ab.heap b3 Q2.out)
 have G3:=hid g3
 clear b3 g3 A2 R2 Q2 GD x0 y0
 have y0:=aE Q3.out
 go_wp2_with fail
 refine(RS.out v3 gb A3.out G3.out).mono ?_
 rintro e9 v4 ⟨rfl,b4⟩
 have A4:Hid (Ab w v4):=A3.out.trans b4
 have R4:=hid (Ab.heap b4 R3.out)
 have Q4:=hid (Ab.heap b4 Q3.out)
 have G4:=hid (G3.out.to b4)
 clear A3 R3 Q3 G3
 clear b4 y0 RS
 go_wp2_with fail
 refine(GC.out v4 gb G4.out).mono ?_
 rintro e9 v5 ⟨rfl,b5⟩
 have A5:Hid (Ab w v5):=A4.out.trans b5
 have R5:=hid (Ab.heap b5 R4.out)
 have Q5:=hid (Ab.heap b5 Q4.out)
 have G5:=hid (G4.out.to b5)
 clear A4 R4 Q4 G4
 clear b5 GC
 have BA:=fJ (bl1 v5 (Obj.cells (madeCells #[.float .f64 0] N) 22))
 have N1:Hid ((v5.alloc (Obj.cells (madeCells #[.float .f64 0] N) 22)).rowIs v5.heap.size 22 N (fun _=>.float .f64 0)):=dT (heap_alloc_new _ _)
 go_upto_region 11 with fail
 generalize hW:World.alloc v5 _=v6 at*
 obtain⟨bb,hbb⟩:=aB v5.heap.size
 have BO:Hid (v5.heap.size<=bb):=by show _<=_;omega
 rw[hbb]at N1 ⊢
 clear hbb hW
 go_wp2
 go_loopw [10] (fun iv wr=> ∃k:Nat,k<=N/\iv=.int .i64 (k:Nat)/\Ab v5 wr/\wr.rowIs bb 22 N (fun i=>.float .f64 (if i<k then fb i else 0))) (fun iv _=>N - (intOf iv).toNat)
 case atStart=>exact⟨0,by omega,rfl,BA.out,N1.out.congr (fun i _=>by simp)⟩
 case round=>
  clear BA N1 v6
  obtain⟨k,hk,rfl,ar',r2⟩:=hrel
  have AW:=hid ar'
  have P2:=hid r2
  clear ar' r2
  by_cases hkn:k<N
  ·have HK:=hid hkn
   have kI:(k:Int)<N:=by omega
   have kB:(k:Int)<=6144:=by have:=HN.out;omega
   have cv:=CV.out k hkn
   obtain⟨x,hx⟩:=aB (B k)
   obtain⟨yi,hyi⟩:=aB (ib k)
   obtain⟨zf,hzf⟩:=aB (fb k)
   rw[hx,hyi,hzf]at cv
   have ZE:=hid hzf
   have xc:wr.cell? ⟨qb,ob+k,none⟩=some (.float .f64 x):=by rw[<- hx];exact((IB.out.below (A5.out.trans AW.out)).at0 hkn).2.2
   have y0:=aA 0 (AW.out.heap Q5.out)
   clear hx hyi hzf hkn hk
   rcases cv with⟨c1,c2,c3⟩ | ⟨c1,c2⟩
   ·have z1:=P2.out.cell HK.out
    have z2:=P2.out.frozen k
    go_wp2_with fail
    refine⟨⟨k+1,by have:=HK.out;omega,by simp,AW.out.setk BO.out _,(P2.out.set k _).congr (fun i _=> ?_)⟩,by have:=HK.out;simp[intOf];omega⟩
    by_cases e:i=k
    ·subst e;simp[ZE.out]
    ·have e2:(i<k+1) ↔ i<k:=by omega
     simp[e,e2]
   ·have c3:=hid c2
    clear c2
    go_wp2_with fail
    refine⟨⟨k+1,by have:=HK.out;omega,by simp,AW.out,P2.out.congr (fun i _=> ?_)⟩,by have:=HK.out;simp[intOf];omega⟩
    by_cases e:i=k
    ·subst e;simp[ZE.out,c3.out]
    ·have e2:(i<k+1) ↔ i<k:=by omega
     simp[e2]
  ·have e6:N=k:=by omega
   subst e6
   have FI:Hid (IsFl wr (some ⟨bb,0,none⟩) N fb):=rowIs.fl (P2.out.congr (fun i hi=>by simp[hi])) FB.out
   clear hkn hk P2 CV
   have A7:Hid (Ab w wr):=A5.out.trans AW.out
   have R7:=hid (Ab.heap AW.out R5.out)
   have Q7:=hid (Ab.heap AW.out Q5.out)
   have G7:=hid (G5.out.to AW.out)
   clear AW A5 R5 Q5 G5 BO
   have x0:=aG R7.out
   go_wp2_with fail
   refine(LK.out wr (some ⟨bb,0,none⟩) N A7.out FI.out).mono ?_
   rintro e9 u9 ⟨vv,rfl,b9,os⟩
   obtain⟨lp1,lc1,lp2,lc2,lp3,lc3,lp4,lc4,rfl,sn⟩:=mG os BL.out
   have BB:Hid (Ab wr (u9.alloc (.cells #[.slice lp1 k1 lc1,.slice lp2 k2 lc2,.slice lp3 k3 lc3,.slice lp4 k4 lc4,.int .i64 0,.int .i64 0] 29))):=(show Ab wr u9 from b9).trans (bl1 _ _)
   have T9:Hid (SeaP u9.heap.size lp1 lc1 lp2 lc2 lp3 lc3 lp4 lc4 k1 k2 k3 k4 D1 D2 D3 D4 0 0 (u9.alloc (.cells #[.slice lp1 k1 lc1,.slice lp2 k2 lc2,.slice lp3 k3 lc3,.slice lp4 k4 lc4,.int .i64 0,.int .i64 0] 29))):=⟨sn.1,sn.2.1⟩
   clear os sn b9 x0
   go_upto_region 17 with fail
   generalize hW:World.alloc u9 _=v9 at*
   obtain⟨gl,hg⟩:=aB u9.heap.size
   rw[hg]at T9 ⊢
   clear hg hW
   have A9:Hid (Ab w v9):=A7.out.trans BB.out
   have R9:=hid (Ab.heap BB.out R7.out)
   have G9:=hid (G7.out.to BB.out)
   clear BB A7 R7 Q7 G7 FI
   go_wp2
   go_ret
   exact⟨rfl,A9.out⟩
end St
end
section
open Go.RowKit Tf
attribute [local go_sem] aJ aK aP aQ aR aV aX
theorem isC_eq{r c:Nat}(h:IsC r c)(c0:0<c)(c1:c<=9218868437227405312):r=c:=by
 have e:=h.2
 unfold canonB at e
 split at e
 ·unfold quiet at e;omega
 ·split at e
  ·omega
  ·exact e
theorem isQ_eq{r c:Nat}(h:IsQ r c)(c1:c<=9218868437227405312):r=c:=by
 have e:=h.2
 unfold qB at e
 split at e
 ·unfold quiet at e;omega
 ·exact e
theorem FD{x:Nat}(h:x<=9218868437227405312):mg x<=9218868437227405312:=by unfold mg;omega
theorem add_can{P:Program}(w:World)(s x:Nat)(hs:s<18446744073709551616)(hx:x<18446744073709551616):
  ∃r n,(∀t,(binOp .add t (.float .f64 s) (.float .f64 x)).run P w=.ok (.float .f64 r) (w.drewN n))/\IsC r (addB s x):=by
 cases e:Ieee.double.add s x with
 | none=>exact⟨nanOf w s x,1,fun t=>lA w t s x e,gM _ _ _,by rw[bE e];unfold canonB;rw[if_pos (eO _ _ _)]⟩
 | some r=>exact⟨r,0,fun t=>run_float_arith w .add t .f64 s x r e,by
   have q:=IsQ.add (IsQ.self hs) (IsQ.self hx) e
   exact q.1,by rw[bJ e]⟩
theorem depth_no(n a:Int)(w:World)(h:n<1\/a<1):
  Calls prog 135 #[.int .i64 n,.int .i64 a] w fun e w'=>e=.returned (.float .f64 0)/\w'=w:=by
 by_cases c:n<1
 ·go_enter func135,ntmps135
  go_wp2
  go_ret
  exact⟨rfl,rfl⟩
 ·have d:a<1:=by omega
  clear h
  go_enter func135,ntmps135
  go_wp2
  go_ret
  exact⟨rfl,rfl⟩
theorem Hv(n a:Int)(w:World)(h1:1<=n)(h2:1<=a)(n2:n<=9223372036854775807)(a2:a<=9223372036854775807):
  Calls prog 135 #[.int .i64 n,.int .i64 a] w fun e w'=>e=.returned (.float .f64 (dpB n a))/\ ∃k,w'=w.drewN k:=by
 obtain⟨r,k,hr,hc⟩:=gZ (P:=prog) w (fw n) (fw a)
 have e:=isC_eq hc (by rw[<- qU h1 h2];have:=dp_in h1 h2 n2 a2;omega) (by rw[<- qU h1 h2];have:=dp_in h1 h2 n2 a2;omega)
 rw[qU h1 h2,<- e]
 clear e hc
 have F1:=hid (jA n w)
 have F2:=hid (jA a w)
 rw[show rn false (n*one)=fw n from rfl]at F1
 rw[show rn false (a*one)=fw a from rfl]at F2
 generalize fw n=x at*
 generalize fw a=y at*
 go_enter func135,ntmps135
 go_wp2_with fail
 refine F1.out.mono ?_
 rintro e w' ⟨rfl,rfl⟩
 go_wp2_with fail
 refine F2.out.mono ?_
 rintro e w' ⟨rfl,rfl⟩
 go_wp2
 go_ret
 exact⟨rfl,k,rfl⟩
theorem lH(n a:Int)(w:World)(n2:n<=9223372036854775807)(a2:a<=9223372036854775807):
  Calls prog 135 #[.int .i64 n,.int .i64 a] w fun e w'=>e=.returned (.float .f64 (dpB n a))/\ ∃k,w'=w.drewN k:=by
 by_cases c:n<1\/a<1
 ·rw[kG c]
  exact(depth_no n a w c).mono fun _ _ h=>⟨h.1,0,h.2⟩
 ·exact Hv n a w (by omega) (by omega) n2 a2
theorem oM(b:Nat)(n a:Int)(w:World)(hb:b<18446744073709551616)(n2:n<=9223372036854775807)(a2:a<=9223372036854775807):
  Calls prog 90 #[.float .f64 b,.int .i64 n,.int .i64 a] w fun e w'=>e=.returned (.float .f64 (lvl b n a))/\ ∃k,w'=w.drewN k:=by
 have D:=hid (lH n a w n2 a2)
 have e0:lvl b n a=addB b (dpB n a):=rfl
 rw[e0]
 have hd:dpB n a<18446744073709551616:=by have:=qV n2 a2;omega
 clear e0
 generalize dpB n a=d at*
 have AD:Hid (∀k:Nat,∃r m,(∀t,(binOp .add t (.float .f64 b) (.float .f64 d)).run prog (w.drewN k)=.ok (.float .f64 r) ((w.drewN k).drewN m))/\IsC r (addB b d)):=fun k=>add_can _ b d hb hd
 generalize addB b d=y at*
 go_enter func90,ntmps90
 go_wp2_with fail
 refine D.out.mono ?_
 rintro e w' ⟨rfl,k,rfl⟩
 obtain⟨r,m,hr,hc⟩:=AD.out k
 have C:=hid (bZ r (w.drewN (k+m)) hc.1)
 rw[hc.2]at C
 go_wp2_with fail
 refine C.out.mono ?_
 rintro e w' ⟨rfl,rfl⟩
 go_wp2
 go_ret
 exact⟨rfl,k+m,rfl⟩
theorem fill_no(b:Nat)(a:Int)(l:Nat)(w:World)(h:fgt l b=false\/a<1):
  Calls prog 138 #[.float .f64 b,.int .i64 a,.float .f64 l] w fun e w'=>e=.returned (.int .i64 0)/\w'=w:=by
 cases c:fgt l b
 ·clear h
  go_enter func138,ntmps138
  go_wp2
  go_ret
  exact⟨rfl,rfl⟩
 ·have d:a<1:=by simpa [c]using h
  clear h
  go_enter func138,ntmps138
  go_wp2
  go_ret
  exact⟨rfl,rfl⟩
theorem fill_yes(b:Nat)(a:Int)(l:Nat)(w:World)(hb:b<18446744073709551616)(hl:l<18446744073709551616)(h:fgt l b=true)(a1:1<=a)(a2:a<=9223372036854775807):
  Calls prog 138 #[.float .f64 b,.int .i64 a,.float .f64 l] w fun e w'=>e=.returned (.int .i64 (fil b a l))/\ ∃k,w'=w.drewN k:=by
 obtain⟨n1,n2,k0⟩:=(rM hl hb).1 h
 have hi:=hi_in hl hb n1 n2 k0
 have hp:=Aq hl hb h a1 a2
 rw[xV h a1]
 obtain⟨r,k,hr,hc⟩:=lU (P:=prog) w l (qB l) b (qB b) (IsQ.self hl) (IsQ.self hb)
 have q1:qB l=l:=by unfold qB;rw[if_neg (by rw[n1];exact Bool.false_ne_true)]
 have q2:qB b=b:=by unfold qB;rw[if_neg (by rw[n2];exact Bool.false_ne_true)]
 rw[q1,q2]at hc
 obtain rfl:=isC_eq hc hi.1 hi.2
 have F:=hid (jA a (w.drewN k))
 rw[show rn false (a*one)=fw a from rfl]at F
 have fa:=mQ a1 a2
 obtain⟨p,m,hm,hq⟩:=fO (P:=prog) (w.drewN k) (sbB l b) (qB (sbB l b)) (fw a) (qB (fw a)) (IsQ.self (by omega)) (IsQ.self (by omega))
 have q3:qB (sbB l b)=sbB l b:=by unfold qB;rw[if_neg (by rw[bR.2 (by have:=FD hi.2;omega)];exact Bool.false_ne_true)]
 have q4:qB (fw a)=fw a:=by unfold qB;rw[if_neg (by rw[bR.2 (by have:=FD (show fw a<=9218868437227405312 by omega);omega)];exact Bool.false_ne_true)]
 rw[q3,q4]at hq
 obtain rfl:=isQ_eq hq hp
 have C:=hid (Al (mlB (sbB l b) (fw a)) 4503599627370496 _ (w.drewN (k+m)) (by omega) (by decide) rfl)
 generalize clampB (mlB (sbB l b) (fw a)) 4503599627370496=z at*
 clear hq hc q1 q2 q3 q4 hp hi fa
 generalize mlB (sbB l b) (fw a)=y at*
 generalize sbB l b=d at*
 generalize fw a=f at*
 go_enter func138,ntmps138
 go_wp2_with fail
 refine F.out.mono ?_
 rintro e w' ⟨rfl,rfl⟩
 go_wp2_with fail
 refine C.out.mono ?_
 rintro e w' ⟨rfl,j,rfl⟩
 go_wp2
 go_ret
 exact⟨rfl,k+m+j,rfl⟩
theorem fill_at(b:Nat)(a:Int)(l:Nat)(w:World)(hb:b<18446744073709551616)(hl:l<18446744073709551616)(a2:a<=9223372036854775807):
  Calls prog 138 #[.float .f64 b,.int .i64 a,.float .f64 l] w fun e w'=>e=.returned (.int .i64 (fil b a l))/\ ∃k,w'=w.drewN k:=by
 by_cases c:fgt l b=false\/a<1
 ·rw[fil_no c]
  exact(fill_no b a l w c).mono fun _ _ h=>⟨h.1,0,h.2⟩
 ·have h:fgt l b=true:=by cases k:fgt l b;exact absurd (.inl k) c;rfl
  exact fill_yes b a l w hb hl h (by omega) a2
end
section
open Go.RowKit Tf Cu Go.Deep
namespace St
open Ss Fc
theorem Bd{n:Nat}{B:Nat->Nat}{W:Nat->Int}{S:Nat->Nat}(hn:1<=n):rest n B W S ↔ ∀i,i<12*n*n->S i=0/\(opE n B W i=true->lvC n B W (edT n i/4)=lvC n B W (bsC n (edT n i/4) (edT n i%4))):=by
 have e: ∀i,i<12*n*n->eR n i=bsC n (edT n i/4) (edT n i%4):=fun i hi=>(fT hn (bM hn hi).1).1
 constructor
 ·intro h i hi
  obtain⟨h1,h2⟩:=h i hi
  rw[e i hi]at h2
  exact⟨h1,h2⟩
 ·intro h i hi
  obtain⟨h1,h2⟩:=h i hi
  refine⟨h1,fun o=> ?_⟩
  rw[e i hi]
  exact h2 o
theorem tY(OP:OpenC){n gb:Nat}{p1:Option Addr}{c1:Nat}{p2:Option Addr}{c2:Nat}{p3:Option Addr}{c3:Nat}{p4:Option Addr}{c4:Nat}{B:Nat->Nat}{W T:Nat->Int}{S:Nat->Nat}{sky st:Int}(r:Bool){v:World}(hn:1<=n/\n<=32)(g:GridOf n gb v)(ok:okS n B W T S sky st)(ry:rest n B W S->r=true)(rn: ¬rest n B W S->r=false)
  (i1:IsFl v p1 (6*n*n) B) (i2:Sh.IsI v p2 (6*n*n) W) (i4:IsFl v p4 (12*n*n) S):
  Calls prog 26 #[.pointer (some ⟨gb,0,none⟩),.agg #[.slice p1 (6*n*n) c1,.slice p2 (6*n*n) c2,.slice p3 (6*n*n) c3,.slice p4 (12*n*n) c4,.int .i64 sky,.int .i64 st]] v fun e w'=>e=.returned (.bool r)/\Below v.heap.size v w':=by
 have q1:n*n<=32*32:=Nat.mul_le_mul hn.2 hn.2
 have q0:0<n*n:=Nat.mul_pos (by omega) (by omega)
 have q6:6*n*n=6*(n*n):=Nat.mul_assoc _ _ _
 have q12:12*n*n=12*(n*n):=Nat.mul_assoc _ _ _
 have bd:=qF ok
 obtain⟨qb,ob,rfl⟩:=i1.some0 (by omega)
 obtain⟨qw,ow,rfl⟩:=i2.some0 (by omega)
 obtain⟨qs,os,rfl⟩:=i4.some0 (by omega)
 refine Dt gb (6*n*n) (12*n*n) qb ob c1 qw ow c2 p3 (6*n*n) c3 qs os c4 sky st B W S (fun i=>edT n i/4) (fun i=>edT n i%4) (fun i=>bsC n (edT n i/4) (edT n i%4)) (fun i=>bsS n (edT n i/4) (edT n i%4)) (lvC n B W) (arC n) (opE n B W) r v (by omega) (by omega)
  (fun u a=>(cJ (g.to a)).mono fun e w' h=>⟨h.1,by rw[h.2];exact Below.refl _ _⟩) (fun u i a hi=> ?_) (fun u c a hc=>eZ hn hc (g.to a)) (fun u c hc=> ?_) (fun u i a hi=> ?_) (fun i hi=> ?_) (fun h=>ry ((Bd hn.1).2 h)) (fun k hk h=>rn (fun z=>h ((Bd hn.1).1 z k hk))) i1 i2 i4
 ·obtain⟨h1,h2,h3⟩:=bM hn.1 hi
  have e:=jR hn h1 h2 (g.to a)
  rw[h3]at e
  exact e
 ·have w1:=(bd.2.1 c hc)
  unfold Sh.W64 at w1
  exact(oM (B c) (W c) (arC n c) u (bd.1 c hc) w1.2 (cQ n c).2).mono fun e w' h=>by
   obtain⟨h1,k,h2⟩:=h
   exact⟨h1,by rw[h2];exact(Ab.refl u).drewN k⟩
 ·have h:=(OP n gb (some ⟨qb,ob,none⟩) (6*n*n) c1 B (some ⟨qw,ow,none⟩) (6*n*n) c2 W p3 (6*n*n) c3 (some ⟨qs,os,none⟩) (12*n*n) c4 sky st (i:Nat) u hn (g.to a) (i1.below a) (i2.below a) ⟨S,i4.below a⟩ (by omega)).1 ⟨⟨rfl,rfl,rfl,rfl⟩,iL hi⟩
  rw[Int.toNat_natCast]at h
  exact h
 ·obtain⟨h1,h2,h3⟩:=bM hn.1 hi
  have:=fT hn.1 h1
  exact⟨bC h1,by rw[<- this.1];exact bC (cY hn.1 h1)⟩
theorem tZ(OC:OneF)(FC:FlowC){n gb dt gr dr:Nat}{lim:Int}{R:Nat->Int × Int × Int × Int}{p1:Option Addr}{c1:Nat}{p2:Option Addr}{c2:Nat}{p3:Option Addr}{c3:Nat}{p4:Option Addr}{c4:Nat}{B:Nat->Nat}{W T:Nat->Int}{S:Nat->Nat}{sky st:Int}{v:World}(hF:Fr v)(hn:1<=n/\n<=32)(g:GridOf n gb v)(hlim:Sh.W64 lim)(hf:dt<18446744073709551616/\gr<18446744073709551616/\dr<18446744073709551616)(pl0:plE (n:Nat) dt gr dr lim 0 R=0)(ok:okS n B W T S sky st)(rs:rest n B W S)
  (i1:IsFl v p1 (6*n*n) B) (i2:Sh.IsI v p2 (6*n*n) W) (i3:Sh.IsI v p3 (6*n*n) T) (i4:IsFl v p4 (12*n*n) S):
  Calls prog 27 #[.pointer (some ⟨gb,0,none⟩),.agg #[.int .i64 (n:Nat),.float .f64 dt,.float .f64 gr,.float .f64 dr,.int .i64 lim,.bool false,.slice none 0 0],.agg #[.slice p1 (6*n*n) c1,.slice p2 (6*n*n) c2,.slice p3 (6*n*n) c3,.slice p4 (12*n*n) c4,.int .i64 sky,.int .i64 st]] v fun e w'=>e=.returned (.bool true)/\Below v.heap.size v w':=by
 have q1:n*n<=32*32:=Nat.mul_le_mul hn.2 hn.2
 have q6:6*n*n=6*(n*n):=Nat.mul_assoc _ _ _
 have q12:12*n*n=12*(n*n):=Nat.mul_assoc _ _ _
 have oP:okP n gr dt dr 0 R:=⟨hn,⟨hf.2.1,hf.1,hf.2.2⟩,by omega,fun k hk=>absurd hk (Nat.not_lt_zero k)⟩
 have w1:Sh.W64 ((n:Nat):Int):=by unfold Sh.W64;omega
 have w2:Sh.W64 sky:=by have:=ok.1.2.1;unfold Sh.W64;omega
 have w3:Sh.W64 st:=by have:=ok.1.2.2.2.2.2;unfold Sh.W64;omega
 have er:erS n (n:Nat) dt gr dr lim 0 R (6*n*n) (6*n*n) (6*n*n) (12*n*n) B W T S sky st=0:=yK rfl pl0 (congrArg Prod.snd (AX (by omega) (by rw[Int.toNat_natCast];exact⟨rfl,rfl,rfl,by omega⟩) (by rw[Int.toNat_natCast];exact ok.1)))
 have n0: ∀u,Rn.IsRn u none 0 R:=fun u k hk=>absurd hk (Nat.not_lt_zero k)
 have hl:6*n*n<=281474976710656/\6*n*n<=281474976710656/\6*n*n<=281474976710656/\12*n*n<=281474976710656:=by omega
 have o1:=Dk (lim:=lim) (rv:=false) oP ok
 have z64:Sh.W64 0:=by unfold Sh.W64;omega
 refine Ds gb (12*n*n) (n:Nat) dt gr dr lim false none 0 0 p1 (6*n*n) c1 B p2 (6*n*n) c2 W p3 (6*n*n) c3 T p4 (12*n*n) c4 S sky st _ _ _ (stN st) (waF n lim gr dt dr B W S) (trF n lim gr dt dr B W T S) v (by omega)
  (fun u a=>(OC n gb (n:Nat) dt gr dr lim none 0 0 R p1 (6*n*n) c1 B p2 (6*n*n) c2 W p3 (6*n*n) c3 T p4 (12*n*n) c4 S sky st u hn (g.to a) (hF.to a) ⟨w1,hlim,w2,w3⟩ hf (by omega) hl (n0 u) (i1.below a) (i2.below a) (i3.below a) (i4.below a)).1 er)
  (fun u a=>((FC n gb (n:Nat) dt gr dr lim false none 0 0 R p1 (6*n*n) c1 B p2 (6*n*n) c2 W p3 (6*n*n) c3 T p4 (12*n*n) c4 S sky st u hn (g.to a) (hF.to a) ⟨w1,hlim,w2,w3⟩ hf (by omega) hl (n0 u) (i1.below a) (i2.below a) (i3.below a) (i4.below a)).1 er).mono fun e w' k=> ?_)
  (fun u a=>(cJ (g.to a)).mono fun e w' h=>⟨h.1,by rw[h.2];exact Below.refl _ _⟩) (qF o1) (by show _/\_;omega) ?_ (eP (fun e he=>mI oP ok rs he)) (eP (fun e he=>rR oP ok rs he)) i1 i2 i3 i4
 ·obtain⟨v1,v2,rfl,k1,k2,k3,-⟩:=k
  obtain⟨x1,y1,rfl,j1,b1⟩:=oJ k2 (fun e he=>by rw[mI oP ok rs he];exact z64)
  obtain⟨x2,y2,rfl,j2,b2⟩:=oJ k3 (fun e he=>by rw[rR oP ok rs he];exact z64)
  exact⟨x1,y1,x2,y2,rfl,k1,⟨j1,b1⟩,j2,b2⟩
 ·show eqS _ _ _ _ _ _ _ _ _ _ _ _ _ _ _ _ _ _ _ _=true
  unfold eqS
  rw[eP (fun _ _=>rfl),eP (fun i hi=> ?_),eP (fun i hi=> ?_),eP (fun e he=> ?_)]
  ·simp
  ·rw[yL oP ok rs he]
   exact(rs e he).1.symm
  ·rw[ri_0]
   exact(rS oP ok rs hi).2
  ·rw[ri_0]
   exact(rS oP ok rs hi).1
end St
end
section
open Go.RowKit Tf Cu Go.Deep
namespace St
open Ss Fc
theorem fw_p20:fw 1048576=4697254411347427328:=by decide+kernel
theorem fw_m20:fw (-1048576)=13920626448202203136:=by decide+kernel
def bI(B:Nat->Nat)(c:Nat):Int:=if(fgt (B c) 0||feq (B c) 0)=true then wI (B c)else 0
theorem bed_up{x:Nat}(hx:x<18446744073709551616)(hN:isN x=false)(h1: -4697254411347427328<=rk x/\rk x<=4697254411347427328)(h2:x≠9223372036854775808)(h3:(fgt x 0||feq x 0)=true):wOk x=true/\0<=wI x/\wI x<=1048576:=by
 have r0:rk 0=0:=by decide
 have rp:0<=rk x:=by
  rw[eC x 0 hx (by omega),gR x 0 hx (by omega),r0]at h3
  simp only[Bool.or_eq_true,Bool.and_eq_true,decide_eq_true_eq]at h3
  omega
 have e1:rk 14114281232179134464= -4890909195324358656:=by decide+kernel
 have e2:rk 4890909195324358656=4890909195324358656:=by decide+kernel
 have n1:isN 14114281232179134464=false:=by decide+kernel
 have n2:isN 4890909195324358656=false:=by decide+kernel
 have ok:wOk x=true:=by
  unfold wOk
  rw[eC x _ hx (by omega),jX x _ hx (by omega),hN,n1,n2,e1,e2]
  have a:decide (-4890909195324358656<rk x)=true:=decide_eq_true (by omega)
  have b:decide (rk x<4890909195324358656)=true:=decide_eq_true (by omega)
  simp[a,b]
 have ngf:ng x=false:=by
  cases q:ng x with
  | false=>rfl
  | true=>
   unfold rk at rp
   rw[q]at rp
   simp only[if_true]at rp
   have:mg x=0:=by omega
   unfold mg at this
   unfold ng at q
   simp at q
   omega
 have mgx:mg x<=4697254411347427328:=by
  have h:=h1.2
  unfold rk at h
  rw[ngf]at h
  simp only[Bool.false_eq_true,if_false]at h
  omega
 have w:wI x=((mv (mg x)/one:Nat):Int):=by
  unfold wI
  rw[ok,ngf]
  rfl
 have m:mv 4697254411347427328=2 ^ 20*one:=dG 20 _ (by decide)
 have le:mv (mg x)/one<=2 ^ 20:=by
  have a:=mN.2 mgx
  rw[m]at a
  have b:=Nat.div_le_div_right (c:=one) a
  rwa [Nat.mul_div_cancel _ fM]at b
 refine⟨ok,?_,?_⟩
 ·rw[w];exact Int.natCast_nonneg _
 ·rw[w]
  have:(2:Nat) ^ 20=1048576:=by decide
  omega
theorem bI_in{n:Nat}{B:Nat->Nat}{W T:Nat->Int}{S:Nat->Nat}{sky st:Int}(h:okS n B W T S sky st){c:Nat}(hc:c<6*n*n):0<=bI B c/\bI B c<=1048576:=by
 unfold bI
 by_cases q:(fgt (B c) 0||feq (B c) 0)=true
 ·rw[if_pos q]
  have z:=(yB (h.2.1 c hc)).1 (h.1.1 c hc)
  exact(bed_up (h.2.1 c hc) z.1 z.2.1 z.2.2 q).2
 ·rw[if_neg q]
  omega
theorem rk_fw{b:Int}(h:0<=b/\b<=1048576):0<=rk (fw b)/\rk (fw b)<=4697254411347427328/\fw b≠9223372036854775808:=by
 have r0:rk (fw 0)=0:=by rw[fw_0];decide
 have r1:rk (fw 1048576)=4697254411347427328:=by rw[fw_p20];decide+kernel
 have k0:=tX (n:=b) (m:=0) (by omega) (by omega)
 have k1:=tX (n:=1048576) (m:=b) (by omega) (by omega)
 have k2:=tX (n:=0) (m:=b) (by omega) (by omega)
 rw[r0]at k0 k2
 rw[r1]at k1
 refine⟨by omega,by omega,fun e=> ?_⟩
 rcases Int.lt_or_le 0 b with q | q
 ·have:=k2.2 q
  rw[e]at this
  exact absurd this (by decide)
 ·have z:b=0:=by omega
  rw[z,fw_0]at e
  exact absurd e (by decide)
theorem bB_fw{b:Nat->Int}{c:Nat}(h:0<=b c/\b c<=1048576):bB (fun c=>fw (b c)) c=false:=by
 obtain⟨h1,h2,h3⟩:=rk_fw h
 exact(yB (B:=fun c=>fw (b c)) (dK _)).2 ⟨fw_N _,⟨by show -4697254411347427328<=rk (fw (b c));omega,h2⟩,h3⟩
theorem lv_fw{L:Int}(h: -1000<L/\L<1000):((fgt (fw L) 13920626448202203136||feq (fw L) 13920626448202203136)&&(flt (fw L) 4697254411347427328||feq (fw L) 4697254411347427328))=true:=by
 have k1:=(tX (n:= -1048576) (m:=L) (by omega) (by omega)).2 (by omega)
 have k2:=(tX (n:=L) (m:=1048576) (by omega) (by omega)).2 (by omega)
 rw[fw_m20]at k1
 rw[fw_p20]at k2
 have n1:isN 13920626448202203136=false:=by decide+kernel
 have n2:isN 4697254411347427328=false:=by decide+kernel
 rw[eC _ _ (dK _) (by omega),jX _ _ (dK _) (by omega),fw_N,n1,n2]
 simp[k1,k2]
theorem lk_err{n:Nat}(hn:1<=n/\n<=32){b:Nat->Int}{L:Int}(hb: ∀c,c<6*n*n->0<=b c/\b c<=1048576)(hL: -1000<L/\L<1000):lkE (n:Nat) (6*n*n) (fun c=>fw (b c)) (fw L)=0\/lkE (n:Nat) (6*n*n) (fun c=>fw (b c)) (fw L)=14:=by
 unfold lkE
 rw[if_neg (by omega),Int.toNat_natCast,if_neg (by omega),if_neg (by rw[Ss.fQ (fun i hi=>bB_fw (hb i hi))];omega),if_neg (by rw[lv_fw hL];decide)]
 by_cases q:0<=Ss.fp (bQ (Ss.lkW n (fun c=>fw (b c)) (fw L)) 0) (6*n*n)
 ·rw[if_pos q];exact .inr rfl
 ·rw[if_neg q];exact .inl rfl
end St
end
end Go.Proofs.YtaphajlpbgcfjaaGreatDoor
