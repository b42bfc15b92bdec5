/-
  Some of the texts of this proof, one behind the other.
-/
import Derived.Deep.RegionHeld3
import Derived.ProofKit
import Derived.OpenShut
import Derived.WalkLawsBesides
import Derived.Stop.Joined
import Derived.Carry
import Derived.Lib.SmallJoins
import Derived.Deep.SlicePairs
import Derived.Deep.Slices
import Derived.SizedLaws
import Derived.Test.YtagcbnflfaeahaaGreatDoorTie
import Derived.Test.YtagcbnflfaeahaaGreatDoorCards
import Derived.LaidMore
import Derived.Test.YtagcbnflfaeahaaGreatDoorRows
import Derived.Test.YtagcbnflfaeahaaGreatDoorSg10
set_option maxRecDepth 100000
set_option maxHeartbeats 400000000
namespace Go.Proofs.YtagcbnflfaeahaaGreatDoor
open _root_.Go.Proofs.Tryz
section
open Go.RowKit Tf Cu Go.Deep
attribute [local go_sem] aF aG aI aJ aK aL aM aC
namespace Sv
theorem enc_same{n N:Nat}{B B':Nat->Nat}{W W' T T':Nat->Int}{S S':Nat->Nat}{sky sky' st st':Int}(h:In64 N B W T S sky st)(h':In64 N B' W' T' S' sky' st'):
  (∀i,i<29+40*N->enc n N B W T S sky st i=enc n N B' W' T' S' sky' st' i) ↔ same4 N N N (2*N) B B' W W' T T' S S' sky sky' st st':=by
 constructor
 ·intro q
  obtain⟨d1,d2,d3,d4,d5,d6,_⟩:=hH h (b:=enc n N B W T S sky st) (fun _ _=>rfl)
  obtain⟨c1,c2,c3,c4,c5,c6,_⟩:=hH h' (b:=enc n N B W T S sky st) q
  exact⟨fun i hi=>(d3 i hi).symm.trans (c3 i hi),fun i hi=>(d6 i hi).symm.trans (c6 i hi),fun i hi=>(d4 i hi).symm.trans (c4 i hi),fun i hi=>(d5 i hi).symm.trans (c5 i hi),d2.symm.trans c2,d1.symm.trans c1⟩
 ·rintro⟨q1,q2,q3,q4,q5,q6⟩ i hi
  subst q5 q6
  have w: ∀j,j<2+5*N->wds N B W T S sky st j=wds N B' W' T' S' sky st j:=fun j hj=>by
   unfold wds
   split
   ·rfl
   ·split
    ·rfl
    ·split
     ·exact q1 _ (by omega)
     ·split
      ·rw[q3 _ (by omega)]
      ·split
       ·rw[q4 _ (by omega)]
       ·exact q2 _ (by omega)
  refine gF (n:=3+5*N) (fun j hj=> ?_) (by omega)
  unfold wdA
  split
  ·exact w j (by assumption)
  ·exact cX _ fun k hk=>gF w (by omega)
theorem rI(side:Int)(pb:Option Addr)(lb cb:Nat)(B:Nat->Nat)(pw:Option Addr)(lw cw:Nat)(W:Nat->Int)(pt:Option Addr)(lt ct:Nat)(T:Nat->Int)(ps:Option Addr)(ls cs:Nat)(S:Nat->Nat)(sky st:Int)(w:World)(i1:IsFl w pb lb B)(i2:Sh.IsI w pw lw W)(i3:Sh.IsI w pt lt T)(i4:IsFl w ps ls S):
  Calls prog 11 #[.int .i64 side,.agg #[.slice pb lb cb,.slice pw lw cw,.slice pt lt ct,.slice ps ls cs,.int .i64 sky,.int .i64 st]] w fun e w'=> ∃v,e=.returned (.tuple #[v,.int .i64 (Ss.chk side lb lw lt ls B W T S sky st).2])/\Ab w w':=by
 by_cases hc:(Ss.chk side lb lw lt ls B W T S sky st).2=0
 ·obtain⟨n,N,e0,hn,hN,hl,_⟩:=chk_0 hc
  rw[hc]
  exact(hU side pb lb cb B pw lw cw W pt lt ct T ps ls cs S sky st w i1 i2 i3 i4 n N _ _ e0 hc hn hN rfl rfl hl).mono fun e w' ⟨g,cp,q,a,_⟩=>⟨_,q,a⟩
 ·exact(enc_no side pb lb cb B pw lw cw W pt lt ct T ps ls cs S sky st w i1 i2 i3 i4 hc).mono fun e w' ⟨q,a⟩=>⟨_,q,a⟩
theorem kT(side:Int)(pb:Option Addr)(lb cb:Nat)(B:Nat->Nat)(pw:Option Addr)(lw cw:Nat)(W:Nat->Int)(pt:Option Addr)(lt ct:Nat)(T:Nat->Int)(ps:Option Addr)(ls cs:Nat)(S:Nat->Nat)(sky st:Int)(pb':Option Addr)(lb' cb':Nat)(B':Nat->Nat)(pw':Option Addr)(lw' cw':Nat)(W':Nat->Int)(pt':Option Addr)(lt' ct':Nat)(T':Nat->Int)(ps':Option Addr)(ls' cs':Nat)(S':Nat->Nat)(sky' st':Int)(w:World)(hF:Fr w)(i1:IsFl w pb lb B)(i2:Sh.IsI w pw lw W)(i3:Sh.IsI w pt lt T)(i4:IsFl w ps ls S)(i1':IsFl w pb' lb' B')(i2':Sh.IsI w pw' lw' W')(i3':Sh.IsI w pt' lt' T')(i4':IsFl w ps' ls' S')(hc:(Ss.chk side lb lw lt ls B W T S sky st).2≠0\/(Ss.chk side lb' lw' lt' ls' B' W' T' S' sky' st').2≠0):
  Calls prog 7 #[.int .i64 side,.agg #[.slice pb lb cb,.slice pw lw cw,.slice pt lt ct,.slice ps ls cs,.int .i64 sky,.int .i64 st],.agg #[.slice pb' lb' cb',.slice pw' lw' cw',.slice pt' lt' ct',.slice ps' ls' cs',.int .i64 sky',.int .i64 st']] w fun e w'=>e=.returned (.bool true)/\Ab w w':=by
 have CE:=hid (fun v (a:Ab w v)=>rI side pb lb cb B pw lw cw W pt lt ct T ps ls cs S sky st v (i1.below a) (i2.below a) (i3.below a) (i4.below a))
 have CE2:=hid (fun v (a:Ab w v)=>rI side pb' lb' cb' B' pw' lw' cw' W' pt' lt' ct' T' ps' ls' cs' S' sky' st' v (i1'.below a) (i2'.below a) (i3'.below a) (i4'.below a))
 obtain⟨x,hx⟩:=aB ((Ss.chk side lb lw lt ls B W T S sky st).2)
 obtain⟨y,hy⟩:=aB ((Ss.chk side lb' lw' lt' ls' B' W' T' S' sky' st').2)
 rw[hx]at CE hc
 rw[hy]at CE2 hc
 have HC:=hid hc
 clear hx hy hc i1 i2 i3 i4 i1' i2' i3' i4'
 have A0:=bF (bl2 w (.cells #[.slice pb lb cb,.slice pw lw cw,.slice pt lt ct,.slice ps ls cs,.int .i64 sky,.int .i64 st] 25) (.cells #[.slice pb' lb' cb',.slice pw' lw' cw',.slice pt' lt' ct',.slice ps' ls' cs',.int .i64 sky',.int .i64 st'] 25))
 have R0:Hid (((w.alloc (.cells #[.slice pb lb cb,.slice pw lw cw,.slice pt lt ct,.slice ps ls cs,.int .i64 sky,.int .i64 st] 25)).alloc (.cells #[.slice pb' lb' cb',.slice pw' lw' cw',.slice pt' lt' ct',.slice ps' ls' cs',.int .i64 sky',.int .i64 st'] 25)).heap[w.heap.size]? =some (.cells #[.slice pb lb cb,.slice pw lw cw,.slice pt lt ct,.slice ps ls cs,.int .i64 sky,.int .i64 st] 25)):=Ab.heap (bl1 _ _) (heap_alloc_new _ _)
 have Q0:Hid (((w.alloc (.cells #[.slice pb lb cb,.slice pw lw cw,.slice pt lt ct,.slice ps ls cs,.int .i64 sky,.int .i64 st] 25)).alloc (.cells #[.slice pb' lb' cb',.slice pw' lw' cw',.slice pt' lt' ct',.slice ps' ls' cs',.int .i64 sky',.int .i64 st'] 25)).heap[w.heap.size+1]? =some (.cells #[.slice pb' lb' cb',.slice pw' lw' cw',.slice pt' lt' ct',.slice ps' ls' cs',.int .i64 sky',.int .i64 st'] 25)):=by
  have q:=heap_alloc_new (w.alloc (.cells #[.slice pb lb cb,.slice pw lw cw,.slice pt lt ct,.slice ps ls cs,.int .i64 sky,.int .i64 st] 25)) (.cells #[.slice pb' lb' cb',.slice pw' lw' cw',.slice pt' lt' ct',.slice ps' ls' cs',.int .i64 sky',.int .i64 st'] 25)
  rw[bN]at q
  exact q
 have CL:=hid (jM ((w.alloc (.cells #[.slice pb lb cb,.slice pw lw cw,.slice pt lt ct,.slice ps ls cs,.int .i64 sky,.int .i64 st] 25)).alloc (.cells #[.slice pb' lb' cb',.slice pw' lw' cw',.slice pt' lt' ct',.slice ps' ls' cs',.int .i64 sky',.int .i64 st'] 25)) (hF.to A0.out))
 clear hF
 go_enter func7,ntmps7
 go_upto_region 1 with fail
 generalize hW:World.alloc (World.alloc w _) _=v0 at*
 obtain⟨ga,hga⟩:=aB w.heap.size
 obtain⟨gb,hgb⟩:=aB (w.heap.size+1)
 rw[hgb]at Q0 ⊢
 rw[hga]at R0 ⊢
 clear hW hga hgb
 go_wp2_with fail
 refine CL.out.mono ?_
 rintro e9 v1 ⟨rfl,b1⟩
 have A1:Hid (Ab w v1):=A0.out.trans b1
 have R1:=hid (Ab.heap b1 R0.out)
 have Q1:=hid (Ab.heap b1 Q0.out)
 clear b1 A0 R0 Q0 CL
 have y0:=aD R1.out
 go_wp2_with fail
 refine(CE.out v1 A1.out).mono ?_
 rintro e9 v2 ⟨u1,rfl,b2⟩
 have A2:Hid (Ab w v2):=A1.out.trans b2
 have Q2:=hid (Ab.heap b2 Q1.out)
 clear b2 A1 R1 Q1 CE y0
 have y0:=aD Q2.out
 go_wp2_with fail
 refine(CE2.out v2 A2.out).mono ?_
 rintro e9 v3 ⟨u2,rfl,b3⟩
 clear CE2 Q2 y0
 by_cases q:x=0
 ·have n2:(y != 0)=true:=by rcases HC.out with h | h;exact absurd q h;simpa using h
  subst q
  go_wp2
  go_ret
  exact⟨rfl,A2.out.trans b3⟩
 ·have n1:(x != 0)=true:=by simpa using q
  go_wp2
  go_ret
  exact⟨rfl,A2.out.trans b3⟩
theorem qA(n N M L:Nat)(pb:Option Addr)(cb:Nat)(B:Nat->Nat)(pw:Option Addr)(cw:Nat)(W:Nat->Int)(pt:Option Addr)(ct:Nat)(T:Nat->Int)(ps:Option Addr)(cs:Nat)(S:Nat->Nat)(sky st:Int)(pb':Option Addr)(cb':Nat)(B':Nat->Nat)(pw':Option Addr)(cw':Nat)(W':Nat->Int)(pt':Option Addr)(ct':Nat)(T':Nat->Int)(ps':Option Addr)(cs':Nat)(S':Nat->Nat)(sky' st':Int)(w:World)(hF:Fr w)(hs: -9223372036854775808<=sky/\sky<=9223372036854775807)(ht: -9223372036854775808<=st/\st<=9223372036854775807)(hs': -9223372036854775808<=sky'/\sky'<=9223372036854775807)(ht': -9223372036854775808<=st'/\st'<=9223372036854775807)(i1:IsFl w pb N B)(i2:Sh.IsI w pw N W)(i3:Sh.IsI w pt N T)(i4:IsFl w ps M S)(i1':IsFl w pb' N B')(i2':Sh.IsI w pw' N W')(i3':Sh.IsI w pt' N T')(i4':IsFl w ps' M S')(hn:1<=n/\n<=32)(hN:6*n*n=N)(hM:2*N=M)(hL:29+40*N=L)(hc:(Ss.chk (n:Nat) N N N M B W T S sky st).2=0)(hc':(Ss.chk (n:Nat) N N N M B' W' T' S' sky' st').2=0):
  Calls prog 7 #[.int .i64 (n:Nat),.agg #[.slice pb N cb,.slice pw N cw,.slice pt N ct,.slice ps M cs,.int .i64 sky,.int .i64 st],.agg #[.slice pb' N cb',.slice pw' N cw',.slice pt' N ct',.slice ps' M cs',.int .i64 sky',.int .i64 st']] w fun e w'=>e=.returned (.bool true)/\Ab w w':=by
 have CE:=hid (fun v (a:Ab w v)=>hU (n:Nat) pb N cb B pw N cw W pt N ct T ps M cs S sky st v (i1.below a) (i2.below a) (i3.below a) (i4.below a) n N M L rfl hc hn hN hM hL ⟨rfl,rfl,rfl,rfl⟩)
 have CE2:=hid (fun v (a:Ab w v)=>hU (n:Nat) pb' N cb' B' pw' N cw' W' pt' N ct' T' ps' M cs' S' sky' st' v (i1'.below a) (i2'.below a) (i3'.below a) (i4'.below a) n N M L rfl hc' hn hN hM hL ⟨rfl,rfl,rfl,rfl⟩)
 have NL:N<=6144:=by
  have q5:N<=192*32:=by rw[<- hN];exact Nat.mul_le_mul (by omega) (by omega)
  omega
 have ES:=enc_same (n:=n) (in_64 hs ht i1 i2 i3 (by rw[hM];exact i4)) (in_64 hs' ht' i1' i2' i3' (by rw[hM];exact i4'))
 rw[hL,hM]at ES
 obtain⟨r,hr⟩: ∃r:Bool,((Ti.str (enc n N B W T S sky st) L).toList==(Ti.str (enc n N B' W' T' S' sky' st') L).toList)=r:=⟨_,rfl⟩
 have RR:r=true ↔ same4 N N N M B B' W W' T T' S S' sky sky' st st':=by
  rw[<- hr,Ti.dV,Ti.dV,beq_iff_eq,Ti.pT (fun i _=>eL (by omega)) (fun i _=>eL (by omega)),<- ES]
  exact⟨fun q=>q.2,fun q=>⟨rfl,q⟩⟩
 have CS:=hid (fun v (a:Ab w v)=>seasQ_at N N N M pb cb B pw cw W pt ct T ps cs S sky st pb' cb' B' pw' cw' W' pt' ct' T' ps' cs' S' sky' st' v (by omega) (i1.below a) (i2.below a) (i3.below a) (i4.below a) (i1'.below a) (i2'.below a) (i3'.below a) (i4'.below a) r RR.2 (fun q=>by cases hq:r;rfl;exact absurd (RR.1 hq) q))
 have HN:=hid (show n<=32 from hn.2)
 clear i1 i2 i3 i4 i1' i2' i3' i4' hs ht hs' ht' hc hc' NL ES RR hn hN hM hL
 have A0:=bF (bl2 w (.cells #[.slice pb N cb,.slice pw N cw,.slice pt N ct,.slice ps M cs,.int .i64 sky,.int .i64 st] 25) (.cells #[.slice pb' N cb',.slice pw' N cw',.slice pt' N ct',.slice ps' M cs',.int .i64 sky',.int .i64 st'] 25))
 have R0:Hid (((w.alloc (.cells #[.slice pb N cb,.slice pw N cw,.slice pt N ct,.slice ps M cs,.int .i64 sky,.int .i64 st] 25)).alloc (.cells #[.slice pb' N cb',.slice pw' N cw',.slice pt' N ct',.slice ps' M cs',.int .i64 sky',.int .i64 st'] 25)).heap[w.heap.size]? =some (.cells #[.slice pb N cb,.slice pw N cw,.slice pt N ct,.slice ps M cs,.int .i64 sky,.int .i64 st] 25)):=Ab.heap (bl1 _ _) (heap_alloc_new _ _)
 have Q0:Hid (((w.alloc (.cells #[.slice pb N cb,.slice pw N cw,.slice pt N ct,.slice ps M cs,.int .i64 sky,.int .i64 st] 25)).alloc (.cells #[.slice pb' N cb',.slice pw' N cw',.slice pt' N ct',.slice ps' M cs',.int .i64 sky',.int .i64 st'] 25)).heap[w.heap.size+1]? =some (.cells #[.slice pb' N cb',.slice pw' N cw',.slice pt' N ct',.slice ps' M cs',.int .i64 sky',.int .i64 st'] 25)):=by
  have q:=heap_alloc_new (w.alloc (.cells #[.slice pb N cb,.slice pw N cw,.slice pt N ct,.slice ps M cs,.int .i64 sky,.int .i64 st] 25)) (.cells #[.slice pb' N cb',.slice pw' N cw',.slice pt' N ct',.slice ps' M cs',.int .i64 sky',.int .i64 st'] 25)
  rw[bN]at q
  exact q
 have CL:=hid (jM ((w.alloc (.cells #[.slice pb N cb,.slice pw N cw,.slice pt N ct,.slice ps M cs,.int .i64 sky,.int .i64 st] 25)).alloc (.cells #[.slice pb' N cb',.slice pw' N cw',.slice pt' N ct',.slice ps' M cs',.int .i64 sky',.int .i64 st'] 25)) (hF.to A0.out))
 clear hF
 go_enter func7,ntmps7
 go_upto_region 1 with fail
 generalize hW:World.alloc (World.alloc w _) _=v0 at*
 obtain⟨ga,hga⟩:=aB w.heap.size
 obtain⟨gb,hgb⟩:=aB (w.heap.size+1)
 rw[hgb]at Q0 ⊢
 rw[hga]at R0 ⊢
 clear hW hga hgb
 go_wp2_with fail
 refine CL.out.mono ?_
 rintro e9 v1 ⟨rfl,b1⟩
 have A1:Hid (Ab w v1):=A0.out.trans b1
 have R1:=hid (Ab.heap b1 R0.out)
 have Q1:=hid (Ab.heap b1 Q0.out)
 clear b1 A0 R0 Q0 CL
 have y0:=aD R1.out
 go_wp2_with fail
 refine(CE.out v1 A1.out).mono ?_
 rintro e9 v2 ⟨g1,cp1,rfl,b2,o2⟩
 have A2:Hid (Ab w v2):=A1.out.trans b2
 have R2:=hid (Ab.heap b2 R1.out)
 have Q2:=hid (Ab.heap b2 Q1.out)
 have O2:=hid (rH o2 (fun i=>eL (by have:=HN.out;omega)))
 clear b2 o2 A1 R1 Q1 CE y0
 have y0:=aD Q2.out
 go_wp2_with fail
 refine(CE2.out v2 A2.out).mono ?_
 rintro e9 v3 ⟨g2,cp2,rfl,b3,o3⟩
 have A3:Hid (Ab w v3):=A2.out.trans b3
 have R3:=hid (Ab.heap b3 R2.out)
 have Q3:=hid (Ab.heap b3 Q2.out)
 have O3:=hid (rH o3 (fun i=>eL (by have:=HN.out;omega)))
 have P3:=hid (O2.out.1.below b3)
 clear b3 o3 CE2 A2 R2 Q2 O2 y0
 go_upto_region 7 with fail
 have KS:Hid (∀v,Ab v3 v->(Ab v3 v/\v.cell? ⟨ga,0,none⟩=some (.slice pb N cb)/\v.cell? ⟨ga,1,none⟩=some (.slice pw N cw)/\v.cell? ⟨ga,2,none⟩=some (.slice pt N ct)/\v.cell? ⟨ga,3,none⟩=some (.slice ps M cs)/\v.cell? ⟨ga,4,none⟩=some (.int .i64 sky)/\v.cell? ⟨ga,5,none⟩=some (.int .i64 st)/\v.cell? ⟨gb,0,none⟩=some (.slice pb' N cb')/\v.cell? ⟨gb,1,none⟩=some (.slice pw' N cw')/\v.cell? ⟨gb,2,none⟩=some (.slice pt' N ct')/\v.cell? ⟨gb,3,none⟩=some (.slice ps' M cs')/\v.cell? ⟨gb,4,none⟩=some (.int .i64 sky')/\v.cell? ⟨gb,5,none⟩=some (.int .i64 st')/\(convert 30 9 (.slice (some ⟨g1,0,none⟩) L cp1)).run prog v=.ok (.string (Ti.str (enc n N B W T S sky st) L)) v/\(convert 30 9 (.slice (some ⟨g2,0,none⟩) L cp2)).run prog v=.ok (.string (Ti.str (enc n N B' W' T' S' sky' st') L)) v)):=fun v a=>by
  have r:=a.heap R3.out
  have t:=a.heap Q3.out
  exact⟨a,aA 0 r,aA 1 r,aA 2 r,aA 3 r,aA 4 r,aA 5 r,aA 0 t,aA 1 t,aA 2 t,aA 3 t,aA 4 t,aA 5 t,Ti.hP underlying30 underlying5 underlying9 (P3.out.below a) (fun e=>by cases e),Ti.hP underlying30 underlying5 underlying9 (O3.out.1.below a) (fun e=>by cases e)⟩
 have X0:Ab v3 v3:=Ab.refl v3
 have CS3:=hid (fun v (a:Ab v3 v)=>CS.out v (A3.out.trans a))
 have rr:(r==r)=true:=by simp
 clear CS
 go_region_held3 (fun v=>Ab v3 v/\v.cell? ⟨ga,0,none⟩=some (.slice pb N cb)/\v.cell? ⟨ga,1,none⟩=some (.slice pw N cw)/\v.cell? ⟨ga,2,none⟩=some (.slice pt N ct)/\v.cell? ⟨ga,3,none⟩=some (.slice ps M cs)/\v.cell? ⟨ga,4,none⟩=some (.int .i64 sky)/\v.cell? ⟨ga,5,none⟩=some (.int .i64 st)/\v.cell? ⟨gb,0,none⟩=some (.slice pb' N cb')/\v.cell? ⟨gb,1,none⟩=some (.slice pw' N cw')/\v.cell? ⟨gb,2,none⟩=some (.slice pt' N ct')/\v.cell? ⟨gb,3,none⟩=some (.slice ps' M cs')/\v.cell? ⟨gb,4,none⟩=some (.int .i64 sky')/\v.cell? ⟨gb,5,none⟩=some (.int .i64 st')/\(convert 30 9 (.slice (some ⟨g1,0,none⟩) L cp1)).run prog v=.ok (.string (Ti.str (enc n N B W T S sky st) L)) v/\(convert 30 9 (.slice (some ⟨g2,0,none⟩) L cp2)).run prog v=.ok (.string (Ti.str (enc n N B' W' T' S' sky' st') L)) v) ((refine KS.out _ ?_;(with_reducible (repeat(first | assumption | apply Ab.drew)));done)) (first
  | (go_at_call 13;refine(CS3.out _ (show Ab v3 _ by with_reducible (repeat(first | assumption | apply Ab.drew)))).mono ?_;rintro e9 z1 ⟨rfl,b9⟩;have az1:Ab v3 z1:=Ab.trans (show Ab v3 _ by with_reducible (repeat(first | assumption | apply Ab.drew))) b9))
 go_wp2
 go_ret
 exact⟨rfl,A3.out.trans az1⟩
theorem tC(side:Int)(pb:Option Addr)(lb cb:Nat)(B:Nat->Nat)(pw:Option Addr)(lw cw:Nat)(W:Nat->Int)(pt:Option Addr)(lt ct:Nat)(T:Nat->Int)(ps:Option Addr)(ls cs:Nat)(S:Nat->Nat)(sky st:Int)(pb':Option Addr)(lb' cb':Nat)(B':Nat->Nat)(pw':Option Addr)(lw' cw':Nat)(W':Nat->Int)(pt':Option Addr)(lt' ct':Nat)(T':Nat->Int)(ps':Option Addr)(ls' cs':Nat)(S':Nat->Nat)(sky' st':Int)(w:World)(hF:Fr w)(hs: -9223372036854775808<=sky/\sky<=9223372036854775807)(ht: -9223372036854775808<=st/\st<=9223372036854775807)(hs': -9223372036854775808<=sky'/\sky'<=9223372036854775807)(ht': -9223372036854775808<=st'/\st'<=9223372036854775807)(i1:IsFl w pb lb B)(i2:Sh.IsI w pw lw W)(i3:Sh.IsI w pt lt T)(i4:IsFl w ps ls S)(i1':IsFl w pb' lb' B')(i2':Sh.IsI w pw' lw' W')(i3':Sh.IsI w pt' lt' T')(i4':IsFl w ps' ls' S'):
  Calls prog 7 #[.int .i64 side,.agg #[.slice pb lb cb,.slice pw lw cw,.slice pt lt ct,.slice ps ls cs,.int .i64 sky,.int .i64 st],.agg #[.slice pb' lb' cb',.slice pw' lw' cw',.slice pt' lt' ct',.slice ps' ls' cs',.int .i64 sky',.int .i64 st']] w fun e w'=>e=.returned (.bool true)/\Below w.heap.size w w':=by
 by_cases hc:(Ss.chk side lb lw lt ls B W T S sky st).2=0
 ·by_cases hc':(Ss.chk side lb' lw' lt' ls' B' W' T' S' sky' st').2=0
  ·obtain⟨n,N,e0,hn,hN,⟨l1,l2,l3,l4⟩,_⟩:=chk_0 hc
   obtain⟨n',N',e0',hn',hN',⟨l1',l2',l3',l4'⟩,_⟩:=chk_0 hc'
   have en:n'=n:=by omega
   subst en
   have eN:N'=N:=by rw[<- hN,<- hN']
   subst eN
   subst e0
   have l1:=l1.symm
   have l2:=l2.symm
   have l3:=l3.symm
   have l4:=l4.symm
   have l1':=l1'.symm
   have l2':=l2'.symm
   have l3':=l3'.symm
   have l4':=l4'.symm
   subst l1 l2 l3 l4 l1' l2' l3' l4'
   exact qA n' N' (2*N') _ pb cb B pw cw W pt ct T ps cs S sky st pb' cb' B' pw' cw' W' pt' ct' T' ps' cs' S' sky' st' w hF hs ht hs' ht' i1 i2 i3 i4 i1' i2' i3' i4' hn' hN' rfl rfl hc hc'
  ·exact kT side pb lb cb B pw lw cw W pt lt ct T ps ls cs S sky st pb' lb' cb' B' pw' lw' cw' W' pt' lt' ct' T' ps' ls' cs' S' sky' st' w hF i1 i2 i3 i4 i1' i2' i3' i4' (.inr hc')
 ·exact kT side pb lb cb B pw lw cw W pt lt ct T ps ls cs S sky st pb' lb' cb' B' pw' lw' cw' W' pt' lt' ct' T' ps' ls' cs' S' sky' st' w hF i1 i2 i3 i4 i1' i2' i3' i4' (.inl hc)
end Sv
end
section
open Go.ChangeShapes Go.WideShapes Go.ChangeAt Go.WideMaps Go.WideElems Go.RowKit Go.Deep
theorem array6'{c:Array Value}(h:c.size=6): ∃v0 v1 v2 v3 v4 v5,c= #[v0,v1,v2,v3,v4,v5]:=by
 rcases c with⟨l⟩
 match l,h with
 | [v0,v1,v2,v3,v4,v5],_=>exact⟨v0,v1,v2,v3,v4,v5,rfl⟩
end
section
open Go.ChangeShapes Go.WideShapes Go.ChangeAt Go.WideMaps Go.WideElems Go.RowKit Go.Deep
namespace Sh
theorem trod_int{H:Type}{enc:TypeId × Value->H}{P:Program}{w:World}{base:Nat}{spare:Nat->Bool}{held:Bool}{t:TypeId}{fuel:Nat}{v:Value}{x:DataW H × List MemPlace}(ht:P.underlying t=some (.int .i64))(h:DataW.trod enc P w base spare held fuel t [v]=some x):
  ∃b,v=.int .i64 b/\(-9223372036854775808<=b/\b<=9223372036854775807):=by
 obtain⟨k,e,_,wf⟩:=DataW.trod_int ht h
 simp at e
 simp only[Lit.wf,Bool.and_eq_true,decide_eq_true_eq]at wf
 have q1:IntKind.i64.min= -9223372036854775808:=by decide
 have q2:IntKind.i64.max=9223372036854775807:=by decide
 rw[q1,q2]at wf
 exact⟨k,e,wf⟩
theorem qC{w:World}{a:Addr}{v:Value}(h:w.cell? a=some v):a.block<w.heap.size:=by
 by_cases c:a.block<w.heap.size
 ·exact c
 ·exfalso
  have:w.heap[a.block]? =none:=by simp;omega
  simp[World.cell?,this]at h
theorem mA{α:Type}{n:Nat}{R:Nat->α->Prop}(d:α)(h: ∀i,i<n-> ∃x,R i x): ∃f:Nat->α,∀i,i<n->R i (f i):=by
 have: ∀i,∃x,i<n->R i x:=fun i=>by
  by_cases c:i<n
  ·obtain⟨x,h1⟩:=h i c
   exact⟨x,fun _=>h1⟩
  ·exact⟨d,fun h=>absurd h c⟩
 exact⟨fun i=>(this i).choose,fun i hi=>(this i).choose_spec hi⟩
theorem kU{H:Type}{enc:TypeId × Value->H}{W:World}{cs:List Value}{fuel:Nat}{x:DataW H × List MemPlace}
  (hf:DataW.trod enc prog W 0 (fun _=>true) true fuel 23 cs=some x): ∃a0 len cap xs,cs=[.slice a0 len cap]/\IsI W a0 len xs/\len<=cap/\cap<=maxLen:=by
 rcases open_slice1 underlying23 (by kernel_rfl) hf with⟨hcs,_⟩ | ⟨a,l,c,m,n,V,D,Pl,hcs,_,hl,hm,hmm,_,hx⟩
 ·exact⟨none,0,0,fun _=>0,hcs,fun k hk=>by omega,Nat.le_refl _,Nat.zero_le _⟩
 ·simp only[if_true]at hmm
  have each: ∀i,i<l-> ∃x:Int,W.cell? (a.add i)=some (.int .i64 x)/\(-9223372036854775808<=x/\x<=9223372036854775807):=by
   intro i hi
   obtain⟨h1,h2⟩:=hx i (by omega)
   obtain⟨x,e,wx⟩:=trod_int underlying2 h2
   rw[e]at h1
   exact⟨x,h1,wx⟩
  obtain⟨f,hf⟩:=mA 0 each
  refine⟨some a,l,c,f,hcs,fun k hk=>⟨(hf k hk).2,?_⟩,hl,hm⟩
  have h0:=(hf k hk).1
  have z:=(hf 0 (by omega)).1
  obtain⟨b,off,spot⟩:=a
  have hspot:spot=none:=by simpa [Addr.add]using World.cell?_spot z
  subst hspot
  rw[hI]at h0
  exact⟨b,off,rfl,qC h0,h0⟩
end Sh
end
section
open Go.RowKit Go.Deep
namespace Sh
def W64(x:Int):Prop:= -9223372036854775808<=x/\x<=9223372036854775807
end Sh
end
section
open Go.ChangeShapes Go.WideShapes Go.ChangeAt Go.WideMaps Go.WideElems Go.RowKit Go.Deep
namespace Sv
theorem oQ:Tryz.prog.bytesOf 45=8:=by kernel_rfl
theorem oS:Tryz.prog.bytesOf 2=8:=by kernel_rfl
theorem cP{H:Type}{enc:TypeId × Value->H}{W:World}{T E:TypeId}{a0:Option Addr}{len0 cap0:Nat}{fuel:Nat}{x:DataW H × List MemPlace}(hu:Tryz.prog.underlying T=some (.slice E))(h1:Tryz.prog.cellsOf E=1)
  (hf:DataW.trod enc prog W 0 (fun _=>true) true fuel T [.slice a0 len0 cap0]=some x) (hs: ∀elems spare,x.1=.slice elems spare->(elems.length+spare.length)*8<=reachBytes):len0<=281474976710656:=by
 rcases Go.Deep.open_slice1 hu h1 hf with⟨hcs,_⟩ | ⟨a,l,c,m,n,V,D,Pl,hcs,_,hl,hm,hmm,hx,_⟩
 ·simp at hcs
  obtain⟨rfl,rfl,rfl⟩:=hcs
  exact Nat.zero_le _
 ·simp at hcs
  obtain⟨rfl,rfl,rfl⟩:=hcs
  simp only[if_true]at hmm
  subst hmm
  have:=hs _ _ (by rw[hx])
  simp only[List.length_map,List.length_range,reachBytes]at this
  omega
theorem kV{H:Type}{P:Program}{ts:List TypeId}{ds:List (DataW H)}(h:(DataW.weightsEach P ts ds).all (· <=reachBytes)=true){j:Nat}{t:TypeId}{fs:Array Field}{parts:List (DataW H)}(ht:ts[j]? =some t)(hd:ds[j]? =some (.agg parts))(hu:P.underlying t=some (.struct fs)):
  (DataW.weightsEach P (fs.toList.map (·.type)) parts).all (· <=reachBytes)=true:=by
 refine List.all_eq_true.2 (fun n hn=> ?_)
 exact List.all_eq_true.1 h _ (DataW.weights_mem_each ht hd n (by simpa [DataW.weights,hu]using hn))
theorem jN{H:Type}{enc:TypeId × Value->H}{W:World}{r:Reach}{b0:Nat}{v:Value}{d:DataW H}{p:List MemPlace}(hv:Value.okWide prog W r b0 25 v)(h:DataW.Trod enc prog W 0 (fun _=>true) true 25 v d p)
  (hz: ∀parts,d=.agg parts->(DataW.weightsEach prog [22,23,23,22,2,3] parts).all (· <=reachBytes)=true):
  ∃pb lb cb B pw lw cw Wt pt lt ct Tr ps ls cs Sp sky st,v=.agg #[.slice pb lb cb,.slice pw lw cw,.slice pt lt ct,.slice ps ls cs,.int .i64 sky,.int .i64 st]/\(IsFl W pb lb B/\Sh.IsI W pw lw Wt/\Sh.IsI W pt lt Tr/\IsFl W ps ls Sp)/\(lb<=281474976710656/\lw<=281474976710656/\lt<=281474976710656/\ls<=281474976710656)/\Sh.W64 sky/\Sh.W64 st:=by
 have hC:Tryz.prog.cellsOf 25=6:=by kernel_rfl
 have k0:Tryz.prog.cellsOf 22=1:=by kernel_rfl
 have k1:Tryz.prog.cellsOf 23=1:=by kernel_rfl
 have k2:Tryz.prog.cellsOf 2=1:=by kernel_rfl
 have k3:Tryz.prog.cellsOf 3=1:=by kernel_rfl
 obtain⟨cs,rfl,hsz⟩:=okWide_struct underlying25 hv
 obtain⟨v0,v1,v2,v3,v4,v5,rfl⟩:=array6' (hsz.trans hC)
 obtain⟨fuel,hf⟩:=h
 have hf':DataW.trod enc prog W 0 (fun _=>true) true fuel 25 [v0,v1,v2,v3,v4,v5]=some (d,p):=by simpa [Value.cells]using hf
 obtain⟨xs,m,_,hx,hlen,hn,hel⟩:=DataW.trod_struct underlying25 hf'
 match xs,hn with
 | [x0,x1,x2,x3,x4,x5],_=>
  have h0:=hel 0 _ rfl
  have h1:=hel 1 _ rfl
  have h2:=hel 2 _ rfl
  have h3:=hel 3 _ rfl
  have h4:=hel 4 _ rfl
  have h5:=hel 5 _ rfl
  simp[k0,k1,k2,k3]at h0 h1 h2 h3 h4 h5
  have hzz:=hz _ (congrArg Prod.fst hx)
  obtain⟨pb,lb,cb,B,e0,i0,-,-⟩:=kH h0
  obtain⟨pw,lw,cw,Wt,e1,i1,-,-⟩:=Sh.kU h1
  obtain⟨pt,lt,ct,Tr,e2,i2,-,-⟩:=Sh.kU h2
  obtain⟨ps,ls,cs,Sp,e3,i3,-,-⟩:=kH h3
  obtain⟨sky,e4,g4⟩:=Sh.trod_int underlying2 h4
  obtain⟨st,e5,g5⟩:=Sh.trod_int underlying3 h5
  simp at e0 e1 e2 e3
  subst e0 e1 e2 e3 e4 e5
  exact⟨pb,lb,cb,B,pw,lw,cw,Wt,pt,lt,ct,Tr,ps,ls,cs,Sp,sky,st,rfl,⟨i0,i1,i2,i3⟩,⟨cP underlying22 (by kernel_rfl) h0 (fun elems spare e=>by have q:=sized_slice hzz (j:=0) (t:=22) (e:=45) (elems:=elems) (spare:=spare) rfl (by rw[<- e];rfl) underlying22;rw[oQ]at q;exact q),cP underlying23 (by kernel_rfl) h1 (fun elems spare e=>by have q:=sized_slice hzz (j:=1) (t:=23) (e:=2) (elems:=elems) (spare:=spare) rfl (by rw[<- e];rfl) underlying23;rw[oS]at q;exact q),cP underlying23 (by kernel_rfl) h2 (fun elems spare e=>by have q:=sized_slice hzz (j:=2) (t:=23) (e:=2) (elems:=elems) (spare:=spare) rfl (by rw[<- e];rfl) underlying23;rw[oS]at q;exact q),cP underlying22 (by kernel_rfl) h3 (fun elems spare e=>by have q:=sized_slice hzz (j:=3) (t:=22) (e:=45) (elems:=elems) (spare:=spare) rfl (by rw[<- e];rfl) underlying22;rw[oQ]at q;exact q)⟩,g4,g5⟩
end Sv
end
section
open Go.ChangeShapes Go.WideShapes Go.ChangeAt Go.WideMaps Go.WideElems Go.RowKit Cu
theorem own:ownKnob Tryz.prog.godebug=none:=by kernel_rfl
theorem gFrames:Tryz.prog.globalNamed "tarn/cube.frames" =some 1:=by kernel_rfl
theorem tFrames:(Tryz.prog.globals[1]?).map (·.type)=some 117:=by kernel_rfl
theorem door_met(os:Os)(args:Array Value):laidMetH prog [("tarn/cube.frames",Rows.laid_tarn_cube_frames)] ((World.doorLaid prog 400 os).forCall (fun _ _=>0) ⟨#[],args,[]⟩).memory:=
 laidMetH_of_parts3 (fuel:=8) (laidMet_of_run' 8 (by kernel_rfl) (by kernel_rfl)) (by kernel_rfl) (by kernel_rfl)
theorem mJ{H:Type}{enc:TypeId × Value->H}{w:World}{base fuel:Nat}{spare:Nat->Bool}{held:Bool}{cs:List Value}{x:DataW H × List MemPlace}(h:DataW.trod enc prog w base spare held fuel 109 cs=some x)
  (a b c:Int) (e:x.1=.agg [.lit (.int .i64 a),.lit (.int .i64 b),.lit (.int .i64 c)]):cs=[.int .i64 a,.int .i64 b,.int .i64 c]:=by
 have k3:Tryz.prog.cellsOf 3=1:=by kernel_rfl
 have kp:Tryz.prog.cellsOf 109=3:=by kernel_rfl
 obtain⟨xs,m,_,hx,hlen,hn,hel⟩:=DataW.trod_array underlying109 h
 rw[hx]at e
 match xs,hn,cs,hlen.trans kp with
 | [x0,x1,x2],_,[c0,c1,c2],_=>
  have h0:=hel 0 (by decide)
  have h1:=hel 1 (by decide)
  have h2:=hel 2 (by decide)
  simp[k3]at h0 h1 h2
  obtain⟨n0,e0,f0,_⟩:=DataW.trod_int underlying3 h0
  obtain⟨n1,e1,f1,_⟩:=DataW.trod_int underlying3 h1
  obtain⟨n2,e2,f2,_⟩:=DataW.trod_int underlying3 h2
  simp at e0 e1 e2
  simp[f0,f1,f2]at e
  rw[e0,e1,e2,e.1,e.2.1,e.2.2]
theorem bT{H:Type}{enc:TypeId × Value->H}{w:World}{base fuel:Nat}{spare:Nat->Bool}{held:Bool}{cs:List Value}{x:DataW H × List MemPlace}(h:DataW.trod enc prog w base spare held fuel 116 cs=some x)
  (p q r:P3) (e:x.1=.agg [.agg [.lit (.int .i64 p.1),.lit (.int .i64 p.2.1),.lit (.int .i64 p.2.2)],.agg [.lit (.int .i64 q.1),.lit (.int .i64 q.2.1),.lit (.int .i64 q.2.2)],.agg [.lit (.int .i64 r.1),.lit (.int .i64 r.2.1),.lit (.int .i64 r.2.2)]]):
  cs=[.int .i64 p.1,.int .i64 p.2.1,.int .i64 p.2.2,.int .i64 q.1,.int .i64 q.2.1,.int .i64 q.2.2,.int .i64 r.1,.int .i64 r.2.1,.int .i64 r.2.2]:=by
 have kp:Tryz.prog.cellsOf 109=3:=by kernel_rfl
 have kf:Tryz.prog.cellsOf 116=9:=by kernel_rfl
 obtain⟨xs,m,_,hx,hlen,hn,hel⟩:=DataW.trod_struct underlying116 h
 rw[hx]at e
 match xs,hn,cs,hlen.trans kf with
 | [x0,x1,x2],_,[c0,c1,c2,c3,c4,c5,c6,c7,c8],_=>
  have h0:=hel 0 _ rfl
  have h1:=hel 1 _ rfl
  have h2:=hel 2 _ rfl
  simp[kp]at h0 h1 h2
  simp at e
  have e0:=mJ h0 _ _ _ e.1
  have e1:=mJ h1 _ _ _ e.2.1
  have e2:=mJ h2 _ _ _ e.2.2
  simp at e0 e1 e2
  simp[e0,e1,e2]
theorem qD{H:Type}{enc:TypeId × Value->H}{w:World}{base fuel:Nat}{spare:Nat->Bool}{held:Bool}{cs:List Value}{x:DataW H × List MemPlace}(h:DataW.trod enc prog w base spare held fuel 117 cs=some x)
  (e:x.1=Rows.laid_tarn_cube_frames): ∀f,f<6->(cs.drop (f*9)).take 9=[.int .i64 (cC f).1,.int .i64 (cC f).2.1,.int .i64 (cC f).2.2,.int .i64 (cR f).1,.int .i64 (cR f).2.1,.int .i64 (cR f).2.2,.int .i64 (cU f).1,.int .i64 (cU f).2.1,.int .i64 (cU f).2.2]:=by
 have kf:Tryz.prog.cellsOf 116=9:=by kernel_rfl
 obtain⟨xs,m,_,hx,hlen,hn,hel⟩:=DataW.trod_array underlying117 h
 rw[hx]at e
 intro f hf
 have h0:=hel f hf
 rw[kf]at h0
 match xs,hn with
 | [x0,x1,x2,x3,x4,x5],_=>
  simp only[List.map_cons,List.map_nil,Rows.laid_tarn_cube_frames,DataW.agg.injEq,List.cons.injEq]at e
  rcases six hf with rfl | rfl | rfl | rfl | rfl | rfl
  ·exact bT h0 (cC 0) (cR 0) (cU 0) e.1
  ·exact bT h0 (cC 1) (cR 1) (cU 1) e.2.1
  ·exact bT h0 (cC 2) (cR 2) (cU 2) e.2.2.1
  ·exact bT h0 (cC 3) (cR 3) (cU 3) e.2.2.2.1
  ·exact bT h0 (cC 4) (cR 4) (cU 4) e.2.2.2.2.1
  ·exact bT h0 (cC 5) (cR 5) (cU 5) e.2.2.2.2.2.1
theorem of_laid{W:World}(h:laidMetH prog [("tarn/cube.frames",Rows.laid_tarn_cube_frames)] W):Fr W:=by
 rw[MakeChecks.laidMetH_plain _ _ _ (by kernel_rfl)]at h
 obtain⟨ps,⟨g0,t0,cs0,f0,p0,q0,hg0,ht0,hv0,hd0,_⟩,_⟩:=h
 obtain rfl:=Option.some.inj (gFrames.symm.trans hg0)
 obtain rfl:=Option.some.inj (tFrames.symm.trans ht0)
 have T:=qD hd0 rfl
 have C:=World.var?_cell hg0 hv0
 have K: ∀f,f<6-> ∀k,k<9->W.cell? ⟨1,f*9+k,none⟩=((cs0.toList.drop (f*9)).take 9)[k]? :=by
  intro f hf k hk
  rw[C,List.getElem?_take,if_pos hk,List.getElem?_drop]
  simp
 have N: ∀f,f<6->Fr9 W f:=by
  intro f hf
  have K:=K f hf
  rw[T f hf]at K
  exact⟨⟨K 0 (by omega),K 1 (by omega),K 2 (by omega)⟩,⟨K 3 (by omega),K 4 (by omega),K 5 (by omega)⟩,⟨K 6 (by omega),K 7 (by omega),K 8 (by omega)⟩⟩
 refine⟨?_,N⟩
 have c0:=(N 0 (by omega)).1.1
 rcases Nat.lt_or_ge 1 W.heap.size with h1 | h1
 ·exact h1
 ·rw[World.cell?,Array.getElem?_eq_none h1]at c0;cases c0
end
end Go.Proofs.YtagcbnflfaeahaaGreatDoor
