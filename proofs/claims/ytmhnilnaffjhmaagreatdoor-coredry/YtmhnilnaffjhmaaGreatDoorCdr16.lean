/-
  Some of the texts of this proof, one behind the other.
-/
import Derived.Test.YtmhnilnaffjhmaaGreatDoorCdr15
set_option maxRecDepth 100000
set_option maxHeartbeats 400000000
namespace Go.Proofs.YtmhnilnaffjhmaaGreatDoor
open _root_.Go.Proofs.Tryz
section
open Go.RowKit Tf Cu Go.Deep
attribute [local go_sem] aJ aK aP aQ aR aV aX aD
namespace Co
open Ss Fc St
theorem Eu{w:World}{b gp:Nat}{t:TypeId}{c cs:Array Value}(h:w.heap[b]? =some (.cells c t))(hp:w.heap[gp]? =some (.cells cs 45))(ht:t≠45):b≠gp:=by
 rintro rfl
 rw[h]at hp
 injection hp with hp
 injection hp with _ hp
 exact ht hp
theorem iJ{w:World}{b gp n:Nat}{t:TypeId}{f:Nat->Value}{cs:Array Value}(h:w.rowIs b t n f)(hp:w.heap[gp]? =some (.cells cs 45))(ht:t≠45):b≠gp:=by
 obtain⟨c,h1,_⟩:=h
 exact Eu h1 hp ht
theorem Gh{n gb gp k:Nat}{v v0 v1:Value}{cs:List Value}{w:World}(hn:1<=n)(h:GridOf n gb w)(hp:w.heap[gp]? =some (.cells (v0 :: v1 :: cs).toArray 45))(h1: ∀i,v1≠ .int .i64 i):GridOf n gb (w.setCell ⟨gp,k,none⟩ v):=by
 obtain⟨mb,eb,cap,m,bb,ab,lb,pb,⟨g1,g2,g3,g4⟩,r1,r2,r3,r4⟩:=h
 have ne:gp≠eb:=by
  rintro rfl
  obtain⟨t1,t2,t3⟩:=bI (n:=n) (k:=0) hn (Nat.mul_pos (Nat.mul_pos (by omega) hn) hn)
  have y:=(g2.2 _ t1 t2).2.1
  rw[t3]at y
  have q:w.cell? ⟨gp,0*4+1,none⟩=some v1:=aA 1 hp
  rw[q]at y
  injection y with y
  exact h1 _ y
 have nb:gb≠gp:=Eu g1 hp (by decide)
 have nm:mb≠gp:=by
  rintro rfl
  obtain⟨D,⟨es,clock,hb,_⟩,_⟩:=g3
  rw[hb]at hp
  cases hp
 refine⟨mb,eb,cap,m,bb,ab,lb,pb,⟨by rw[aF nb];exact g1,g2.set ne,g3.block (by exact Below.heap_setCell _ _ _ _ nm),g4⟩,r1.setOther (iJ r1 hp (by decide)) _,r2.setOther (iJ r2 hp (by decide)) _,r3.setOther (iJ r3 hp (by decide)) _,r4.setOther (iJ r4 hp (by decide)) _⟩
theorem dry_no0(sd:Int)(dt gr dr:Nat)(lim:Int)(rv:Bool)(pr:Option Addr)(lr cr:Nat)(pb:Option Addr)(lb cb:Nat)(pw:Option Addr)(lw cw:Nat)(pt:Option Addr)(lt ct:Nat)(ps:Option Addr)(ls cs:Nat)(sky st:Int)(w:World)
  (LV:Hid (∀v,Ab w v->Calls prog 5 #[] v fun e w'=>e=.returned (.bool true)/\Below v.heap.size v w'))
  (NW:Hid (∀v,Ab w v->Calls prog 6 #[.int .i64 sd] v fun e w'=>e=.returned (.tuple #[.pointer none,.int .i64 10])/\Below v.heap.size v w')):
  Calls prog 4 #[.agg #[.int .i64 sd,.float .f64 dt,.float .f64 gr,.float .f64 dr,.int .i64 lim,.bool rv,.slice pr lr cr],.agg #[.slice pb lb cb,.slice pw lw cw,.slice pt lt ct,.slice ps ls cs,.int .i64 sky,.int .i64 st]] w fun e w'=>e=.returned (.bool true)/\Below w.heap.size w w':=by
 obtain⟨A0,R0,Q0⟩:=bZ w (.cells #[.int .i64 sd,.float .f64 dt,.float .f64 gr,.float .f64 dr,.int .i64 lim,.bool rv,.slice pr lr cr] 45) (.cells #[.slice pb lb cb,.slice pw lw cw,.slice pt lt ct,.slice ps ls cs,.int .i64 sky,.int .i64 st] 48)
 go_enter func4,ntmps4
 go_upto_region 1 with fail
 generalize hW:World.alloc (World.alloc w _) _=v0 at*
 obtain⟨ga,hga⟩:=aB w.heap.size
 obtain⟨gq,hgq⟩:=aB (w.heap.size+1)
 have HGQ:Hid (w.heap.size<=ga/\ga≠gq):=by show _/\_;omega
 rw[hgq]at Q0 ⊢
 rw[hga]at R0 ⊢
 clear hga hgq hW
 go_wp2_with fail
 refine(LV.out v0 A0.out).mono ?_
 rintro e9 v1 ⟨rfl,b1⟩
 have A1:Hid (Ab w v1):=A0.out.trans b1
 have R1:=hid (Ab.heap b1 R0.out)
 have Q1:=hid (Ab.heap b1 Q0.out)
 clear b1 A0 R0 Q0 LV
 have x6:=aA 6 R1.out
 have f6:=aE R1.out 6
 go_upto_region 4 with fail
 clear x6 f6
 have A2:Hid (Ab w (v1.setCell ⟨ga,6,none⟩ (.slice none 0 0))):=A1.out.setk HGQ.out.1 _
 have R2:Hid ((v1.setCell ⟨ga,6,none⟩ (.slice none 0 0)).heap[ga]? =some (.cells #[.int .i64 sd,.float .f64 dt,.float .f64 gr,.float .f64 dr,.int .i64 lim,.bool rv,.slice none 0 0] 45)):=by
  have h:=aI (v:=.slice none 0 0) (k:=6) R1.out
  exact hid (by simpa using h)
 have Q2:Hid ((v1.setCell ⟨ga,6,none⟩ (.slice none 0 0)).heap[gq]? =some (.cells #[.slice pb lb cb,.slice pw lw cw,.slice pt lt ct,.slice ps ls cs,.int .i64 sky,.int .i64 st] 48)):=(aF (Ne.symm HGQ.out.2)).trans Q1.out
 clear A1 R1 Q1
 generalize World.setCell v1 _ _=v2 at*
 obtain⟨x0,x1,x2,x3,x4,x5,x6⟩:=aL R2.out
 go_wp2_with fail
 refine(NW.out v2 A2.out).mono ?_
 rintro e9 v3 ⟨rfl,b3⟩
 go_wp2
 go_ret
 exact⟨rfl,A2.out.trans b3⟩
theorem dry_no1(n:Nat)(sd:Int)(dt gr dr:Nat)(lim:Int)(rv:Bool)(pr:Option Addr)(lr cr:Nat)(pb:Option Addr)(lb cb:Nat)(pw:Option Addr)(lw cw:Nat)(pt:Option Addr)(lt ct:Nat)(ps:Option Addr)(ls cs:Nat)(sky st:Int)(w:World)(er:Int)(h0:(er != 0)=true)
  (LV:Hid (∀v,Ab w v->Calls prog 5 #[] v fun e w'=>e=.returned (.bool true)/\Below v.heap.size v w'))
  (NW:Hid (∀v,Ab w v->Calls prog 6 #[.int .i64 sd] v fun e w'=> ∃gb,e=.returned (.tuple #[.pointer (some ⟨gb,0,none⟩),.int .i64 0])/\Below v.heap.size v w'/\GridOf n gb w'))
  (FL:Hid (∀v gb,Ab w v->GridOf n gb v->Calls prog 19 #[.pointer (some ⟨gb,0,none⟩),.agg #[.int .i64 sd,.float .f64 dt,.float .f64 gr,.float .f64 dr,.int .i64 lim,.bool rv,.slice none 0 0],.agg #[.slice pb lb cb,.slice pw lw cw,.slice pt lt ct,.slice ps ls cs,.int .i64 sky,.int .i64 st]] v fun e w'=>e=.returned (.tuple #[.agg #[.slice none 0 0,.slice none 0 0],.int .i64 er])/\Below v.heap.size v w')):
  Calls prog 4 #[.agg #[.int .i64 sd,.float .f64 dt,.float .f64 gr,.float .f64 dr,.int .i64 lim,.bool rv,.slice pr lr cr],.agg #[.slice pb lb cb,.slice pw lw cw,.slice pt lt ct,.slice ps ls cs,.int .i64 sky,.int .i64 st]] w fun e w'=>e=.returned (.bool true)/\Below w.heap.size w w':=by
 obtain⟨A0,R0,Q0⟩:=bZ w (.cells #[.int .i64 sd,.float .f64 dt,.float .f64 gr,.float .f64 dr,.int .i64 lim,.bool rv,.slice pr lr cr] 45) (.cells #[.slice pb lb cb,.slice pw lw cw,.slice pt lt ct,.slice ps ls cs,.int .i64 sky,.int .i64 st] 48)
 go_enter func4,ntmps4
 go_upto_region 1 with fail
 generalize hW:World.alloc (World.alloc w _) _=v0 at*
 obtain⟨ga,hga⟩:=aB w.heap.size
 obtain⟨gq,hgq⟩:=aB (w.heap.size+1)
 have HGQ:Hid (w.heap.size<=ga/\ga≠gq):=by show _/\_;omega
 rw[hgq]at Q0 ⊢
 rw[hga]at R0 ⊢
 clear hga hgq hW
 go_wp2_with fail
 refine(LV.out v0 A0.out).mono ?_
 rintro e9 v1 ⟨rfl,b1⟩
 have A1:Hid (Ab w v1):=A0.out.trans b1
 have R1:=hid (Ab.heap b1 R0.out)
 have Q1:=hid (Ab.heap b1 Q0.out)
 clear b1 A0 R0 Q0 LV
 have x6:=aA 6 R1.out
 have f6:=aE R1.out 6
 go_upto_region 4 with fail
 clear x6 f6
 have A2:Hid (Ab w (v1.setCell ⟨ga,6,none⟩ (.slice none 0 0))):=A1.out.setk HGQ.out.1 _
 have R2:Hid ((v1.setCell ⟨ga,6,none⟩ (.slice none 0 0)).heap[ga]? =some (.cells #[.int .i64 sd,.float .f64 dt,.float .f64 gr,.float .f64 dr,.int .i64 lim,.bool rv,.slice none 0 0] 45)):=by
  have h:=aI (v:=.slice none 0 0) (k:=6) R1.out
  exact hid (by simpa using h)
 have Q2:Hid ((v1.setCell ⟨ga,6,none⟩ (.slice none 0 0)).heap[gq]? =some (.cells #[.slice pb lb cb,.slice pw lw cw,.slice pt lt ct,.slice ps ls cs,.int .i64 sky,.int .i64 st] 48)):=(aF (Ne.symm HGQ.out.2)).trans Q1.out
 clear A1 R1 Q1
 generalize World.setCell v1 _ _=v2 at*
 obtain⟨x0,x1,x2,x3,x4,x5,x6⟩:=aL R2.out
 go_wp2_with fail
 refine(NW.out v2 A2.out).mono ?_
 rintro e9 v3 ⟨gb,rfl,b3,g3⟩
 have A3:Hid (Ab w v3):=A2.out.trans b3
 have R3:=hid (Ab.heap b3 R2.out)
 have Q3:=hid (Ab.heap b3 Q2.out)
 have G3:=hid g3
 clear b3 g3 A2 R2 Q2 x0 x1 x2 x3 x4 x5 x6
 obtain⟨x0,x1,x2,x3,x4,x5,x6⟩:=aL R3.out
 have y0:=aG Q3.out
 go_wp2_with fail
 refine(FL.out v3 gb A3.out G3.out).mono ?_
 rintro e9 u4 ⟨rfl,b4⟩
 have A4:Hid (Ab w (u4.alloc (.cells #[.slice none 0 0,.slice none 0 0] 50))):=(A3.out.trans b4).trans (bl1 _ _)
 have F4:=hid (heap_alloc_new u4 (.cells #[.slice none 0 0,.slice none 0 0] 50))
 clear b4 x0 x1 x2 x3 x4 x5 x6 y0
 go_upto_region 8 with fail
 generalize hW:World.alloc u4 _=v4 at*
 obtain⟨gf,hg⟩:=aB u4.heap.size
 rw[hg]at F4 ⊢
 clear hg hW
 have z0:=aA 0 F4.out
 go_wp2
 go_ret
 exact⟨rfl,A4.out⟩
theorem dry_go(n N M:Nat)(sd:Int)(dt gr dr:Nat)(lim:Int)(rv:Bool)(pr:Option Addr)(lr cr:Nat)(qb ob cb qw ow cw:Nat)(pt:Option Addr)(lt ct:Nat)(ps:Option Addr)(ls cs:Nat)(sky st:Int)(B:Nat->Nat)(W:Nat->Int)(H1 H2:Nat->Int)(F1:Nat->Nat)(F2 F3:Nat->Int)(F4:Nat->Nat)(sk1 st1:Int)(lc rc:Nat->Nat)(at_:Nat->Nat->Nat)(ar:Nat->Int)(w:World)(hn:1<=n)(hN:0<N/\N<=6144)(hM:0<M/\M<=12288)
  (LV:Hid (∀v,Ab w v->Calls prog 5 #[] v fun e w'=>e=.returned (.bool true)/\Below v.heap.size v w'))
  (NW:Hid (∀v,Ab w v->Calls prog 6 #[.int .i64 sd] v fun e w'=> ∃gb,e=.returned (.tuple #[.pointer (some ⟨gb,0,none⟩),.int .i64 0])/\Below v.heap.size v w'/\GridOf n gb w'))
  (FL:Hid (∀v gb,Ab w v->GridOf n gb v->Calls prog 19 #[.pointer (some ⟨gb,0,none⟩),.agg #[.int .i64 sd,.float .f64 dt,.float .f64 gr,.float .f64 dr,.int .i64 lim,.bool rv,.slice none 0 0],.agg #[.slice (some ⟨qb,ob,none⟩) N cb,.slice (some ⟨qw,ow,none⟩) N cw,.slice pt lt ct,.slice ps ls cs,.int .i64 sky,.int .i64 st]] v fun e w'=> ∃p1 c1 p2 c2,e=.returned (.tuple #[.agg #[.slice p1 M c1,.slice p2 M c2],.int .i64 0])/\Below v.heap.size v w'/\Sh.IsI w' p1 M H1/\Sh.IsI w' p2 M H2))
  (ON:Hid (∀v gb,Ab w v->GridOf n gb v->Calls prog 21 #[.pointer (some ⟨gb,0,none⟩),.agg #[.int .i64 sd,.float .f64 dt,.float .f64 gr,.float .f64 dr,.int .i64 lim,.bool false,.slice none 0 0],.agg #[.slice (some ⟨qb,ob,none⟩) N cb,.slice (some ⟨qw,ow,none⟩) N cw,.slice pt lt ct,.slice ps ls cs,.int .i64 sky,.int .i64 st]] v fun e w'=> ∃vv,e=.returned (.tuple #[vv,.int .i64 0])/\Below v.heap.size v w'/\OwnS v.heap.size vv N N N M F1 F2 F3 F4 sk1 st1 w'))
  (GE':Hid (∀v gb,GridOf n gb v->Calls prog 8 #[.pointer (some ⟨gb,0,none⟩)] v fun e w'=>e=.returned (.int .i64 (M:Nat))/\Below v.heap.size v w'))
  (ED:Hid (∀v gb (i:Nat),GridOf n gb v->i<M->Calls prog 10 #[.pointer (some ⟨gb,0,none⟩),.int .i64 (i:Nat)] v fun e w'=> ∃xa xc,e=.returned (.tuple #[.agg #[.int .i64 (lc i:Nat),.int .i64 xa,.int .i64 (rc i:Nat),.int .i64 xc],.bool true])/\Below v.heap.size v w'))
  (AO:Hid (∀v gb (c k:Nat),GridOf n gb v->c<N->k<4->Calls prog 11 #[.pointer (some ⟨gb,0,none⟩),.int .i64 (c:Nat),.int .i64 (k:Nat)] v fun e w'=> ∃xs,e=.returned (.tuple #[.int .i64 (at_ c k:Nat),.int .i64 xs])/\Below v.heap.size v w'))
  (AR:Hid (∀v gb (c:Nat),GridOf n gb v->c<N->Calls prog 17 #[.pointer (some ⟨gb,0,none⟩),.int .i64 (c:Nat)] v fun e w'=>e=.returned (.int .i64 (ar c))/\Below v.heap.size v w'))
  (FI:Hid (∀(x:Int) v,Calls prog 20 #[.int .i64 x] v fun e w'=>e=.returned (.float .f64 (fw x))/\Below v.heap.size v w'))
  (BF:Hid (Bnd N N N M F1 F2 F3 F4)) (LL:Hid (∀i,i<M->lc i<N/\rc i<N)) (AL:Hid (∀c k,c<N->k<4->at_ c k<M))
  (WU:Hid (∀i,i<M->0<H1 i->W (lc i)≠0/\ ∃d s,Ieee.double.div (fw (W (lc i))) (fw (ar (lc i)))=some d/\Ieee.double.add (B (lc i)) d=some s/\flt (B (rc i)) s=true))
  (WD:Hid (∀i,i<M->H1 i<0->W (rc i)≠0/\ ∃d s,Ieee.double.div (fw (W (rc i))) (fw (ar (rc i)))=some d/\Ieee.double.add (B (rc i)) d=some s/\flt (B (lc i)) s=true))
  (TS:Hid (∀i,i<M->(0<=H1 i->0<=H2 i)/\(H1 i<=0->H2 i<=0)))
  (DY:Hid (∀c,c<N->W c=0->(∀k,k<4->W (lc (at_ c k))=0/\W (rc (at_ c k))=0)->F2 c=0))
  (IB:Hid (IsFl w (some ⟨qb,ob,none⟩) N B)) (IW:Hid (Sh.IsI w (some ⟨qw,ow,none⟩) N W)):
  Calls prog 4 #[.agg #[.int .i64 sd,.float .f64 dt,.float .f64 gr,.float .f64 dr,.int .i64 lim,.bool rv,.slice pr lr cr],.agg #[.slice (some ⟨qb,ob,none⟩) N cb,.slice (some ⟨qw,ow,none⟩) N cw,.slice pt lt ct,.slice ps ls cs,.int .i64 sky,.int .i64 st]] w fun e w'=>e=.returned (.bool true)/\Below w.heap.size w w':=by
 have HB:=hid (And.intro hn (And.intro hN hM))
 clear hn hN hM
 obtain⟨A0,R0,Q0⟩:=bZ w (.cells #[.int .i64 sd,.float .f64 dt,.float .f64 gr,.float .f64 dr,.int .i64 lim,.bool rv,.slice pr lr cr] 45) (.cells #[.slice (some ⟨qb,ob,none⟩) N cb,.slice (some ⟨qw,ow,none⟩) N cw,.slice pt lt ct,.slice ps ls cs,.int .i64 sky,.int .i64 st] 48)
 go_enter func4,ntmps4
 go_upto_region 1 with fail
 generalize hW:World.alloc (World.alloc w _) _=v0 at*
 obtain⟨ga,hga⟩:=aB w.heap.size
 obtain⟨gq,hgq⟩:=aB (w.heap.size+1)
 have HGQ:Hid (w.heap.size<=ga/\ga≠gq):=by show _/\_;omega
 rw[hgq]at Q0 ⊢
 rw[hga]at R0 ⊢
 clear hga hgq hW
 go_wp2_with fail
 refine(LV.out v0 A0.out).mono ?_
 rintro e9 v1 ⟨rfl,b1⟩
 have A1:Hid (Ab w v1):=A0.out.trans b1
 have R1:=hid (Ab.heap b1 R0.out)
 have Q1:=hid (Ab.heap b1 Q0.out)
 clear b1 A0 R0 Q0 LV
 have x6:=aA 6 R1.out
 have f6:=aE R1.out 6
 go_upto_region 4 with fail
 clear x6 f6
 have A2:Hid (Ab w (v1.setCell ⟨ga,6,none⟩ (.slice none 0 0))):=A1.out.setk HGQ.out.1 _
 have R2:Hid ((v1.setCell ⟨ga,6,none⟩ (.slice none 0 0)).heap[ga]? =some (.cells #[.int .i64 sd,.float .f64 dt,.float .f64 gr,.float .f64 dr,.int .i64 lim,.bool rv,.slice none 0 0] 45)):=by
  have h:=aI (v:=.slice none 0 0) (k:=6) R1.out
  exact hid (by simpa using h)
 have Q2:Hid ((v1.setCell ⟨ga,6,none⟩ (.slice none 0 0)).heap[gq]? =some (.cells #[.slice (some ⟨qb,ob,none⟩) N cb,.slice (some ⟨qw,ow,none⟩) N cw,.slice pt lt ct,.slice ps ls cs,.int .i64 sky,.int .i64 st] 48)):=(aF (Ne.symm HGQ.out.2)).trans Q1.out
 clear A1 R1 Q1
 generalize World.setCell v1 _ _=v2 at*
 obtain⟨x0,x1,x2,x3,x4,x5,x6⟩:=aL R2.out
 go_wp2_with fail
 refine(NW.out v2 A2.out).mono ?_
 rintro e9 v3 ⟨gb,rfl,b3,g3⟩
 have A3:Hid (Ab w v3):=A2.out.trans b3
 have R3:=hid (Ab.heap b3 R2.out)
 have Q3:=hid (Ab.heap b3 Q2.out)
 have G3:=hid g3
 clear b3 g3 A2 R2 Q2 NW x0 x1 x2 x3 x4 x5 x6
 obtain⟨x0,x1,x2,x3,x4,x5,x6⟩:=aL R3.out
 obtain⟨y0,y1,y2,y3,y4,y5⟩:=aG Q3.out
 go_wp2_with fail
 refine(FL.out v3 gb A3.out G3.out).mono ?_
 rintro e9 u4 ⟨p1,c1,p2,c2,rfl,b4,i1,i2⟩
 obtain⟨f1,o1,rfl⟩:=Sh.IsI.some0 i1 HB.out.2.2.1
 obtain⟨f2,o2,rfl⟩:=Sh.IsI.some0 i2 HB.out.2.2.1
 have BB:Hid (Ab v3 (u4.alloc (.cells #[.slice (some ⟨f1,o1,none⟩) M c1,.slice (some ⟨f2,o2,none⟩) M c2] 50))):=(show Ab v3 u4 from b4).trans (bl1 _ _)
 have F4':=hid (heap_alloc_new u4 (.cells #[.slice (some ⟨f1,o1,none⟩) M c1,.slice (some ⟨f2,o2,none⟩) M c2] 50))
 have J1:=hid (i1.below (bl1 u4 (.cells #[.slice (some ⟨f1,o1,none⟩) M c1,.slice (some ⟨f2,o2,none⟩) M c2] 50)))
 have J2:=hid (i2.below (bl1 u4 (.cells #[.slice (some ⟨f1,o1,none⟩) M c1,.slice (some ⟨f2,o2,none⟩) M c2] 50)))
 clear b4 i1 i2 FL x0 x1 x2 x3 x4 x5 x6 y0 y1 y2 y3 y4 y5
 go_upto_region 8 with fail
 generalize hW:World.alloc u4 _=v4 at*
 obtain⟨gf,hg⟩:=aB u4.heap.size
 rw[hg]at F4' ⊢
 clear hg hW
 have A4:Hid (Ab w v4):=A3.out.trans BB.out
 have R4:=hid (Ab.heap BB.out R3.out)
 have Q4:=hid (Ab.heap BB.out Q3.out)
 have G4:=hid (G3.out.to BB.out)
 have LG:Hid (ga<v4.heap.size):=Rv.bK R4.out
 clear BB A3 R3 Q3 G3
 have CE:=hid (fun v (a:Ab v4 v)=>GE'.out v gb (G4.out.to a))
 have nm:((M:Int) != (M:Int))=false:=by simp
 go_upto_region 10 with fail
 obtain⟨UU,E,hF1,hF2⟩:=cls v4
 have HU:=hid hF2
 have HU1:=hid hF1
 have y0: ∀u,(E u).cell? ⟨gf,0,none⟩=some (.slice (some ⟨f1,o1,none⟩) M c1):=fun u=>aA 0 (Ab.heap (hF1 u) F4'.out)
 have y1: ∀u,(E u).cell? ⟨gf,1,none⟩=some (.slice (some ⟨f2,o2,none⟩) M c2):=fun u=>aA 1 (Ab.heap (hF1 u) F4'.out)
 have DD0:=HU.out _ (Ab.refl v4).drew
 clear hF1 hF2
 refine aM E (by kernel_rfl) (by kernel_rfl) DD0 ?_
 repeat(go_big_quiet_step (first | (go_at_call 8;exact aH HU HU1 (CE.out _ (HU1.out _))) | (with_reducible rfl)))
 refine wpQuiet_nil ?_
 intro z4 hwz
 obtain⟨u0,hu⟩:=hwz
 have AZ:Hid (Ab v4 z4):=by rw[hu];exact HU1.out u0
 clear hu u0
 clear HU HU1 DD0 y0 y1
 clear E UU
 have y0:=aA 0 (Ab.heap AZ.out F4'.out)
 go_wp2_with fail
 clear y0 nm CE
 go_loopw [63] (fun iv wr=> ∃c:Nat,c<=M/\iv=.int .i64 (c:Nat)/\Ab v4 wr) (fun iv _=>M - (intOf iv).toNat)
 case atStart=>exact⟨0,by omega,rfl,AZ.out⟩
 case round=>
  obtain⟨c,hc,rfl,ar'⟩:=hrel
  have AR':=hid ar'
  clear ar' AZ
  by_cases hcn:c<M
  ·have HC:=hid hcn
   have cI:(c:Int)<M:=by omega
   have cB:(c:Int)<=12288:=by have:=HB.out.2.2.2;omega
   have dN:decide (c<M)=true:=decide_eq_true hcn
   have CE:=hid (ED.out wr gb c (G4.out.to AR'.out) hcn)
   have ll:=LL.out c hcn
   have wu:=WU.out c hcn
   have wd:=WD.out c hcn
   have ts:=TS.out c hcn
   have j1:=((J1.out.below AR'.out).at0 hcn).2.2
   have XH:Hid (∀v,Ab wr v->v.cell? ⟨f2,o2+c,none⟩=some (.int .i64 (H2 c))):=fun v a=>((J2.out.below (AR'.out.trans a)).at0 hcn).2.2
   obtain⟨x,hx⟩:=aB (H1 c)
   obtain⟨y,hy⟩:=aB (H2 c)
   obtain⟨l,hl⟩:=aB (lc c)
   obtain⟨r,hr⟩:=aB (rc c)
   rw[hx]at wu wd ts j1
   rw[hy]at XH ts
   rw[hl,hr]at CE ll wu wd
   have WUh:=hid wu
   have WDh:=hid wd
   have TSh:=hid ts
   have LLh:=hid ll
   clear hx hy hl hr wu wd ts ll hcn hc
   go_wp2_with fail
   refine CE.out.mono ?_
   rintro e9 u5 ⟨xa,xc,rfl,b5⟩
   have k5:Ab wr (u5.alloc (.cells #[.int .i64 (l:Nat),.int .i64 xa,.int .i64 (r:Nat),.int .i64 xc] 30)):=(show Ab wr u5 from b5).trans (bl1 _ _)
   have E5:=hid (heap_alloc_new u5 (.cells #[.int .i64 (l:Nat),.int .i64 xa,.int .i64 (r:Nat),.int .i64 xc] 30))
   have A5:Hid (Ab v4 (u5.alloc (.cells #[.int .i64 (l:Nat),.int .i64 xa,.int .i64 (r:Nat),.int .i64 xc] 30))):=AR'.out.trans k5
   have X5:Hid (∀v,Ab (u5.alloc (.cells #[.int .i64 (l:Nat),.int .i64 xa,.int .i64 (r:Nat),.int .i64 xc] 30)) v->v.cell? ⟨f2,o2+c,none⟩=some (.int .i64 y)):=fun v a=>XH.out v (k5.trans a)
   clear b5 k5 CE XH j1 AR'
   go_upto_region 16 with fail
   generalize hW:World.alloc u5 _=v5 at*
   obtain⟨ge,hg⟩:=aB u5.heap.size
   rw[hg]at E5 ⊢
   clear hg hW
   go_upto_region 16 with fail
   obtain⟨UU,E,hF1,hF2⟩:=cls v5
   have HU:=hid hF2
   have HU1:=hid hF1
   have x0: ∀u,(E u).cell? ⟨ge,0,none⟩=some (.int .i64 (l:Nat)):=fun u=>aA 0 (Ab.heap (hF1 u) E5.out)
   have x2: ∀u,(E u).cell? ⟨ge,2,none⟩=some (.int .i64 (r:Nat)):=fun u=>aA 2 (Ab.heap (hF1 u) E5.out)
   have DD0:=HU.out _ (Ab.refl v5).drew
   clear hF1 hF2
   refine aM E (by kernel_rfl) (by kernel_rfl) DD0 ?_
   repeat(go_big_quiet_step (with_reducible rfl))
   refine wpQuiet_nil ?_
   intro z5 hwz
   obtain⟨u0,hu⟩:=hwz
   have AZ:Hid (Ab v5 z5):=by rw[hu];exact HU1.out u0
   clear hu u0
   clear HU HU1 DD0 x0 x2
   clear E UU
   have A6:Hid (Ab v4 z5):=A5.out.trans AZ.out
   have X6:Hid (∀v,Ab z5 v->v.cell? ⟨f2,o2+c,none⟩=some (.int .i64 y)):=fun v a=>X5.out v (AZ.out.trans a)
   have lI:(l:Int)<N:=by have:=LLh.out.1;omega
   have rI:(r:Int)<N:=by have:=LLh.out.2;omega
   have nB:(N:Int)<=6144:=by have:=HB.out.2.1.2;omega
   clear A5 X5 E5 AZ v5
   by_cases hx0:x=0
   ·subst hx0
    go_upto_region 19 with fail
    obtain⟨UU,E,hF1,hF2⟩:=cls z5
    have HU:=hid hF2
    have HU1:=hid hF1
    have DD0:=HU.out _ (Ab.refl z5).drew
    clear hF1 hF2
    refine aM E (by kernel_rfl) (by kernel_rfl) DD0 ?_
    repeat(go_big_quiet_step (with_reducible rfl))
    refine wpQuiet_nil ?_
    intro z6 hwz
    obtain⟨u0,hu⟩:=hwz
    have AZ:Hid (Ab z5 z6):=by rw[hu];exact HU1.out u0
    clear hu u0
    clear HU HU1 DD0
    clear E UU
    have q1:=aA 1 (Ab.heap (A6.out.trans AZ.out) F4'.out)
    have q2:=X6.out z6 AZ.out
    by_cases hy:y=0
    ·have e1:(y != 0)=false:=by rw[hy];rfl
     clear hy
     go_wp2
     exact⟨⟨c+1,by have:=HC.out;omega,by simp,A6.out.trans AZ.out⟩,by have:=HC.out;simp[intOf];omega⟩
    ·exact absurd (show y=0 by have:=TSh.out;omega) hy
   ·have xe:(x != 0)=true:=by simpa using hx0
    by_cases xp:0<x
    ·have xn:decide (x<0)=false:=decide_eq_false (by omega)
     obtain⟨w0,d,s_,hd_,hs_,hf_⟩:=WUh.out (by omega)
     obtain⟨xw,hxw⟩:=aB (W l)
     obtain⟨xa_,hxa⟩:=aB (ar l)
     obtain⟨bf,hbf⟩:=aB (B l)
     obtain⟨bt,hbt⟩:=aB (B r)
     obtain⟨fa,hfa⟩:=aB (fw xw)
     obtain⟨fb,hfb⟩:=aB (fw xa_)
     rw[hxw]at w0 hd_
     rw[hxa]at hd_
     rw[hbf]at hs_
     rw[hbt]at hf_
     rw[hfa,hfb]at hd_
     have rq: ∀(t:TypeId) (w:World),(binOp .quo t (.float .f64 fa) (.float .f64 fb)).run prog w=.ok (.float .f64 d) w:=fun t w=>run_float_arith w .quo t .f64 _ _ _ hd_
     have rs: ∀(t:TypeId) (w:World),(binOp .add t (.float .f64 bf) (.float .f64 d)).run prog w=.ok (.float .f64 s_) w:=fun t w=>run_float_arith w .add t .f64 _ _ _ hs_
     have we:(xw==0)=false:=by simpa using w0
     have KF:Hid (∀v,Calls prog 20 #[.int .i64 xw] v fun e w'=>e=.returned (.float .f64 fa)/\Below v.heap.size v w'):=fun v=>by rw[<- hfa];exact FI.out xw v
     have KG:Hid (∀v,Calls prog 20 #[.int .i64 xa_] v fun e w'=>e=.returned (.float .f64 fb)/\Below v.heap.size v w'):=fun v=>by rw[<- hfb];exact FI.out xa_ v
     have KA:Hid (∀v,Ab z5 v->Calls prog 17 #[.pointer (some ⟨gb,0,none⟩),.int .i64 (l:Nat)] v fun e w'=>e=.returned (.int .i64 xa_)/\Below v.heap.size v w'):=fun v a=>by rw[<- hxa];exact AR.out v gb l (G4.out.to (A6.out.trans a)) LLh.out.1
     have CW:Hid (∀v,Ab z5 v->v.cell? ⟨qw,ow+l,none⟩=some (.int .i64 xw)):=fun v a=>by rw[<- hxw];exact((IW.out.below (A4.out.trans (A6.out.trans a))).at0 LLh.out.1).2.2
     have CB:Hid (∀v,Ab z5 v->v.cell? ⟨qb,ob+l,none⟩=some (.float .f64 bf)):=fun v a=>by rw[<- hbf];exact((IB.out.below (A4.out.trans (A6.out.trans a))).at0 LLh.out.1).2.2
     have CT:Hid (∀v,Ab z5 v->v.cell? ⟨qb,ob+r,none⟩=some (.float .f64 bt)):=fun v a=>by rw[<- hbt];exact((IB.out.below (A4.out.trans (A6.out.trans a))).at0 LLh.out.2).2.2
     clear hxw hxa hbf hbt hfa hfb hd_ hs_ w0
     go_upto_region 19 with fail
     obtain⟨UU,E,hF1,hF2⟩:=cls z5
     have HU:=hid hF2
     have HU1:=hid hF1
     have x0: ∀u,(E u).cell? ⟨gq,0,none⟩=some (.slice (some ⟨qb,ob,none⟩) N cb):=fun u=>aA 0 (Ab.heap (A6.out.trans (hF1 u)) Q4.out)
     have x1: ∀u,(E u).cell? ⟨gq,1,none⟩=some (.slice (some ⟨qw,ow,none⟩) N cw):=fun u=>aA 1 (Ab.heap (A6.out.trans (hF1 u)) Q4.out)
     have x2: ∀u,(E u).cell? ⟨qw,ow+l,none⟩=some (.int .i64 xw):=fun u=>CW.out _ (hF1 u)
     have x3: ∀u,(E u).cell? ⟨qb,ob+l,none⟩=some (.float .f64 bf):=fun u=>CB.out _ (hF1 u)
     have x4: ∀u,(E u).cell? ⟨qb,ob+r,none⟩=some (.float .f64 bt):=fun u=>CT.out _ (hF1 u)
     have DD0:=HU.out _ (Ab.refl z5).drew
     clear hF1 hF2
     refine aM E (by kernel_rfl) (by kernel_rfl) DD0 ?_
     repeat(go_big_quiet_step (first | (go_at_call_of 20 (Value.int IntKind.i64 xw);exact aH HU HU1 (KF.out _)) | (go_at_call_of 20 (Value.int IntKind.i64 xa_);exact aH HU HU1 (KG.out _)) | (go_at_call 17;exact aH HU HU1 (KA.out _ (HU1.out _))) | (with_reducible rfl)))
     refine wpQuiet_nil ?_
     intro z6 hwz
     obtain⟨u0,hu⟩:=hwz
     have AZ:Hid (Ab z5 z6):=by rw[hu];exact HU1.out u0
     clear hu u0
     clear HU HU1 DD0 x0 x1 x2 x3 x4
     clear E UU
     clear KF KG KA CW CB CT rq rs we
     have q1:=aA 1 (Ab.heap (A6.out.trans AZ.out) F4'.out)
     have q2:=X6.out z6 AZ.out
     by_cases hy:y=0
     ·have e1:(y != 0)=false:=by rw[hy];rfl
      clear hy
      go_wp2
      exact⟨⟨c+1,by have:=HC.out;omega,by simp,A6.out.trans AZ.out⟩,by have:=HC.out;simp[intOf];omega⟩
     ·have e1:(y != 0)=true:=by simpa using hy
      have e2:decide (y<0)=false:=decide_eq_false (by have:=TSh.out;omega)
      clear hy
      go_wp2
      exact⟨⟨c+1,by have:=HC.out;omega,by simp,A6.out.trans AZ.out⟩,by have:=HC.out;simp[intOf];omega⟩
    ·have xn:decide (x<0)=true:=decide_eq_true (by omega)
     have xl:x<0:=by omega
     obtain⟨w0,d,s_,hd_,hs_,hf_⟩:=WDh.out (by omega)
     obtain⟨xw,hxw⟩:=aB (W r)
     obtain⟨xa_,hxa⟩:=aB (ar r)
     obtain⟨bf,hbf⟩:=aB (B r)
     obtain⟨bt,hbt⟩:=aB (B l)
     obtain⟨fa,hfa⟩:=aB (fw xw)
     obtain⟨fb,hfb⟩:=aB (fw xa_)
     rw[hxw]at w0 hd_
     rw[hxa]at hd_
     rw[hbf]at hs_
     rw[hbt]at hf_
     rw[hfa,hfb]at hd_
     have rq: ∀(t:TypeId) (w:World),(binOp .quo t (.float .f64 fa) (.float .f64 fb)).run prog w=.ok (.float .f64 d) w:=fun t w=>run_float_arith w .quo t .f64 _ _ _ hd_
     have rs: ∀(t:TypeId) (w:World),(binOp .add t (.float .f64 bf) (.float .f64 d)).run prog w=.ok (.float .f64 s_) w:=fun t w=>run_float_arith w .add t .f64 _ _ _ hs_
     have we:(xw==0)=false:=by simpa using w0
     have KF:Hid (∀v,Calls prog 20 #[.int .i64 xw] v fun e w'=>e=.returned (.float .f64 fa)/\Below v.heap.size v w'):=fun v=>by rw[<- hfa];exact FI.out xw v
     have KG:Hid (∀v,Calls prog 20 #[.int .i64 xa_] v fun e w'=>e=.returned (.float .f64 fb)/\Below v.heap.size v w'):=fun v=>by rw[<- hfb];exact FI.out xa_ v
     have KA:Hid (∀v,Ab z5 v->Calls prog 17 #[.pointer (some ⟨gb,0,none⟩),.int .i64 (r:Nat)] v fun e w'=>e=.returned (.int .i64 xa_)/\Below v.heap.size v w'):=fun v a=>by rw[<- hxa];exact AR.out v gb r (G4.out.to (A6.out.trans a)) LLh.out.2
     have CW:Hid (∀v,Ab z5 v->v.cell? ⟨qw,ow+r,none⟩=some (.int .i64 xw)):=fun v a=>by rw[<- hxw];exact((IW.out.below (A4.out.trans (A6.out.trans a))).at0 LLh.out.2).2.2
     have CB:Hid (∀v,Ab z5 v->v.cell? ⟨qb,ob+r,none⟩=some (.float .f64 bf)):=fun v a=>by rw[<- hbf];exact((IB.out.below (A4.out.trans (A6.out.trans a))).at0 LLh.out.2).2.2
     have CT:Hid (∀v,Ab z5 v->v.cell? ⟨qb,ob+l,none⟩=some (.float .f64 bt)):=fun v a=>by rw[<- hbt];exact((IB.out.below (A4.out.trans (A6.out.trans a))).at0 LLh.out.1).2.2
     clear hxw hxa hbf hbt hfa hfb hd_ hs_ w0
     go_upto_region 19 with fail
     obtain⟨UU,E,hF1,hF2⟩:=cls z5
     have HU:=hid hF2
     have HU1:=hid hF1
     have x0: ∀u,(E u).cell? ⟨gq,0,none⟩=some (.slice (some ⟨qb,ob,none⟩) N cb):=fun u=>aA 0 (Ab.heap (A6.out.trans (hF1 u)) Q4.out)
     have x1: ∀u,(E u).cell? ⟨gq,1,none⟩=some (.slice (some ⟨qw,ow,none⟩) N cw):=fun u=>aA 1 (Ab.heap (A6.out.trans (hF1 u)) Q4.out)
     have x2: ∀u,(E u).cell? ⟨qw,ow+r,none⟩=some (.int .i64 xw):=fun u=>CW.out _ (hF1 u)
     have x3: ∀u,(E u).cell? ⟨qb,ob+r,none⟩=some (.float .f64 bf):=fun u=>CB.out _ (hF1 u)
     have x4: ∀u,(E u).cell? ⟨qb,ob+l,none⟩=some (.float .f64 bt):=fun u=>CT.out _ (hF1 u)
     have DD0:=HU.out _ (Ab.refl z5).drew
     clear hF1 hF2
     refine aM E (by kernel_rfl) (by kernel_rfl) DD0 ?_
     repeat(go_big_quiet_step (first | (go_at_call_of 20 (Value.int IntKind.i64 xw);exact aH HU HU1 (KF.out _)) | (go_at_call_of 20 (Value.int IntKind.i64 xa_);exact aH HU HU1 (KG.out _)) | (go_at_call 17;exact aH HU HU1 (KA.out _ (HU1.out _))) | (with_reducible rfl)))
     refine wpQuiet_nil ?_
     intro z6 hwz
     obtain⟨u0,hu⟩:=hwz
     have AZ:Hid (Ab z5 z6):=by rw[hu];exact HU1.out u0
     clear hu u0
     clear HU HU1 DD0 x0 x1 x2 x3 x4
     clear E UU
     clear KF KG KA CW CB CT rq rs we
     have q1:=aA 1 (Ab.heap (A6.out.trans AZ.out) F4'.out)
     have q2:=X6.out z6 AZ.out
     by_cases hy:y=0
     ·have e1:(y != 0)=false:=by rw[hy];rfl
      clear hy
      go_wp2
      exact⟨⟨c+1,by have:=HC.out;omega,by simp,A6.out.trans AZ.out⟩,by have:=HC.out;simp[intOf];omega⟩
     ·have e1:(y != 0)=true:=by simpa using hy
      have e2:decide (y<0)=true:=decide_eq_true (by have:=TSh.out;omega)
      clear hy
      go_wp2
      exact⟨⟨c+1,by have:=HC.out;omega,by simp,A6.out.trans AZ.out⟩,by have:=HC.out;simp[intOf];omega⟩
  ·have e6:M=c:=by omega
   subst e6
   clear hcn hc
   have R5:=hid (Ab.heap AR'.out R4.out)
   have Q5:=hid (Ab.heap AR'.out Q4.out)
   have x5:=aA 5 R5.out
   have f5:=aE R5.out 5
   go_upto_region 25 with fail
   clear x5 f5
   have A7:Hid (Ab w (wr.setCell ⟨ga,5,none⟩ (.bool false))):=(A4.out.trans AR'.out).setk HGQ.out.1 _
   have R7:Hid ((wr.setCell ⟨ga,5,none⟩ (.bool false)).heap[ga]? =some (.cells #[.int .i64 sd,.float .f64 dt,.float .f64 gr,.float .f64 dr,.int .i64 lim,.bool false,.slice none 0 0] 45)):=by
    have h:=aI (v:=.bool false) (k:=5) R5.out
    exact hid (by simpa using h)
   have Q7:Hid ((wr.setCell ⟨ga,5,none⟩ (.bool false)).heap[gq]? =some (.cells #[.slice (some ⟨qb,ob,none⟩) N cb,.slice (some ⟨qw,ow,none⟩) N cw,.slice pt lt ct,.slice ps ls cs,.int .i64 sky,.int .i64 st] 48)):=(aF (Ne.symm HGQ.out.2)).trans Q5.out
   have G7:Hid (GridOf n gb (wr.setCell ⟨ga,5,none⟩ (.bool false))):=Gh HB.out.1 (G4.out.to AR'.out) R5.out (by simp)
   clear R5 Q5 A4 R4 Q4 G4 J1 J2 F4' AR' LG WU WD TS
   generalize World.setCell wr _ _=v7 at*
   obtain⟨x0,x1,x2,x3,x4,x5,x6⟩:=aL R7.out
   obtain⟨y0,y1,y2,y3,y4,y5⟩:=aG Q7.out
   go_wp2_with fail
   refine(ON.out v7 gb A7.out G7.out).mono ?_
   rintro e9 u8 ⟨vv,rfl,b8,os⟩
   obtain⟨tp1,tc1,tp2,tc2,tp3,tc3,tp4,tc4,rfl,sn⟩:=Eo os BF.out
   obtain⟨s1,-,s2,-,-⟩:=(show SeaP u8.heap.size tp1 tc1 tp2 tc2 tp3 tc3 tp4 tc4 N N N M F1 F2 F3 F4 sk1 st1 _ from⟨sn.1,sn.2.1⟩)
   obtain⟨qt,ot,rfl⟩:=Sh.IsI.some0 s2 HB.out.2.1.1
   have BB:Hid (Ab v7 (u8.alloc (.cells #[.slice tp1 N tc1,.slice (some ⟨qt,ot,none⟩) N tc2,.slice tp3 N tc3,.slice tp4 M tc4,.int .i64 sk1,.int .i64 st1] 48))):=(show Ab v7 u8 from b8).trans (bl1 _ _)
   have T8:=hid s1
   have I8:=hid s2
   clear os sn s1 s2 b8 ON x0 x1 x2 x3 x4 x5 x6 y0 y1 y2 y3 y4 y5
   go_upto_region 26 with fail
   generalize hW:World.alloc u8 _=v8 at*
   obtain⟨gt,hg⟩:=aB u8.heap.size
   rw[hg]at T8 ⊢
   clear hg hW
   have A8:Hid (Ab w v8):=A7.out.trans BB.out
   have Q8:=hid (Ab.heap BB.out Q7.out)
   have G8:Hid (∀v,Ab v8 v->GridOf n gb v):=fun v a=>G7.out.to (BB.out.trans a)
   clear BB A7 R7 Q7 G7
   have t1:=aA 1 T8.out
   go_wp2_with fail
   clear t1
   go_loopw [149] (fun iv wr=> ∃c:Nat,c<=N/\iv=.int .i64 (c:Nat)/\Ab v8 wr) (fun iv _=>N - (intOf iv).toNat)
   case atStart=>exact⟨0,by omega,rfl,Ab.refl _⟩
   case round=>
    obtain⟨c,hc,rfl,ar'⟩:=hrel
    rename World=>U8
    have AC:Hid (Ab v8 U8):=ar'
    clear ar'
    by_cases hcn:c<N
    ·have HC:=hid hcn
     have cI:(c:Int)<N:=by omega
     have cB:(c:Int)<=6144:=by have:=HB.out.2.1.2;omega
     have dN:decide (c<N)=true:=decide_eq_true hcn
     have cw0:=((IW.out.below (A8.out.trans AC.out)).at0 hcn).2.2
     obtain⟨x,hx⟩:=aB (W c)
     rw[hx]at cw0
     have HX:=hid hx
     have y1:=aA 1 (Ab.heap AC.out Q8.out)
     clear hx hcn hc
     go_wp2_with fail
     clear y1 cw0
     go_loopw [16,17] (fun ev iv wr=> ∃(k:Nat) (em:Bool),k<=4/\ev=.bool em/\iv=.int .i64 (k:Nat)/\(em=true->x=0/\ ∀j,j<k->W (lc (at_ c j))=0/\W (rc (at_ c j))=0)/\Ab U8 wr) (fun _ iv _=>4 - (intOf iv).toNat)
     case atStart=>exact⟨0,_,by omega,rfl,rfl,fun e=>⟨by simpa using e,fun j hj=>absurd hj (Nat.not_lt_zero j)⟩,Ab.refl _⟩
     case round=>
      obtain⟨k,em,hk,rfl,rfl,hem,ak'⟩:=hrel
      have HEM:=hid hem
      have AK:Hid (Ab U8 wr):=ak'
      clear ak' hem
      by_cases hk4:k<4
      ·have HK:=hid hk4
       have kI:(k:Int)<4:=by omega
       have dk:decide ((k:Int)<=3)=true:=decide_eq_true (by omega)
       have CA:=hid (AO.out wr gb c k (G8.out wr (AC.out.trans AK.out)) HC.out hk4)
       have ma:=AL.out c k HC.out hk4
       have ll:=LL.out _ ma
       obtain⟨a,ha⟩:=aB (at_ c k)
       rw[ha]at CA ma ll
       obtain⟨l,hl⟩:=aB (lc a)
       obtain⟨r,hr⟩:=aB (rc a)
       have CD:Hid (∀v,Ab wr v->Calls prog 10 #[.pointer (some ⟨gb,0,none⟩),.int .i64 (a:Nat)] v fun e w'=> ∃xa xc,e=.returned (.tuple #[.agg #[.int .i64 (l:Nat),.int .i64 xa,.int .i64 (r:Nat),.int .i64 xc],.bool true])/\Below v.heap.size v w'):=fun v b=>by rw[<- hl,<- hr];exact ED.out v gb a (G8.out v (AC.out.trans (AK.out.trans b))) ma
       rw[hl,hr]at ll
       have LLh:=hid ll
       have NX:Hid (∀b1 b2 b3:Bool,(b1=true->em=true)->(b2=true->W l=0)->(b3=true->W r=0)->(b1&&b2&&b3)=true->x=0/\ ∀j,j<k+1->W (lc (at_ c j))=0/\W (rc (at_ c j))=0):=fun b1 b2 b3 h1 h2 h3 h=>by
        rw[Bool.and_eq_true,Bool.and_eq_true]at h
        have e:=HEM.out (h1 h.1.1)
        refine⟨e.1,fun j hj=> ?_⟩
        by_cases q:j<k
        ·exact e.2 j q
        ·have:j=k:=by omega
         subst this
         rw[ha,hl,hr]
         exact⟨h2 h.1.2,h3 h.2⟩
       clear ha hl hr ll ma hk4 hk
       go_wp2_with fail
       refine CA.out.mono ?_
       rintro e9 u9 ⟨xs,rfl,b9⟩
       have k9:Ab wr u9:=b9
       clear b9 CA
       go_wp2_with fail
       refine(CD.out u9 k9).mono ?_
       rintro e9 u10 ⟨xa,xc,rfl,b10⟩
       have A9:Hid (Ab wr (u10.alloc (.cells #[.int .i64 (l:Nat),.int .i64 xa,.int .i64 (r:Nat),.int .i64 xc] 30))):=(k9.trans b10).trans (bl1 _ _)
       have E9:=hid (heap_alloc_new u10 (.cells #[.int .i64 (l:Nat),.int .i64 xa,.int .i64 (r:Nat),.int .i64 xc] 30))
       clear b10 k9 CD
       go_upto_region 37 with fail
       generalize hW:World.alloc u10 _=v9 at*
       obtain⟨ge,hg⟩:=aB u10.heap.size
       rw[hg]at E9 ⊢
       clear hg hW
       have z1:=aA 1 (Ab.heap (AC.out.trans (AK.out.trans A9.out)) Q8.out)
       have z2:=aA 0 E9.out
       have z3:=aA 2 E9.out
       have z4:=((IW.out.below (A8.out.trans (AC.out.trans (AK.out.trans A9.out)))).at0 LLh.out.1).2.2
       have z5:=((IW.out.below (A8.out.trans (AC.out.trans (AK.out.trans A9.out)))).at0 LLh.out.2).2.2
       have lI:(l:Int)<N:=by have:=LLh.out.1;omega
       have rI:(r:Int)<N:=by have:=LLh.out.2;omega
       have nB:(N:Int)<=6144:=by have:=HB.out.2.1.2;omega
       obtain⟨xl,hxl⟩:=aB (W l)
       obtain⟨xr,hxr⟩:=aB (W r)
       rw[hxl,hxr]at NX
       rw[hxl]at z4
       rw[hxr]at z5
       clear hxl hxr
       cases em with
       | false=>
        go_wp2_with fail
        go_wp2
        refine⟨⟨k+1,_,by have:=HK.out;omega,rfl,by simp,?_,AK.out.trans (A9.out)⟩,by have:=HK.out;simp[intOf];omega⟩
        exact fun h=>absurd h (by decide)
       | true=>
        cases hb:(xl==0)with
        | false=>
         go_wp2_with fail
         go_wp2
         refine⟨⟨k+1,_,by have:=HK.out;omega,rfl,by simp,?_,AK.out.trans (A9.out)⟩,by have:=HK.out;simp[intOf];omega⟩
         exact fun h=>absurd h (by decide)
        | true=>
         have hb2:=hid hb
         go_wp2_with fail
         go_wp2
         refine⟨⟨k+1,_,by have:=HK.out;omega,rfl,by simp,?_,AK.out.trans (A9.out)⟩,by have:=HK.out;simp[intOf];omega⟩
         exact fun h=>NX.out true true (xr==0) (fun _=>rfl) (fun _=>by simpa using hb2.out) (fun e=>by simpa using e) (by simpa using h)
      ·have e6:k=4:=by omega
       subst e6
       clear hk4 hk
       cases em with
       | false=>
        go_wp2
        exact⟨⟨c+1,by have:=HC.out;omega,by simp,AC.out.trans AK.out⟩,by have:=HC.out;simp[intOf];omega⟩
       | true=>
        have z0:=HEM.out rfl
        have f0:=DY.out c HC.out (by rw[HX.out];exact z0.1) z0.2
        have t1:=aA 1 (Ab.heap (AC.out.trans AK.out) T8.out)
        have t2:=((I8.out.below (AC.out.trans AK.out)).at0 HC.out).2.2
        rw[f0]at t2
        clear z0 f0
        go_wp2
        exact⟨⟨c+1,by have:=HC.out;omega,by simp,AC.out.trans AK.out⟩,by have:=HC.out;simp[intOf];omega⟩
    ·have e6:N=c:=by omega
     subst e6
     clear hcn hc
     go_wp2
     go_ret
     exact⟨rfl,A8.out.trans AC.out⟩
theorem dry_at(OF:OneF)(FC:FlowC){sd:Int}{dt gr dr:Nat}{lim:Int}{rv:Bool}{pr:Option Addr}{lr cr:Nat}{R:Nat->Int × Int × Int × Int}{pb:Option Addr}{lb cb:Nat}{B:Nat->Nat}{pw:Option Addr}{lw cw:Nat}{W:Nat->Int}{pt:Option Addr}{lt ct:Nat}{T:Nat->Int}{ps:Option Addr}{ls cs:Nat}{S:Nat->Nat}{sky st:Int}(w:World)(hF:Fr w)(h64:Sh.W64 sd/\Sh.W64 lim/\Sh.W64 sky/\Sh.W64 st)(hf:dt<18446744073709551616/\gr<18446744073709551616/\dr<18446744073709551616)(hl:(lb<=281474976710656/\lw<=281474976710656/\lt<=281474976710656/\ls<=281474976710656))(i1:IsFl w pb lb B)(i2:Sh.IsI w pw lw W)(i3:Sh.IsI w pt lt T)(i4:IsFl w ps ls S):
  Calls prog 4 #[.agg #[.int .i64 sd,.float .f64 dt,.float .f64 gr,.float .f64 dr,.int .i64 lim,.bool rv,.slice pr lr cr],.agg #[.slice pb lb cb,.slice pw lw cw,.slice pt lt ct,.slice ps ls cs,.int .i64 sky,.int .i64 st]] w fun e w'=>e=.returned (.bool true)/\Below w.heap.size w w':=by
 have LV:=fun v (a:Ab w v)=>moves_at OF v (hF.to a)
 by_cases hs:1<=sd/\sd<=32
 ·obtain⟨n,rfl⟩: ∃n:Nat,sd=(n:Nat):=⟨sd.toNat,by omega⟩
  have hn:1<=n/\n<=32:=by omega
  have NW: ∀v,Ab w v->Calls prog 6 #[.int .i64 (n:Nat)] v fun e w'=> ∃gb,e=.returned (.tuple #[.pointer (some ⟨gb,0,none⟩),.int .i64 0])/\Below v.heap.size v w'/\GridOf n gb w':=fun v a=>(new_at n v hn (hF.to a)).mono fun e w' h=>by
   obtain⟨gb,rfl,a1,-,g⟩:=h
   exact⟨gb,rfl,a1,g⟩
  have nr: ∀v:World,Rn.IsRn v none 0 R:=fun v k hk=>absurd hk (Nat.not_lt_zero k)
  have FZ:=fun v gb (a:Ab w v) (g:GridOf n gb v)=>FC n gb (n:Nat) dt gr dr lim rv none 0 0 R pb lb cb B pw lw cw W pt lt ct T ps ls cs S sky st v hn g (hF.to a) h64 hf (by omega) hl (nr v) (i1.below a) (i2.below a) (i3.below a) (i4.below a)
  have OZ:=fun v gb (a:Ab w v) (g:GridOf n gb v)=>OF n gb (n:Nat) dt gr dr lim none 0 0 R pb lb cb B pw lw cw W pt lt ct T ps ls cs S sky st v hn g (hF.to a) h64 hf (by omega) hl (nr v) (i1.below a) (i2.below a) (i3.below a) (i4.below a)
  by_cases q:erS n n dt gr dr lim 0 R lb lw lt ls B W T S sky st=0
  ·obtain⟨-,pl,-,⟨rfl,rfl,rfl,rfl⟩,oP,oS⟩:=er_ok q hf (fun i hi=>(i1 i hi).1) (fun i hi=>(i4 i hi).1)
   have nt:=dt_nn hf.1 pl
   have p1:n*n<=32*32:=Nat.mul_le_mul hn.2 hn.2
   have p0:0<n*n:=Nat.mul_pos (by omega) (by omega)
   have q6:6*n*n=6*(n*n):=Nat.mul_assoc _ _ _
   have q12:12*n*n=12*(n*n):=Nat.mul_assoc _ _ _
   have o1:=one_ok (lim:=lim) (rv:=false) oP oS
   have wi: ∀e,e<12*n*n->Sh.W64 (waF n lim gr dt dr B W S e):=fun e he=>by have:=wa_in (lim:=lim) oP oS he;unfold Sh.W64;omega
   have ti: ∀e,e<12*n*n->Sh.W64 (trF n lim gr dt dr B W T S e):=fun e he=>by have:=tr_in (lim:=lim) oP oS he;unfold Sh.W64;omega
   have ends: ∀e,e<12*n*n->eL n e<6*n*n/\eR n e<6*n*n:=fun e he=>by
    obtain⟨t1,-,-⟩:=bI hn.1 he
    exact⟨aN t1,aN (cQ hn.1 t1)⟩
   obtain⟨qb,ob,rfl⟩:=i1.some0 (show 0<6*n*n by omega)
   obtain⟨qw,ow,rfl⟩:=Sh.IsI.some0 i2 (show 0<6*n*n by omega)
   refine dry_go n (6*n*n) (12*n*n) n dt gr dr lim rv pr lr cr qb ob cb qw ow cw pt _ ct ps _ cs sky st B W (waF n lim gr dt dr B W S) (trF n lim gr dt dr B W T S) B _ _ _ _ _ (eL n) (eR n) (fun c k=>eE n (4*c+k)) (arC n) w hn.1 ⟨by omega,by omega⟩ ⟨by omega,by omega⟩ LV NW (fun v gb a g=>((FZ v gb a g).1 q).mono fun e w' k=> ?_) (fun v gb a g=>(OZ v gb a g).1 q) (fun v gb g=>(cG g).mono fun e w' h=>⟨h.1,by rw[h.2];exact Below.refl _ _⟩) (fun v gb i g hi=>(gEdgeN hn hi g).mono fun e w' h=>⟨_,_,h.1,h.2⟩) (fun v gb c k g hc hk=>(Fy hn hc hk g).mono fun e w' h=>⟨_,h.1,h.2⟩) (fun v gb c g hc=>gA hn hc g) (fun x v=>(iG x v).mono fun e w' h=>⟨h.1,by rw[h.2];exact Below.refl _ _⟩) (BZ o1) ends (fun c k hc hk=>eD hn.1 (eK hc hk)) (fun i hi hp=> ?_) (fun i hi hp=> ?_) (fun i hi=>Tr.flF_sign hn.1 hi (fun _ hc=>okT oS hc) (fun _ hc=>vD oP oS hc)) (fun c hc z zs=> ?_) i1 i2
   ·obtain⟨v1,v2,rfl,k1,k2,k3,-⟩:=k
    obtain⟨q1,c1,rfl,j1,-⟩:=xM k2 wi
    obtain⟨q2,c2,rfl,j2,-⟩:=xM k3 ti
    exact⟨q1,c1,q2,c2,rfl,k1,j1,j2⟩
   ·have u:=(En (lim:=lim) oP oS nt hi).1 hp
    exact raw_up oS (ends i hi).1 (ends i hi).2 u.1 u.2
   ·have u:=(En (lim:=lim) oP oS nt hi).2 hp
    exact raw_up oS (ends i hi).2 (ends i hi).1 u.1 u.2
   ·rw[ri_0]
    exact dry_mv oP oS hc z (fun s hs=>FU hn.1 (eK hc hs) (zs s hs).1 (zs s hs).2)
  ·exact dry_no1 n n dt gr dr lim rv pr lr cr pb lb cb pw lw cw pt lt ct ps ls cs sky st w _ (by simpa using q) LV NW (fun v gb a g=>(FZ v gb a g).2 q)
 ·exact dry_no0 sd dt gr dr lim rv pr lr cr pb lb cb pw lw cw pt lt ct ps ls cs sky st w LV (fun v _=>(new_no sd v hs).mono fun e w' h=>⟨h.1,by rw[h.2];exact Below.refl _ _⟩)
end Co
end
section
open Go.RowKit
namespace Rl
def updV(x:Nat->Value)(i:Nat)(v:Value):Nat->Value:=fun j=>if j=i then v else x j
def putAll:List Oper->Nat->(Nat->Value)->Act->Act
 | [],_,_,a=>a
 | o :: r,i,x,a=>putAll r (i+1) x (a.put o.dst (x i))
def depB(o:Oper)(j:Nat):Bool:=o.after.any fun e=>e.on==j&&Region.binds .any e
def relAll(P:Program)(l:List Oper)(a:Act)(R:Nat->Value->Prop)(C:World->Prop)(Q:Exit->Act->World->Prop):Nat->List Oper->Prop
 | _,[]=>True
 | i,o :: rest=>(∀(x:Nat->Value) (w:World),C w->(∀j,depB o j=true->R j (x j))-> ∀K:Act->World->Prop,Hid (∀v w',R i v->C w'->K ((putAll l 0 x a).put o.dst v) w')->o.wp P (putAll l 0 x a) w K Q)/\relAll P l a R C Q (i+1) rest
theorem aW{P:Program}{l:List Oper}{a:Act}{R:Nat->Value->Prop}{C:World->Prop}{Q:Exit->Act->World->Prop}{i:Nat}{o:Oper}{rest:List Oper}(j:Nat)(Ri:Value->Prop)(hRi:R i=Ri)(hj:i+1=j)
  (h: ∀(x:Nat->Value) (w:World),C w->(∀k,depB o k=true->R k (x k))-> ∀K:Act->World->Prop,Hid (∀v w',Ri v->C w'->K ((putAll l 0 x a).put o.dst v) w')->o.wp P (putAll l 0 x a) w K Q)
  (t:relAll P l a R C Q j rest):relAll P l a R C Q i (o :: rest):=by
 subst hRi
 subst hj
 exact⟨h,t⟩
theorem xO{P:Program}{l:List Oper}{a:Act}{R:Nat->Value->Prop}{C:World->Prop}{Q:Exit->Act->World->Prop}{i:Nat}:relAll P l a R C Q i []:=trivial
def plainB:List Oper->Bool
 | []=>true
 | o :: r=>o.guard.isNone&&(match o.dst with | some d=>r.all (fun p=>p.dst != some d) | none=>true)&&plainB r
theorem put_put(a:Act)(d:Option Tmp)(u v:Value):(a.put d u).put d v=a.put d v:=by
 cases d with
 | none=>rfl
 | some d=>simp[Act.put]
theorem jV: ∀(l:List Oper) (i:Nat) (x:Nat->Value) (k:Nat) (v:Value) (a:Act),k<i->putAll l i (updV x k v) a=putAll l i x a
 | [],_,_,_,_,_,_=>rfl
 | o :: r,i,x,k,v,a,h=>by
  show putAll r (i+1) (updV x k v) (a.put o.dst (updV x k v i))=putAll r (i+1) x (a.put o.dst (x i))
  have e:updV x k v i=x i:=by unfold updV;rw[if_neg (by omega)]
  rw[e,jV r (i+1) x k v _ (by omega)]
theorem tB: ∀(l:List Oper) (i:Nat) (x:Nat->Value) (a:Act) (d:Option Tmp) (v:Value),(∀t,d=some t->l.all (fun p=>p.dst != some t)=true)->putAll l i x (a.put d v)=(putAll l i x a).put d v
 | [],_,_,_,_,_,_=>rfl
 | o :: r,i,x,a,d,v,h=>by
  show putAll r (i+1) x ((a.put d v).put o.dst (x i))=(putAll r (i+1) x (a.put o.dst (x i))).put d v
  rw[Act.put_comm a v (x i) (fun t ht=>by have:=h t ht;simp at this;exact this.1)]
  exact tB r (i+1) x _ d v (fun t ht=>by have:=h t ht;simp at this ⊢;exact this.2)
theorem tC: ∀(l:List Oper) (i:Nat) (x:Nat->Value) (a:Act) (k:Nat) (o:Oper) (v:Value),plainB l=true->l[k]? =some o->putAll l i (updV x (i+k) v) a=(putAll l i x a).put o.dst v
 | [],_,_,_,_,_,_,_,h=>by simp at h
 | p :: r,i,x,a,0,o,v,hp,h=>by
  simp at h
  subst h
  show putAll r (i+1) (updV x i v) (a.put p.dst (updV x i v i))=(putAll r (i+1) x (a.put p.dst (x i))).put p.dst v
  have e:updV x i v i=v:=by unfold updV;rw[if_pos rfl]
  simp only[plainB,Bool.and_eq_true]at hp
  rw[e,jV r (i+1) x i v _ (by omega),<- tB r (i+1) x _ p.dst v (fun t ht=>by have:=hp.1.2;rw[ht]at this;exact this),put_put]
 | p :: r,i,x,a,k+1,o,v,hp,h=>by
  simp at h
  simp only[plainB,Bool.and_eq_true]at hp
  show putAll r (i+1) (updV x (i+(k+1)) v) (a.put p.dst (updV x (i+(k+1)) v i))=(putAll r (i+1) x (a.put p.dst (x i))).put o.dst v
  have e:updV x (i+(k+1)) v i=x i:=by unfold updV;rw[if_neg (by omega)]
  rw[e,show i+(k+1)=i+1+k by omega]
  exact tC r (i+1) x _ k o v hp.2 h
theorem put_own(a:Act)(d:Option Tmp):a.put d (match d with | some t=>a.tmps.getD t undef | none=>undef)=a:=by
 cases d with
 | none=>rfl
 | some t=>
  show{a with tmps:=a.tmps.setIfInBounds t (a.tmps.getD t undef)}=a
  have:a.tmps.setIfInBounds t (a.tmps.getD t undef)=a.tmps:=by
   by_cases h:t<a.tmps.size
   ·refine Array.ext (by simp) fun i h1 h2=> ?_
    rw[Array.getElem_setIfInBounds (by simpa using h2)]
    split
    ·rename_i e;subst e;simp
    ·rfl
   ·exact Array.setIfInBounds_eq_of_size_le (Nat.le_of_not_lt h)
  rw[this]
theorem tD: ∀(l:List Oper) (i:Nat) (a:Act),∃x,putAll l i x a=a
 | [],_,_=>⟨fun _=>undef,rfl⟩
 | o :: r,i,a=>by
  obtain⟨x,hx⟩:=tD r (i+1) a
  refine⟨updV x i (match o.dst with | some t=>a.tmps.getD t undef | none=>undef),?_⟩
  show putAll r (i+1) _ (a.put o.dst (updV x i _ i))=a
  have e: ∀v,updV x i v i=v:=fun v=>by unfold updV;rw[if_pos rfl]
  rw[e,put_own,jV r (i+1) x i _ _ (by omega),hx]
theorem vH{P:Program}{l:List Oper}{a:Act}{R:Nat->Value->Prop}{C:World->Prop}{Q:Exit->Act->World->Prop}: ∀(r:List Oper) (i k:Nat) (o:Oper),relAll P l a R C Q i r->r[k]? =some o->
  ∀(x:Nat->Value) (w:World),C w->(∀j,depB o j=true->R j (x j))-> ∀K:Act->World->Prop,(∀v w',R (i+k) v->C w'->K ((putAll l 0 x a).put o.dst v) w')->o.wp P (putAll l 0 x a) w K Q
 | [],_,_,_,_,h=>by simp at h
 | p :: r,i,0,o,h,he=>by
  simp at he
  subst he
  exact fun x w hC hR K hK=>h.1 x w hC hR K hK
 | p :: r,i,k+1,o,h,he=>by
  simp at he
  have:=vH r (i+1) k o h.2 he
  rw[show i+1+k=i+(k+1)by omega]at this
  exact this
def Inv(l:List Oper)(a:Act)(R:Nat->Value->Prop)(C:World->Prop)(listed:Array Bool)(b:Act)(w:World):Prop:=
 ∃x,b=putAll l 0 x a/\C w/\ ∀i,listed.getD i false=true->R i (x i)
theorem Gi{P:Program}{l:List Oper}{a:Act}{R:Nat->Value->Prop}{C:World->Prop}{Q:Exit->Act->World->Prop}(hp:plainB l=true)(hb:backB .any l.toArray l.length=true)
  (H:relAll P l a R C Q 0 l) (fin: ∀(x:Nat->Value) (w:World),C w->(∀i,i<l.length->R i (x i))->Q .normal (putAll l 0 x a) w):
  ∀(fuel:Nat) (listed:Array Bool) (b:Act) (w:World),listed.size=l.length->l.length<=fuel+(listed.toList.filter id).length->Inv l a R C listed b w->wpAny P .any l.toArray Q fuel listed b w:=by
 have guard: ∀{i:Nat} {o:Oper},l[i]? =some o->o.guard=none:=by
  intro i o h
  have aux: ∀(r:List Oper) (i:Nat),plainB r=true->r[i]? =some o->o.guard=none:=by
   intro r
   induction r with
   | nil=>intro i _ h;simp at h
   | cons p r ih=>
    intro i hp h
    simp only[plainB,Bool.and_eq_true]at hp
    cases i with
    | zero=>simp at h;subst h;simpa using hp.1.1
    | succ i=>simp at h;exact ih i hp.2 h
  exact aux l i hp h
 have allr: ∀{listed:Array Bool},listed.size=l.length->Region.ready .any l.toArray listed=[]-> ∀i,i<l.length->listed.getD i false=true:=by
  intro listed hs h0 i hi
  rcases eM (md:=.any) (ops:=l.toArray) (n:=l.length) (by simp) hb (listed:=listed) (by omega)with all | ⟨j,_,hj⟩
  ·rw[nT (d':=true) (by omega)];exact all i hi
  ·rw[h0]at hj;cases hj
 intro fuel
 induction fuel with
 | zero=>
  intro listed b w hs hc inv
  have full: ∀i,i<l.length->listed.getD i true=true:=by
   intro i hi
   have e:(listed.toList.filter id).length=listed.toList.length:=by
    have:=List.length_filter_le id listed.toList
    simp at hc this ⊢
    omega
   have e2:=List.length_filter_eq_length_iff.1 e
   have hm:listed.getD i true=listed[i]'(by omega):=by simp[show i<listed.size by omega]
   rw[hm]
   exact e2 _ (by simp)
  have h0:Region.ready .any l.toArray listed=[]:=by
   rw[List.eq_nil_iff_forall_not_mem]
   intro i hi
   obtain⟨u,o,ho,_⟩:=mem_ready.1 hi
   have lt:i<l.length:=by have:=(Array.getElem?_eq_some_iff.1 ho).1;simpa using this
   rw[full i lt]at u
   cases u
  obtain⟨x,rfl,hC,hR⟩:=inv
  exact⟨h0,fin x w hC (fun i hi=>hR i (by rw[nT (d':=true) (by omega)];exact full i hi))⟩
 | succ fuel ih=>
  intro listed b w hs hc inv
  obtain⟨x,rfl,hC,hR⟩:=inv
  refine⟨fun h0=>fin x w hC (fun i hi=>hR i (allr hs h0 i hi)),fun i hi=> ?_⟩
  obtain⟨u,o,ho,hd⟩:=mem_ready.1 hi
  have lt:i<l.length:=by have:=(Array.getElem?_eq_some_iff.1 ho).1;simpa using this
  have ho':l[i]? =some o:=by simpa using ho
  have cnt:l.length<=fuel+((listed.setIfInBounds i true).toList.filter id).length:=by
   have hf:listed.toList[i]? =some false:=by
    have:listed.getD i true=listed[i]'(by omega):=by simp[show i<listed.size by omega]
    rw[this]at u
    simp[show i<listed.size by omega,u]
   have aux: ∀(t:List Bool) (i:Nat),t[i]? =some false->((t.set i true).filter id).length=(t.filter id).length+1:=by
    intro t
    induction t with
    | nil=>intro i h;simp at h
    | cons b t ih=>
     intro i h
     cases i with
     | zero=>simp at h;subst h;simp
     | succ i=>
      simp at h
      have:=ih i h
      cases b<;>simp[this]
   have:=aux listed.toList i hf
   simp only[Array.toList_setIfInBounds]
   rw[this]
   omega
  unfold wpOp
  rw[ho]
  have hg:o.guard=none:=guard ho'
  have hw:Region.wanted o (yielded l.toArray (putAll l 0 x a).tmps)=true:=by simp[Region.wanted,hg]
  simp only[hw,if_true]
  left
  have step:=vH l 0 i o H ho' x w hC (fun j hj=>by
   unfold depB at hj
   rw[<- Array.any_toList]at hj
   obtain⟨e,he',h2⟩:=List.any_eq_true.1 hj
   have he:e ∈ o.after:=Array.mem_toList_iff.1 he'
   simp at h2
   have:=hd e he h2.2
   rw[h2.1]at this
   exact hR j this)
  rw[Nat.zero_add]at step
  refine step _ (fun v w' hv hC'=>ih _ _ w' (by simpa using hs) cnt ⟨updV x i v,?_,hC',fun j hj=> ?_⟩)
  ·have:=tC l 0 x a i o v hp ho'
   rw[Nat.zero_add]at this
   exact this.symm
  ·by_cases e:j=i
   ·subst e;unfold updV;rw[if_pos rfl];exact hv
   ·have:listed.getD j false=true:=by rw[getD_set_ne false (Ne.symm e)]at hj;exact hj
    unfold updV;rw[if_neg e];exact hR j this
theorem mT{P:Program}{id:Nat}{Q:Exit->Act->World->Prop}{a:Act}{w:World}{l:List Oper}(R:Nat->Value->Prop)(C:World->Prop)(hm:P.follows .mixedOrders=true)(hp:plainB l=true)(hb:backB .any l.toArray l.length=true)(hC:C w.drew)
  (H:relAll P l a R C Q 0 l) (fin: ∀(x:Nat->Value) (w:World),C w->(∀i,i<l.length->R i (x i))->Q .normal (putAll l 0 x a) w):(Code.region id l.toArray true).wp P Q a w:=by
 refine wp_region_any hm ?_
 obtain⟨x,hx⟩:=tD l 0 a
 exact Gi hp hb H fin _ _ a w.drew (by simp) (by simp) ⟨x,hx.symm,hC,fun i hi=>by rw[getD_replicate_false]at hi;cases hi⟩
end Rl
end
section
open Go.RowKit Tf
attribute [local go_sem] aJ aK aP aQ aR aV aX
theorem isC_eq{r c:Nat}(h:IsC r c)(c0:0<c)(c1:c<=9218868437227405312):r=c:=by
 have e:=h.2
 unfold canonB at e
 split at e
 ·unfold quiet at e;omega
 ·split at e
  ·omega
  ·exact e
theorem add_can{P:Program}(w:World)(s x:Nat)(hs:s<18446744073709551616)(hx:x<18446744073709551616):
  ∃r n,(∀t,(binOp .add t (.float .f64 s) (.float .f64 x)).run P w=.ok (.float .f64 r) (w.drewN n))/\IsC r (addB s x):=by
 cases e:Ieee.double.add s x with
 | none=>exact⟨nanOf w s x,1,fun t=>kL w t s x e,fZ _ _ _,by rw[aY e];unfold canonB;rw[if_pos (eA _ _ _)]⟩
 | some r=>exact⟨r,0,fun t=>run_float_arith w .add t .f64 s x r e,by
   have q:=IsQ.add (IsQ.self hs) (IsQ.self hx) e
   exact q.1,by rw[bE e]⟩
theorem depth_no(n a:Int)(w:World)(h:n<1\/a<1):
  Calls prog 134 #[.int .i64 n,.int .i64 a] w fun e w'=>e=.returned (.float .f64 0)/\w'=w:=by
 by_cases c:n<1
 ·go_enter func134,ntmps134
  go_wp2
  go_ret
  exact⟨rfl,rfl⟩
 ·have d:a<1:=by omega
  clear h
  go_enter func134,ntmps134
  go_wp2
  go_ret
  exact⟨rfl,rfl⟩
theorem Gj(n a:Int)(w:World)(h1:1<=n)(h2:1<=a)(n2:n<=9223372036854775807)(a2:a<=9223372036854775807):
  Calls prog 134 #[.int .i64 n,.int .i64 a] w fun e w'=>e=.returned (.float .f64 (dpB n a))/\ ∃k,w'=w.drewN k:=by
 obtain⟨r,k,hr,hc⟩:=gO (P:=prog) w (fw n) (fw a)
 have e:=isC_eq hc (by rw[<- nR h1 h2];have:=dp_in h1 h2 n2 a2;omega) (by rw[<- nR h1 h2];have:=dp_in h1 h2 n2 a2;omega)
 rw[nR h1 h2,<- e]
 clear e hc
 have F1:=hid (iG n w)
 have F2:=hid (iG a w)
 rw[show rn false (n*one)=fw n from rfl]at F1
 rw[show rn false (a*one)=fw a from rfl]at F2
 generalize fw n=x at*
 generalize fw a=y at*
 go_enter func134,ntmps134
 go_wp2_with fail
 refine F1.out.mono ?_
 rintro e w' ⟨rfl,rfl⟩
 go_wp2_with fail
 refine F2.out.mono ?_
 rintro e w' ⟨rfl,rfl⟩
 go_wp2
 go_ret
 exact⟨rfl,k,rfl⟩
theorem kU(n a:Int)(w:World)(n2:n<=9223372036854775807)(a2:a<=9223372036854775807):
  Calls prog 134 #[.int .i64 n,.int .i64 a] w fun e w'=>e=.returned (.float .f64 (dpB n a))/\ ∃k,w'=w.drewN k:=by
 by_cases c:n<1\/a<1
 ·rw[lQ c]
  exact(depth_no n a w c).mono fun _ _ h=>⟨h.1,0,h.2⟩
 ·exact Gj n a w (by omega) (by omega) n2 a2
theorem tE(b:Nat)(n a:Int)(w:World)(hb:b<18446744073709551616)(n2:n<=9223372036854775807)(a2:a<=9223372036854775807):
  Calls prog 175 #[.float .f64 b,.int .i64 n,.int .i64 a] w fun e w'=>e=.returned (.float .f64 (lvl b n a))/\ ∃k,w'=w.drewN k:=by
 have D:=hid (kU n a w n2 a2)
 have e0:lvl b n a=addB b (dpB n a):=rfl
 rw[e0]
 have hd:dpB n a<18446744073709551616:=by have:=mA n2 a2;omega
 clear e0
 generalize dpB n a=d at*
 have AD:Hid (∀k:Nat,∃r m,(∀t,(binOp .add t (.float .f64 b) (.float .f64 d)).run prog (w.drewN k)=.ok (.float .f64 r) ((w.drewN k).drewN m))/\IsC r (addB b d)):=fun k=>add_can _ b d hb hd
 generalize addB b d=y at*
 go_enter func175,ntmps175
 go_wp2_with fail
 refine D.out.mono ?_
 rintro e w' ⟨rfl,k,rfl⟩
 obtain⟨r,m,hr,hc⟩:=AD.out k
 have C:=hid (bR r (w.drewN (k+m)) hc.1)
 rw[hc.2]at C
 go_wp2_with fail
 refine C.out.mono ?_
 rintro e w' ⟨rfl,rfl⟩
 go_wp2
 go_ret
 exact⟨rfl,k+m,rfl⟩
end
end Go.Proofs.YtmhnilnaffjhmaaGreatDoor
