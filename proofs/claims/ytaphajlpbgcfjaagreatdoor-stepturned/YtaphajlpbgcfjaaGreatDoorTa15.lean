/-
  Some of the texts of this proof, one behind the other.
-/
import Derived.Test.YtaphajlpbgcfjaaGreatDoorTa14
set_option maxRecDepth 100000
set_option maxHeartbeats 400000000
namespace Go.Proofs.YtaphajlpbgcfjaaGreatDoor
open _root_.Go.Proofs.Tryz
section
open Go.RowKit Tf Cu Go.Deep
attribute [local go_sem] aL aM aV aW aX aY aZ aG
namespace St
open Ss Fc
theorem BP(sd:Int)(dt gr dr:Nat)(lim:Int)(rv:Bool)(pr:Option Addr)(lr cr:Nat)(pb:Option Addr)(lb cb:Nat)(pw:Option Addr)(lw cw:Nat)(pt:Option Addr)(lt ct:Nat)(ps:Option Addr)(ls cs:Nat)(sky st:Int)(turn:Int)(w:World)(hlw:lw<=17592186044416)
  (LV:Hid (∀v,Ab w v->Calls prog 9 #[] v fun e w'=>e=.returned (.bool true)/\Below v.heap.size v w'))
  (GD:Hid (∀v bt,Ab w v->v.rowIs bt 2 lw (fun _=>.int .i64 0)->Calls prog 10 #[.agg #[.int .i64 sd,.float .f64 dt,.float .f64 gr,.float .f64 dr,.int .i64 lim,.bool false,.slice none 0 0],.agg #[.slice pb lb cb,.slice pw lw cw,.slice (some ⟨bt,0,none⟩) lw lw,.slice ps ls cs,.int .i64 sky,.int .i64 st]] v fun e w'=>e=.returned (.tuple #[.pointer none,.bool false])/\Below v.heap.size v w')):
  Calls prog 6 #[.agg #[.int .i64 sd,.float .f64 dt,.float .f64 gr,.float .f64 dr,.int .i64 lim,.bool rv,.slice pr lr cr],.agg #[.slice pb lb cb,.slice pw lw cw,.slice pt lt ct,.slice ps ls cs,.int .i64 sky,.int .i64 st],.int .i64 turn] w fun e w'=>e=.returned (.bool true)/\Below w.heap.size w w':=by
 have M2: ∀v:World,(Instr.makeSlice 27 (.int .i64 (lw:Nat)) (.int .i64 (lw:Nat))).run prog v=.ok (.slice (some ⟨v.heap.size,0,none⟩) lw lw) (v.alloc (Obj.cells (madeCells #[.int .i64 0] lw) 2)):=fun v=>run_make_row' (P:=prog) 27 2 (.int .i64 0) 8 underlying27 Sh.eG rfl .i64 .i64 lw (by omega) (by omega) v
 obtain⟨A0,R0,Q0⟩:=bT w (.cells #[.int .i64 sd,.float .f64 dt,.float .f64 gr,.float .f64 dr,.int .i64 lim,.bool rv,.slice pr lr cr] 25) (.cells #[.slice pb lb cb,.slice pw lw cw,.slice pt lt ct,.slice ps ls cs,.int .i64 sky,.int .i64 st] 29)
 go_enter func6,ntmps6
 go_upto_region 1 with fail
 generalize hW:World.alloc (World.alloc w _) _=V0 at*
 obtain⟨ga,hga⟩:=aD w.heap.size
 obtain⟨gq,hgq⟩:=aD (w.heap.size+1)
 have HGQ:Hid (w.heap.size<=ga/\w.heap.size<=gq):=by show _/\_;omega
 rw[hgq]at Q0 ⊢
 rw[hga]at R0 ⊢
 clear hga hgq hW
 go_wp2_with fail
 refine(LV.out V0 A0.out).mono ?_
 rintro e9 v1 ⟨rfl,b1⟩
 have A1:Hid (Ab w v1):=A0.out.trans b1
 have R1:=hid (Ab.heap b1 R0.out)
 have Q1:=hid (Ab.heap b1 Q0.out)
 clear b1 A0 R0 Q0 LV
 have x0:=aK R1.out
 have f0:=aE R1.out 0
 have f1:=aE R1.out 1
 have f2:=aE R1.out 2
 have f3:=aE R1.out 3
 have f4:=aE R1.out 4
 have f5:=aE R1.out 5
 have f6:=aE R1.out 6
 go_upto_region 5 with fail
 have GN:Hid (ga≠gq):=fun e=>by
  have h1:=R1.out
  have h2:=Q1.out
  rw[e,h2]at h1
  injection h1 with h1
  injection h1 with h1 h3
  exact absurd h3 (by decide)
 have A5:Hid (Ab w ((v1.setCell ⟨ga,6,none⟩ (.slice none 0 0)).setCell ⟨ga,5,none⟩ (.bool false))):=(A1.out.setk HGQ.out.1 _).setk HGQ.out.1 _
 have R5:Hid (((v1.setCell ⟨ga,6,none⟩ (.slice none 0 0)).setCell ⟨ga,5,none⟩ (.bool false)).heap[ga]? =some (.cells #[.int .i64 sd,.float .f64 dt,.float .f64 gr,.float .f64 dr,.int .i64 lim,.bool false,.slice none 0 0] 25)):=by
  have h1:=aJ (v:=.slice none 0 0) (k:=6) R1.out
  have h2:=aJ (v:=.bool false) (k:=5) h1
  show _=_
  simpa using h2
 have Q5:Hid (((v1.setCell ⟨ga,6,none⟩ (.slice none 0 0)).setCell ⟨ga,5,none⟩ (.bool false)).heap[gq]? =some (.cells #[.slice pb lb cb,.slice pw lw cw,.slice pt lt ct,.slice ps ls cs,.int .i64 sky,.int .i64 st] 29)):=(aO (Ne.symm GN.out)).trans ((aO (Ne.symm GN.out)).trans Q1.out)
 clear x0 f0 f1 f2 f3 f4 f5 f6 R1 Q1 A1
 generalize World.setCell _ _ _=v5 at*
 clear v1
 have y0:=aF Q5.out
 have z0:=aA 2 (Ab.heap (bl1 v5 (Obj.cells (madeCells #[.int .i64 0] lw) 2)) Q5.out)
 have z1:=aE (Ab.heap (bl1 v5 (Obj.cells (madeCells #[.int .i64 0] lw) 2)) Q5.out) 2
 go_upto_region 6 with fail
 have A2:Hid (Ab w ((v5.alloc (Obj.cells (madeCells #[.int .i64 0] lw) 2)).setCell ⟨gq,2,none⟩ (.slice (some ⟨v5.heap.size,0,none⟩) lw lw))):=(A5.out.alloc _).setk HGQ.out.2 _
 have R2:Hid (((v5.alloc (Obj.cells (madeCells #[.int .i64 0] lw) 2)).setCell ⟨gq,2,none⟩ (.slice (some ⟨v5.heap.size,0,none⟩) lw lw)).heap[ga]? =some (.cells #[.int .i64 sd,.float .f64 dt,.float .f64 gr,.float .f64 dr,.int .i64 lim,.bool false,.slice none 0 0] 25)):=(aO GN.out).trans (Ab.heap (bl1 _ _) R5.out)
 have Q2:Hid (((v5.alloc (Obj.cells (madeCells #[.int .i64 0] lw) 2)).setCell ⟨gq,2,none⟩ (.slice (some ⟨v5.heap.size,0,none⟩) lw lw)).heap[gq]? =some (.cells #[.slice pb lb cb,.slice pw lw cw,.slice (some ⟨v5.heap.size,0,none⟩) lw lw,.slice ps ls cs,.int .i64 sky,.int .i64 st] 29)):=by
  have h2:=aJ (v:=.slice (some ⟨v5.heap.size,0,none⟩) lw lw) (k:=2) (Ab.heap (bl1 v5 (Obj.cells (madeCells #[.int .i64 0] lw) 2)) Q5.out)
  show _=_
  simpa using h2
 have T2:Hid (((v5.alloc (Obj.cells (madeCells #[.int .i64 0] lw) 2)).setCell ⟨gq,2,none⟩ (.slice (some ⟨v5.heap.size,0,none⟩) lw lw)).rowIs v5.heap.size 2 lw (fun _=>.int .i64 0)):=(iK (heap_alloc_new v5 (Obj.cells (madeCells #[.int .i64 0] lw) 2))).setOther (a:=⟨gq,2,none⟩) (show v5.heap.size≠gq by have:=Rv.bI Q5.out;omega) _
 clear y0 z0 z1 R5 Q5 M2
 generalize World.setCell _ _ _=v2 at*
 obtain⟨bt,hbt⟩:=aD v5.heap.size
 rw[hbt]at Q2 T2 ⊢
 clear hbt A5 GN HGQ
 have x0:=aK R2.out
 have y0:=aF Q2.out
 go_wp2_with fail
 refine(GD.out v2 bt A2.out T2.out).mono ?_
 rintro e9 v3 ⟨rfl,b3⟩
 have A3:Hid (Ab w v3):=A2.out.trans b3
 clear b3 x0 y0
 go_wp2
 go_ret
 exact⟨rfl,A3.out⟩
theorem BQ(n:Nat)(sd:Int)(dt gr dr:Nat)(lim:Int)(rv:Bool)(pr:Option Addr)(lr cr:Nat)(pb:Option Addr)(lb cb:Nat)(pw:Option Addr)(lw cw:Nat)(pt:Option Addr)(lt ct:Nat)(ps:Option Addr)(ls cs:Nat)(sky st:Int)(turn yt:Int)(t:Nat)(fa1:Nat->Nat)(fa2 fa3:Nat->Int)(fa4:Nat->Nat)(fb1:Nat->Nat)(fb2 fb3:Nat->Int)(fb4:Nat->Nat)(fc1:Nat->Nat)(fc2 fc3:Nat->Int)(fc4:Nat->Nat)(fd1:Nat->Nat)(fd2 fd3:Nat->Int)(fd4:Nat->Nat)(st1:Int)(w:World)(hlw:lw<=17592186044416)
  (ew:IntKind.u64.wrap turn=yt) (_y0:0<=yt/\yt<18446744073709551616) (et:yt.tmod 24=t) (lti:(t:Int)<24)
  (LV:Hid (∀v,Ab w v->Calls prog 9 #[] v fun e w'=>e=.returned (.bool true)/\Below v.heap.size v w'))
  (GD:Hid (∀v bt,Ab w v->v.rowIs bt 2 lw (fun _=>.int .i64 0)->Calls prog 10 #[.agg #[.int .i64 sd,.float .f64 dt,.float .f64 gr,.float .f64 dr,.int .i64 lim,.bool false,.slice none 0 0],.agg #[.slice pb lb cb,.slice pw lw cw,.slice (some ⟨bt,0,none⟩) lw lw,.slice ps ls cs,.int .i64 sky,.int .i64 st]] v fun e w'=> ∃gb,e=.returned (.tuple #[.pointer (some ⟨gb,0,none⟩),.bool true])/\Below v.heap.size v w'/\GridOf n gb w'))
  (TS:Hid (∀v bt,Ab w v->v.rowIs bt 2 lw (fun _=>.int .i64 0)->Calls prog 30 #[.int .i64 sd,.agg #[.slice pb lb cb,.slice pw lw cw,.slice (some ⟨bt,0,none⟩) lw lw,.slice ps ls cs,.int .i64 sky,.int .i64 st],.int .i64 (t:Nat)] v fun e w'=> ∃vv,e=.returned (.tuple #[vv,.int .i64 0])/\Below v.heap.size v w'/\OwnS v.heap.size vv lb lw lw ls fa1 fa2 fa3 fa4 sky st w'))
  (OA:Hid (∀v gb p1 c1 p2 c2 p3 c3 p4 c4,Ab w v->GridOf n gb v->IsFl v p1 lb fa1->Sh.IsI v p2 lw fa2->Sh.IsI v p3 lw fa3->IsFl v p4 ls fa4->Calls prog 14 #[.pointer (some ⟨gb,0,none⟩),.agg #[.int .i64 sd,.float .f64 dt,.float .f64 gr,.float .f64 dr,.int .i64 lim,.bool false,.slice none 0 0],.agg #[.slice p1 lb c1,.slice p2 lw c2,.slice p3 lw c3,.slice p4 ls c4,.int .i64 sky,.int .i64 st]] v fun e w'=> ∃vv,e=.returned (.tuple #[vv,.int .i64 0])/\Below v.heap.size v w'/\OwnS v.heap.size vv lb lw lw ls fb1 fb2 fb3 fb4 sky st1 w'))
  (OS:Hid (∀v gb bt,Ab w v->GridOf n gb v->v.rowIs bt 2 lw (fun _=>.int .i64 0)->Calls prog 14 #[.pointer (some ⟨gb,0,none⟩),.agg #[.int .i64 sd,.float .f64 dt,.float .f64 gr,.float .f64 dr,.int .i64 lim,.bool false,.slice none 0 0],.agg #[.slice pb lb cb,.slice pw lw cw,.slice (some ⟨bt,0,none⟩) lw lw,.slice ps ls cs,.int .i64 sky,.int .i64 st]] v fun e w'=> ∃vv,e=.returned (.tuple #[vv,.int .i64 0])/\Below v.heap.size v w'/\OwnS v.heap.size vv lb lw lw ls fc1 fc2 fc3 fc4 sky st1 w'))
  (TC:Hid (∀v p1 c1 p2 c2 p3 c3 p4 c4,Ab w v->IsFl v p1 lb fc1->Sh.IsI v p2 lw fc2->Sh.IsI v p3 lw fc3->IsFl v p4 ls fc4->Calls prog 30 #[.int .i64 sd,.agg #[.slice p1 lb c1,.slice p2 lw c2,.slice p3 lw c3,.slice p4 ls c4,.int .i64 sky,.int .i64 st1],.int .i64 (t:Nat)] v fun e w'=> ∃vv,e=.returned (.tuple #[vv,.int .i64 0])/\Below v.heap.size v w'/\OwnS v.heap.size vv lb lw lw ls fd1 fd2 fd3 fd4 sky st1 w'))
  (BA:Hid (Bnd lb lw lw ls fa1 fa2 fa3 fa4)) (BB':Hid (Bnd lb lw lw ls fb1 fb2 fb3 fb4)) (BC:Hid (Bnd lb lw lw ls fc1 fc2 fc3 fc4)) (BD:Hid (Bnd lb lw lw ls fd1 fd2 fd3 fd4))
  (HL:Hid (lb<=131072/\lw<=131072/\lw<=131072/\ls<=131072)) (EQ:Hid (eqS lb lw lw ls fb1 fb2 fb3 fb4 sky st1 lb lw lw ls fd1 fd2 fd3 fd4 sky st1=true)):
  Calls prog 6 #[.agg #[.int .i64 sd,.float .f64 dt,.float .f64 gr,.float .f64 dr,.int .i64 lim,.bool rv,.slice pr lr cr],.agg #[.slice pb lb cb,.slice pw lw cw,.slice pt lt ct,.slice ps ls cs,.int .i64 sky,.int .i64 st],.int .i64 turn] w fun e w'=>e=.returned (.bool true)/\Below w.heap.size w w':=by
 have M2: ∀v:World,(Instr.makeSlice 27 (.int .i64 (lw:Nat)) (.int .i64 (lw:Nat))).run prog v=.ok (.slice (some ⟨v.heap.size,0,none⟩) lw lw) (v.alloc (Obj.cells (madeCells #[.int .i64 0] lw) 2)):=fun v=>run_make_row' (P:=prog) 27 2 (.int .i64 0) 8 underlying27 Sh.eG rfl .i64 .i64 lw (by omega) (by omega) v
 obtain⟨A0,R0,Q0⟩:=bT w (.cells #[.int .i64 sd,.float .f64 dt,.float .f64 gr,.float .f64 dr,.int .i64 lim,.bool rv,.slice pr lr cr] 25) (.cells #[.slice pb lb cb,.slice pw lw cw,.slice pt lt ct,.slice ps ls cs,.int .i64 sky,.int .i64 st] 29)
 go_enter func6,ntmps6
 go_upto_region 1 with fail
 generalize hW:World.alloc (World.alloc w _) _=V0 at*
 obtain⟨ga,hga⟩:=aD w.heap.size
 obtain⟨gq,hgq⟩:=aD (w.heap.size+1)
 have HGQ:Hid (w.heap.size<=ga/\w.heap.size<=gq):=by show _/\_;omega
 rw[hgq]at Q0 ⊢
 rw[hga]at R0 ⊢
 clear hga hgq hW
 go_wp2_with fail
 refine(LV.out V0 A0.out).mono ?_
 rintro e9 v1 ⟨rfl,b1⟩
 have A1:Hid (Ab w v1):=A0.out.trans b1
 have R1:=hid (Ab.heap b1 R0.out)
 have Q1:=hid (Ab.heap b1 Q0.out)
 clear b1 A0 R0 Q0 LV
 obtain⟨x0,x1,x2,x3,x4,x5,x6⟩:=aK R1.out
 have f0:=aE R1.out 0
 have f1:=aE R1.out 1
 have f2:=aE R1.out 2
 have f3:=aE R1.out 3
 have f4:=aE R1.out 4
 have f5:=aE R1.out 5
 have f6:=aE R1.out 6
 go_upto_region 5 with fail
 have GN:Hid (ga≠gq):=fun e=>by
  have h1:=R1.out
  have h2:=Q1.out
  rw[e,h2]at h1
  injection h1 with h1
  injection h1 with h1 h3
  exact absurd h3 (by decide)
 have A5:Hid (Ab w ((v1.setCell ⟨ga,6,none⟩ (.slice none 0 0)).setCell ⟨ga,5,none⟩ (.bool false))):=(A1.out.setk HGQ.out.1 _).setk HGQ.out.1 _
 have R5:Hid (((v1.setCell ⟨ga,6,none⟩ (.slice none 0 0)).setCell ⟨ga,5,none⟩ (.bool false)).heap[ga]? =some (.cells #[.int .i64 sd,.float .f64 dt,.float .f64 gr,.float .f64 dr,.int .i64 lim,.bool false,.slice none 0 0] 25)):=by
  have h1:=aJ (v:=.slice none 0 0) (k:=6) R1.out
  have h2:=aJ (v:=.bool false) (k:=5) h1
  show _=_
  simpa using h2
 have Q5:Hid (((v1.setCell ⟨ga,6,none⟩ (.slice none 0 0)).setCell ⟨ga,5,none⟩ (.bool false)).heap[gq]? =some (.cells #[.slice pb lb cb,.slice pw lw cw,.slice pt lt ct,.slice ps ls cs,.int .i64 sky,.int .i64 st] 29)):=(aO (Ne.symm GN.out)).trans ((aO (Ne.symm GN.out)).trans Q1.out)
 clear x0 x1 x2 x3 x4 x5 x6 f0 f1 f2 f3 f4 f5 f6 R1 Q1 A1
 generalize World.setCell _ _ _=v5 at*
 clear v1
 have y0:=aF Q5.out
 have z0:=aA 2 (Ab.heap (bl1 v5 (Obj.cells (madeCells #[.int .i64 0] lw) 2)) Q5.out)
 have z1:=aE (Ab.heap (bl1 v5 (Obj.cells (madeCells #[.int .i64 0] lw) 2)) Q5.out) 2
 go_upto_region 6 with fail
 have A2:Hid (Ab w ((v5.alloc (Obj.cells (madeCells #[.int .i64 0] lw) 2)).setCell ⟨gq,2,none⟩ (.slice (some ⟨v5.heap.size,0,none⟩) lw lw))):=(A5.out.alloc _).setk HGQ.out.2 _
 have R2:Hid (((v5.alloc (Obj.cells (madeCells #[.int .i64 0] lw) 2)).setCell ⟨gq,2,none⟩ (.slice (some ⟨v5.heap.size,0,none⟩) lw lw)).heap[ga]? =some (.cells #[.int .i64 sd,.float .f64 dt,.float .f64 gr,.float .f64 dr,.int .i64 lim,.bool false,.slice none 0 0] 25)):=(aO GN.out).trans (Ab.heap (bl1 _ _) R5.out)
 have Q2:Hid (((v5.alloc (Obj.cells (madeCells #[.int .i64 0] lw) 2)).setCell ⟨gq,2,none⟩ (.slice (some ⟨v5.heap.size,0,none⟩) lw lw)).heap[gq]? =some (.cells #[.slice pb lb cb,.slice pw lw cw,.slice (some ⟨v5.heap.size,0,none⟩) lw lw,.slice ps ls cs,.int .i64 sky,.int .i64 st] 29)):=by
  have h2:=aJ (v:=.slice (some ⟨v5.heap.size,0,none⟩) lw lw) (k:=2) (Ab.heap (bl1 v5 (Obj.cells (madeCells #[.int .i64 0] lw) 2)) Q5.out)
  show _=_
  simpa using h2
 have T2:Hid (((v5.alloc (Obj.cells (madeCells #[.int .i64 0] lw) 2)).setCell ⟨gq,2,none⟩ (.slice (some ⟨v5.heap.size,0,none⟩) lw lw)).rowIs v5.heap.size 2 lw (fun _=>.int .i64 0)):=(iK (heap_alloc_new v5 (Obj.cells (madeCells #[.int .i64 0] lw) 2))).setOther (a:=⟨gq,2,none⟩) (show v5.heap.size≠gq by have:=Rv.bI Q5.out;omega) _
 clear y0 z0 z1 R5 Q5 M2
 generalize World.setCell _ _ _=v2 at*
 obtain⟨bt,hbt⟩:=aD v5.heap.size
 rw[hbt]at Q2 T2 ⊢
 clear hbt A5 GN HGQ
 obtain⟨x0,x1,x2,x3,x4,x5,x6⟩:=aK R2.out
 have y0:=aF Q2.out
 go_wp2_with fail
 refine(GD.out v2 bt A2.out T2.out).mono ?_
 rintro e9 v3 ⟨gb,rfl,b3,g3⟩
 have A3:Hid (Ab w v3):=A2.out.trans b3
 have R3:=hid (Ab.heap b3 R2.out)
 have Q3:=hid (Ab.heap b3 Q2.out)
 have T3:=hid (rowIs.ab T2.out b3)
 have G3:=hid g3
 clear b3 g3 A2 R2 Q2 T2 GD x0 x1 x2 x3 x4 x5 x6 y0
 obtain⟨x0,x1,x2,x3,x4,x5,x6⟩:=aK R3.out
 have y0:=aF Q3.out
 go_wp2_with fail
 refine(TS.out v3 bt A3.out T3.out).mono ?_
 rintro e9 u4 ⟨vv,rfl,b4,os⟩
 obtain⟨hp1,hc1,hp2,hc2,hp3,hc3,hp4,hc4,rfl,sn⟩:=pA os BA.out
 have BB:Hid (Ab v3 (u4.alloc (.cells #[.slice hp1 lb hc1,.slice hp2 lw hc2,.slice hp3 lw hc3,.slice hp4 ls hc4,.int .i64 sky,.int .i64 st] 29))):=(show Ab v3 u4 from b4).trans (bl1 _ _)
 have Sh4:Hid (SeaP u4.heap.size hp1 hc1 hp2 hc2 hp3 hc3 hp4 hc4 lb lw lw ls fa1 fa2 fa3 fa4 sky st (u4.alloc (.cells #[.slice hp1 lb hc1,.slice hp2 lw hc2,.slice hp3 lw hc3,.slice hp4 ls hc4,.int .i64 sky,.int .i64 st] 29))):=⟨sn.1,sn.2.1⟩
 clear os sn b4 x0 x1 x2 x3 x4 x5 x6 y0
 go_upto_region 11 with fail
 generalize hW:World.alloc u4 _=v4 at*
 obtain⟨gh,hg⟩:=aD u4.heap.size
 rw[hg]at Sh4 ⊢
 clear hg hW
 have A4:Hid (Ab w v4):=A3.out.trans BB.out
 have R4:=hid (Ab.heap BB.out R3.out)
 have Q4:=hid (Ab.heap BB.out Q3.out)
 have G4:=hid (G3.out.to BB.out)
 clear A3 R3 Q3 G3
 have T4:=hid (rowIs.ab T3.out BB.out)
 clear BB T3
 obtain⟨x0,x1,x2,x3,x4,x5,x6⟩:=aK R4.out
 have y0:=aF Sh4.out.1
 go_wp2_with fail
 refine(OA.out v4 gb hp1 hc1 hp2 hc2 hp3 hc3 hp4 hc4 A4.out G4.out Sh4.out.2.1 Sh4.out.2.2.1 Sh4.out.2.2.2.1 Sh4.out.2.2.2.2).mono ?_
 rintro e9 u5 ⟨vv,rfl,b5,os⟩
 obtain⟨kp1,kc1,kp2,kc2,kp3,kc3,kp4,kc4,rfl,sn⟩:=pA os BB'.out
 have BB:Hid (Ab v4 (u5.alloc (.cells #[.slice kp1 lb kc1,.slice kp2 lw kc2,.slice kp3 lw kc3,.slice kp4 ls kc4,.int .i64 sky,.int .i64 st1] 29))):=(show Ab v4 u5 from b5).trans (bl1 _ _)
 have Sk5:Hid (SeaP u5.heap.size kp1 kc1 kp2 kc2 kp3 kc3 kp4 kc4 lb lw lw ls fb1 fb2 fb3 fb4 sky st1 (u5.alloc (.cells #[.slice kp1 lb kc1,.slice kp2 lw kc2,.slice kp3 lw kc3,.slice kp4 ls kc4,.int .i64 sky,.int .i64 st1] 29))):=⟨sn.1,sn.2.1⟩
 clear os sn b5 x0 x1 x2 x3 x4 x5 x6 y0
 go_upto_region 12 with fail
 generalize hW:World.alloc u5 _=v5 at*
 obtain⟨gk,hg⟩:=aD u5.heap.size
 rw[hg]at Sk5 ⊢
 clear hg hW
 have A5:Hid (Ab w v5):=A4.out.trans BB.out
 have R5:=hid (Ab.heap BB.out R4.out)
 have Q5:=hid (Ab.heap BB.out Q4.out)
 have G5:=hid (G4.out.to BB.out)
 have Sh5:=hid (mS Sh4.out BB.out)
 clear A4 R4 Q4 G4 Sh4
 have T5:=hid (rowIs.ab T4.out BB.out)
 clear BB T4
 obtain⟨x0,x1,x2,x3,x4,x5,x6⟩:=aK R5.out
 have y0:=aF Q5.out
 go_wp2_with fail
 refine(OS.out v5 gb bt A5.out G5.out T5.out).mono ?_
 rintro e9 u6 ⟨vv,rfl,b6,os⟩
 obtain⟨mp1,mc1,mp2,mc2,mp3,mc3,mp4,mc4,rfl,sn⟩:=pA os BC.out
 have BB:Hid (Ab v5 (u6.alloc (.cells #[.slice mp1 lb mc1,.slice mp2 lw mc2,.slice mp3 lw mc3,.slice mp4 ls mc4,.int .i64 sky,.int .i64 st1] 29))):=(show Ab v5 u6 from b6).trans (bl1 _ _)
 have Sm6:Hid (SeaP u6.heap.size mp1 mc1 mp2 mc2 mp3 mc3 mp4 mc4 lb lw lw ls fc1 fc2 fc3 fc4 sky st1 (u6.alloc (.cells #[.slice mp1 lb mc1,.slice mp2 lw mc2,.slice mp3 lw mc3,.slice mp4 ls mc4,.int .i64 sky,.int .i64 st1] 29))):=⟨sn.1,sn.2.1⟩
 clear os sn b6 x0 x1 x2 x3 x4 x5 x6 y0
 go_upto_region 13 with fail
 generalize hW:World.alloc u6 _=v6 at*
 obtain⟨gm,hg⟩:=aD u6.heap.size
 rw[hg]at Sm6 ⊢
 clear hg hW
 have A6:Hid (Ab w v6):=A5.out.trans BB.out
 have R6:=hid (Ab.heap BB.out R5.out)
 have Q6:=hid (Ab.heap BB.out Q5.out)
 have G6:=hid (G5.out.to BB.out)
 have Sh6:=hid (mS Sh5.out BB.out)
 have Sk6:=hid (mS Sk5.out BB.out)
 clear A5 R5 Q5 G5 Sh5 Sk5
 have T6:=hid (rowIs.ab T5.out BB.out)
 clear BB T5
 obtain⟨x0,x1,x2,x3,x4,x5,x6⟩:=aK R6.out
 have y0:=aF Sm6.out.1
 go_wp2_with fail
 refine(TC.out v6 mp1 mc1 mp2 mc2 mp3 mc3 mp4 mc4 A6.out Sm6.out.2.1 Sm6.out.2.2.1 Sm6.out.2.2.2.1 Sm6.out.2.2.2.2).mono ?_
 rintro e9 u7 ⟨vv,rfl,b7,os⟩
 obtain⟨op1,oc1,op2,oc2,op3,oc3,op4,oc4,rfl,sn⟩:=pA os BD.out
 have BB:Hid (Ab v6 (u7.alloc (.cells #[.slice op1 lb oc1,.slice op2 lw oc2,.slice op3 lw oc3,.slice op4 ls oc4,.int .i64 sky,.int .i64 st1] 29))):=(show Ab v6 u7 from b7).trans (bl1 _ _)
 have So7:Hid (SeaP u7.heap.size op1 oc1 op2 oc2 op3 oc3 op4 oc4 lb lw lw ls fd1 fd2 fd3 fd4 sky st1 (u7.alloc (.cells #[.slice op1 lb oc1,.slice op2 lw oc2,.slice op3 lw oc3,.slice op4 ls oc4,.int .i64 sky,.int .i64 st1] 29))):=⟨sn.1,sn.2.1⟩
 clear os sn b7 x0 x1 x2 x3 x4 x5 x6 y0
 go_upto_region 14 with fail
 generalize hW:World.alloc u7 _=v7 at*
 obtain⟨go,hg⟩:=aD u7.heap.size
 rw[hg]at So7 ⊢
 clear hg hW
 have A7:Hid (Ab w v7):=A6.out.trans BB.out
 have R7:=hid (Ab.heap BB.out R6.out)
 have Q7:=hid (Ab.heap BB.out Q6.out)
 have G7:=hid (G6.out.to BB.out)
 have Sh7:=hid (mS Sh6.out BB.out)
 have Sk7:=hid (mS Sk6.out BB.out)
 have Sm7:=hid (mS Sm6.out BB.out)
 clear A6 R6 Q6 G6 Sh6 Sk6 Sm6
 have T7:=hid (rowIs.ab T6.out BB.out)
 clear BB T6
 obtain⟨x0,x1,x2,x3,x4,x5⟩:=aF Sk7.out.1
 have y0:=aF So7.out.1
 have E1:=hid (BK kp1 lb kc1 fb1 kp2 lw kc2 fb2 kp3 lw kc3 fb3 kp4 ls kc4 fb4 sky st1 op1 lb oc1 fd1 op2 lw oc2 fd2 op3 lw oc3 fd3 op4 ls oc4 fd4 sky st1 v7 HL.out HL.out Sk7.out.2.1 Sk7.out.2.2.1 Sk7.out.2.2.2.1 Sk7.out.2.2.2.2 So7.out.2.1 So7.out.2.2.1 So7.out.2.2.2.1 So7.out.2.2.2.2 EQ.out)
 rw[EQ.out]at E1
 go_wp2_with fail
 refine E1.out.mono ?_
 rintro e9 v8 ⟨rfl,b8⟩
 have A8:Hid (Ab w v8):=A7.out.trans b8
 clear b8 E1 x0 x1 x2 x3 x4 x5 y0
 go_wp2
 go_ret
 exact⟨rfl,A8.out⟩
theorem mvT_0{n G dt D lr:Nat}{lim:Int}{R:Nat->Int × Int × Int × Int}{B:Nat->Nat}{W:Nat->Int}{S:Nat->Nat}{sky st:Int}(hp:okP n G dt D lr R)(h:okS n B W (fun _=>0) S sky st){c:Nat}(hc:c<6*n*n):mvT n lim G dt D B W (fun _=>0) S c=0:=by
 have m:=zL (lim:=lim) hp h
 have z: ∀k,Sh.sumN (fun _=>(0:Int)) k=0:=fun k=>by
  induction k with
  | zero=>rfl
  | succ k ih=>show Sh.sumN (fun _=>(0:Int)) k+0=0;omega
 have a:=nK m.1.1 hc
 have b:=m.1.1 c hc
 rw[m.2,z]at a
 omega
theorem zS(OC:OneF)(FC:FlowC)(PB:PlanB)(CB:CheckB)(TC:TurnedC){sd:Int}{dt gr dr:Nat}{lim:Int}{rv:Bool}{pr:Option Addr}{lr cr:Nat}{R:Nat->Int × Int × Int × Int}{pb:Option Addr}{lb cb:Nat}{B:Nat->Nat}{pw:Option Addr}{lw cw:Nat}{W:Nat->Int}{pt:Option Addr}{lt ct:Nat}{ps:Option Addr}{ls cs:Nat}{S:Nat->Nat}{sky st:Int}(turn:Int)(w:World)(hF:Fr w)(h64:Sh.W64 sd/\Sh.W64 lim/\Sh.W64 sky/\Sh.W64 st)(hf:dt<18446744073709551616/\gr<18446744073709551616/\dr<18446744073709551616)(hl:(lb<=281474976710656/\lw<=281474976710656/\lt<=281474976710656/\ls<=281474976710656))(hlw:lw<=17592186044416)(i1:IsFl w pb lb B)(i2:Sh.IsI w pw lw W)(i4:IsFl w ps ls S):
  Calls prog 6 #[.agg #[.int .i64 sd,.float .f64 dt,.float .f64 gr,.float .f64 dr,.int .i64 lim,.bool rv,.slice pr lr cr],.agg #[.slice pb lb cb,.slice pw lw cw,.slice pt lt ct,.slice ps ls cs,.int .i64 sky,.int .i64 st],.int .i64 turn] w fun e w'=>e=.returned (.bool true)/\Below w.heap.size w w':=by
 have LV:=fun v (a:Ab w v)=>Eg OC FC v (hF.to a)
 have zr: ∀v bt,v.rowIs bt 2 lw (fun _=>.int .i64 0)->Sh.IsI v (some ⟨bt,0,none⟩) lw (fun _=>0):=fun v bt h=>Sh.jD h (fun _ _=>(by show _<=(0:Int)/\(0:Int)<=_;omega))
 have n0: ∀v,Rn.IsRn v none 0 R:=fun v k hk=>absurd hk (Nat.not_lt_zero k)
 have hl2:lb<=281474976710656/\lw<=281474976710656/\lw<=281474976710656/\ls<=281474976710656:=⟨hl.1,hl.2.1,hl.2.1,hl.2.2.2⟩
 have GD:=fun v bt (a:Ab w v) (h:v.rowIs bt 2 lw (fun _=>.int .i64 0))=>IG PB CB sd dt gr dr lim false none 0 0 R pb lb cb B pw lw cw W (some ⟨bt,0,none⟩) lw lw (fun _=>0) ps ls cs S sky st v (hF.to a) h64 hf (by omega) hl2 (n0 v) (i1.below a) (i2.below a) (zr v bt h) (i4.below a)
 by_cases q:er2 sd dt gr dr lim 0 R lb lw lw ls B W (fun _=>0) S sky st=0
 ·obtain⟨sd32,pl0,ck0⟩:=er2_side q
  obtain⟨n,rfl⟩: ∃n:Nat,sd=(n:Nat):=⟨sd.toNat,by omega⟩
  have hn:1<=n/\n<=32:=by omega
  have er0:=zQ (n:=n) (sd:=(n:Nat)) rfl pl0 ck0
  obtain⟨-,-,-,⟨l1,l2,l3,l4⟩,oP,oS⟩:=er_ok er0 hf (fun i hi=>(i1 i hi).1) (fun i hi=>(i4 i hi).1)
  have p1:n*n<=32*32:=Nat.mul_le_mul hn.2 hn.2
  have q6:6*n*n=6*(n*n):=Nat.mul_assoc _ _ _
  have q12:12*n*n=12*(n*n):=Nat.mul_assoc _ _ _
  have GY:=fun v bt (a:Ab w v) h=>(GD v bt a h).1 q
  simp only[Int.toNat_natCast]at GY
  obtain⟨y1,hy1⟩:=aD (turn%18446744073709551616)
  have y0:0<=y1/\y1<18446744073709551616:=by omega
  obtain⟨t,ht⟩: ∃c:Nat,y1%24=c:=⟨(y1%24).toNat,by omega⟩
  have lt24:t<24:=by omega
  have ew:IntKind.u64.wrap turn=y1:=by rw[IntKind.wrap_u64,hy1]
  have et:y1.tmod 24=t:=by rw[Int.tmod_eq_emod_of_nonneg y0.1,ht]
  have w3:Sh.W64 ((t:Nat):Int):=by unfold Sh.W64;omega
  have cn: ∀e,e<12*n*n->cnF (S e):=fun e he=>bS_cn (oS.2.2 e he) (oS.1.2.2.2.2.1 e (by omega))
  have tS:okS n (tuC n t B) (tuC n t W) (tuC n t (fun _=>0)) (tuS n t S) sky st:=⟨Br hn.1 lt24 (fun e he=>(cn e he).1) oS.1,fun c hc=>oS.2.1 _ (iU hn.1 (eA t lt24).1 hc),fun e he=>(DX hn.1 lt24 cn he).1⟩
  have t0:tuC n t (fun _=>(0:Int))=fun _=>0:=rfl
  have q0:=BJ (t:=t) lt24 ck0
  have o1:=zM (lim:=lim) (rv:=false) oP oS
  have o2:=zM (lim:=lim) (rv:=false) oP tS
  have c1:(chk (n:Nat) lb lw lw ls B (riX n lim gr dt dr false 0 R B W (fun _=>0) S sky st).1 (riX n lim gr dt dr false 0 R B W (fun _=>0) S sky st).2 (spE n gr dt dr B W S) sky (stN st)).2=0:=congrArg Prod.snd (uG (by omega) (by rw[Int.toNat_natCast];exact⟨l1,l2,l2,by omega⟩) (by rw[Int.toNat_natCast];exact o1.1))
  have q1:=BJ (t:=t) lt24 c1
  have b1:=nM tS
  have b2:=nM o2
  have b3:=nM o1
  have cn1: ∀e,e<12*n*n->cnF (spE n gr dt dr B W S e):=fun e _=>D5 e
  have tO:okS n (tuC n t B) (tuC n t (riX n lim gr dt dr false 0 R B W (fun _=>0) S sky st).1) (tuC n t (riX n lim gr dt dr false 0 R B W (fun _=>0) S sky st).2) (tuS n t (spE n gr dt dr B W S)) sky (stN st):=⟨Br hn.1 lt24 (fun e he=>(cn1 e he).1) o1.1,fun c hc=>oS.2.1 _ (iU hn.1 (eA t lt24).1 hc),fun e he=>(DX hn.1 lt24 cn1 he).1⟩
  have b4:=nM tO
  rw[<- l1,<- l4]at b1 b2 b3 b4
  have l5:lb=lw:=by omega
  have wS:Sh.W64 sky/\Sh.W64 (stN st):=by
   have:=o1.1.2.2.2.2.2
   refine⟨h64.2.2.1,?_⟩
   unfold Sh.W64
   omega
  subst l5
  have hs:lb<=131072/\lb<=131072/\lb<=131072/\ls<=131072:=by omega
  refine BQ n n dt gr dr lim rv pr lr cr pb lb cb pw lb cw pt lt ct ps ls cs sky st turn y1 t _ _ _ _ _ _ _ _ _ _ _ _ _ _ _ _ (stN st) w hlw ew y0 et (by omega) LV GY
   (fun v bt a h=>(TC (n:Nat) pb lb cb B pw lb cw W (some ⟨bt,0,none⟩) lb lb (fun _=>0) ps ls cs S sky st (t:Nat) v (hF.to a) h64.1 h64.2.2.1 h64.2.2.2 w3 hs (i1.below a) (i2.below a) (zr v bt h) (i4.below a)).1 q0)
   (fun v gb p1 c1 p2 c2 p3 c3 p4 c4 a g k1 k2 k3 k4=>(OC n gb n dt gr dr lim none 0 0 R p1 lb c1 _ p2 lb c2 _ p3 lb c3 _ p4 ls c4 _ sky st v hn g (hF.to a) h64 hf (by omega) hl2 (n0 v) k1 k2 k3 k4).1 ?_)
   (fun v gb bt a g h=>(OC n gb n dt gr dr lim none 0 0 R pb lb cb B pw lb cw W (some ⟨bt,0,none⟩) lb lb (fun _=>0) ps ls cs S sky st v hn g (hF.to a) h64 hf (by omega) hl2 (n0 v) (i1.below a) (i2.below a) (zr v bt h) (i4.below a)).1 er0)
   (fun v p1 c1 p2 c2 p3 c3 p4 c4 a k1 k2 k3 k4=>(TC (n:Nat) p1 lb c1 _ p2 lb c2 _ p3 lb c3 _ p4 ls c4 _ sky (stN st) (t:Nat) v (hF.to a) h64.1 wS.1 wS.2 w3 hs k1 k2 k3 k4).1 q1)
   b1 b2 b3 b4 hs ?_
  ·refine zQ (n:=n) (sd:=(n:Nat)) rfl pl0 (congrArg Prod.snd (uG (by omega) (by rw[Int.toNat_natCast];exact⟨l1,l1,l1,by omega⟩) ?_))
   simp only[Int.toNat_natCast]
   exact tS.1
  ·show eqS _ _ _ _ _ _ _ _ _ _ _ _ _ _ _ _ _ _ _ _=true
   simp only[Int.toNat_natCast]
   unfold eqS
   rw[fR (fun _ _=>rfl),fR (fun i hi=> ?_),fR (fun i hi=> ?_),fR (fun e he=>spE_tu hn lt24 hf.2.1 hf.1 (fun c s=>D4 n c s) (Bw oS) (by omega))]
   ·simp
   ·rw[ri_0,ri_0]
    show mvT n lim gr dt dr (tuC n t B) (tuC n t W) (fun _=>0) (tuS n t S) i=tuC n t (mvT n lim gr dt dr B W (fun _=>0) S) i
    rw[mvT_0 oP tS (by omega)]
    exact(mvT_0 oP oS (iU hn.1 (eA t lt24).1 (by omega))).symm
   ·rw[ri_0,ri_0]
    exact step_tn hn lt24 hf.2.1 hf.1 (fun c s=>D4 n c s) (fun c s=>LnC_lt n c s) (Bw oS) (by omega)
 ·have GN:=fun v bt (a:Ab w v) h=>(GD v bt a h).2 q
  exact BP sd dt gr dr lim rv pr lr cr pb lb cb pw lw cw pt lt ct ps ls cs sky st turn w hlw LV GN
end St
end
section
open Go.RowKit Tf Cu Go.Deep
attribute [local go_sem] aL aM aV aW aX aY aZ aG
namespace Ss
theorem edgeT_go(n gb r i l s rcl bkl c q u a:Nat)(g:Int)(w:World)(sB:s<4)(qB:q<4)(hu:(s+q)%4=u)
  (CE:Hid (∀v,Ab w v->Calls prog 73 #[.pointer (some ⟨gb,0,none⟩),.int .i64 (i:Nat)] v fun e w'=>e=.returned (.tuple #[.agg #[.int .i64 (l:Nat),.int .i64 (s:Nat),.int .i64 (rcl:Nat),.int .i64 (bkl:Nat)],.bool true])/\Below v.heap.size v w'))
  (CS:Hid (∀v,Ab w v->Calls prog 109 #[.pointer (some ⟨gb,0,none⟩)] v fun e w'=>e=.returned (.int .i64 (n:Nat))/\Below v.heap.size v w'))
  (CT:Hid (∀v,Ab w v->Calls prog 96 #[.int .i64 (n:Nat),.int .i64 (r:Nat),.int .i64 (l:Nat)] v fun e w'=>e=.returned (.tuple #[.int .i64 (c:Nat),.int .i64 (q:Nat)])/\Below v.heap.size v w'))
  (CA:Hid (∀v,Ab w v->Calls prog 33 #[.pointer (some ⟨gb,0,none⟩),.int .i64 (c:Nat),.int .i64 (u:Nat)] v fun e w'=>e=.returned (.tuple #[.int .i64 (a:Nat),.int .i64 g])/\Below v.heap.size v w')):
  Calls prog 97 #[.pointer (some ⟨gb,0,none⟩),.int .i64 (r:Nat),.int .i64 (i:Nat)] w fun e w'=>e=.returned (.tuple #[.int .i64 (a:Nat),.int .i64 g])/\Below w.heap.size w w':=by
 have rm:((s:Int)+(q:Int)).tmod 4=(u:Nat):=by rw[Int.tmod_eq_emod_of_nonneg (by omega)];omega
 have sI:(s:Int)<4:=by omega
 have qI:(q:Int)<4:=by omega
 clear sB qB hu
 go_enter func97,ntmps97
 go_wp2_with fail
 refine(CE.out w (Ab.refl w)).mono ?_
 rintro e9 v1 ⟨rfl,b1⟩
 have A1:Hid (Ab w v1):=b1
 clear b1 CE
 have E2:=hid (heap_alloc_new v1 (.cells #[.int .i64 (l:Nat),.int .i64 (s:Nat),.int .i64 (rcl:Nat),.int .i64 (bkl:Nat)] 116))
 have A2:Hid (Ab w (v1.alloc (.cells #[.int .i64 (l:Nat),.int .i64 (s:Nat),.int .i64 (rcl:Nat),.int .i64 (bkl:Nat)] 116))):=A1.out.trans (bl1 _ _)
 go_upto_region 2 with fail
 generalize hW:World.alloc v1 _=v2 at*
 obtain⟨ge,hge⟩:=aD v1.heap.size
 rw[hge]at E2 ⊢
 clear hge hW A1
 obtain⟨UU,E,hF1,hF2⟩:=cls v2
 have HU:=hid hF2
 have HU1:=hid hF1
 have y0: ∀u,(E u).cell? ⟨ge,0,none⟩=some (.int .i64 (l:Nat)):=fun u=>aA 0 ((hF1 u).heap E2.out)
 have HX:Hid (∀u,Ab w (E u)):=fun u=>A2.out.trans (hF1 u)
 have DD0:=HU.out _ (Ab.refl v2).drew
 clear hF1 hF2
 refine aP E (by kernel_rfl) (by kernel_rfl) DD0 ?_
 repeat(go_big_quiet_step (first
  | (go_at_call 109;exact aH HU HU1 (CS.out _ (HX.out _)))
  | (go_at_call 96;exact aH HU HU1 (CT.out _ (HX.out _)))
  | (with_reducible rfl)))
 refine wpQuiet_nil ?_
 intro v3 hwz
 obtain⟨u0,hu⟩:=hwz
 have A3:Hid (Ab v2 v3):=by rw[hu];exact HU1.out u0
 clear hu u0
 clear HU HU1 DD0 y0 HX
 clear E UU
 have y1:=aA 1 (A3.out.heap E2.out)
 go_wp2_with fail
 refine(CA.out v3 (A2.out.trans A3.out)).mono ?_
 rintro e9 v4 ⟨rfl,b4⟩
 have A4:Hid (Ab w v4):=(A2.out.trans A3.out).trans b4
 clear b4 y1
 go_wp2
 go_ret2
 exact⟨rfl,A4.out⟩
theorem edgeT_at{n gb r i:Nat}{w:World}(hn:1<=n/\n<=32)(hr:r<24)(hi:i<12*n*n)(g:GridOf n gb w)(hF:Fr w):
  Calls prog 97 #[.pointer (some ⟨gb,0,none⟩),.int .i64 (r:Nat),.int .i64 (i:Nat)] w fun e w'=>e=.returned (.tuple #[.int .i64 (atS n r i:Nat),.int .i64 (eS n (tnT n r (edT n i)))])/\Below w.heap.size w w':=by
 obtain⟨h1,h2,h3⟩:=bH hn.1 hi
 refine edgeT_go n gb r i (edT n i/4) (edT n i%4) (bsC n (edT n i/4) (edT n i%4)) (bsS n (edT n i/4) (edT n i%4)) (tnC n r (edT n i/4)) (tnS n r (edT n i/4)) _ _ _ w (Nat.mod_lt _ (by omega)) (zC hn.1 (aN h1) hr).2 rfl (fun v a=> ?_) (fun v a=> ?_) (fun v a=> ?_) (fun v a=> ?_)
 ·have e:=jR hn h1 h2 (g.to a)
  rw[h3]at e
  exact e
 ·exact(Be (g.to a)).mono fun e w' h=>⟨h.1,by rw[h.2];exact Below.refl _ _⟩
 ·exact Ft n r (edT n i/4) v hn (aN h1) hr (hF.to a)
 ·exact Ik hn (iU hn.1 hr (aN h1)) (Nat.mod_lt _ (by omega)) (g.to a)
end Ss
end
section
open Go.RowKit
namespace Cg
abbrev Ix:=Option Nat × Nat
abbrev Sp:=Nat->Option ((Ix->World->Prop) × (Ix->Value))
def Stable(sp:Sp):Prop:= ∀i R mk,sp i=some (R,mk)-> ∀x w w',R x w->Ab w w'->R x w'
def Fresh(W:World)(S:Nat->Option Ix)(x:Ix):Prop:= ∀b,x.1=some b->W.heap.size<=b/\ ∀i y,S i=some y->y.1≠some b
def putL(S:Nat->Option Ix)(i:Nat)(x:Ix):Nat->Option Ix:=fun k=>if k=i then some x else S k
def Has(W:World)(sp:Sp)(S:Nat->Option Ix)(w:World):Prop:=Ab W w/\ ∀i x,S i=some x->(∀b,x.1=some b->W.heap.size<=b/\b<w.heap.size)/\ ∃R mk,sp i=some (R,mk)/\R x w
theorem qO(S:Nat->Option Ix){i j:Nat}(b c:Ix)(h:i≠j):putL (putL S i b) j c=putL (putL S j c) i b:=by
 funext k
 unfold putL
 by_cases e:k=j
 ·subst e;simp[Ne.symm h]
 ·by_cases e2:k=i
  ·subst e2;simp[e]
  ·simp[e,e2]
theorem Fresh.put{W:World}{S:Nat->Option Ix}{i:Nat}{x y:Ix}(h:Fresh W S y)(n: ∀b,y.1=some b->x.1≠some b):Fresh W (putL S i x) y:=
 fun b hb=>⟨(h b hb).1,fun k z e=>by
  unfold putL at e
  by_cases q:k=i
  ·rw[if_pos q]at e;injection e with e;rw[<- e];exact n b hb
  ·rw[if_neg q]at e;exact(h b hb).2 k z e⟩
theorem Fresh.of_put{W:World}{S:Nat->Option Ix}{i:Nat}{x y:Ix}(h:Fresh W (putL S i x) y)(hi:S i=none):Fresh W S y/\ ∀b,y.1=some b->x.1≠some b:=by
 refine⟨fun b hb=>⟨(h b hb).1,fun k z e=>(h b hb).2 k z ?_⟩,fun b hb=>(h b hb).2 i x (by simp[putL])⟩
 unfold putL
 by_cases q:k=i
 ·subst q;rw[hi]at e;cases e
 ·rw[if_neg q];exact e
theorem Has.lay{W:World}{sp:Sp}(st:Stable sp){S:Nat->Option Ix}{w w1:World}(h:Has W sp S w){i:Nat}{x:Ix}{R:Ix->World->Prop}{mk:Ix->Value}(e:sp i=some (R,mk))(a:Ab w w1)(hb: ∀b,x.1=some b->w.heap.size<=b/\b<w1.heap.size)(ho:R x w1):Has W sp (putL S i x) w1:=
 ⟨h.1.trans a,fun k c q=>by
  unfold putL at q
  by_cases z:k=i
  ·subst z
   rw[if_pos rfl]at q
   injection q with q
   subst q
   exact⟨fun b e2=>⟨Nat.le_trans h.1.size (hb b e2).1,(hb b e2).2⟩,R,mk,e,ho⟩
  ·rw[if_neg z]at q
   obtain⟨h1,R',mk',h2,h3⟩:=h.2 k c q
   exact⟨fun b e2=>⟨(h1 b e2).1,Nat.lt_of_lt_of_le (h1 b e2).2 a.size⟩,R',mk',h2,st k R' mk' h2 c w w1 h3 a⟩⟩
theorem Has.freshb{W:World}{sp:Sp}{S:Nat->Option Ix}{w:World}(h:Has W sp S w){x:Ix}(hb: ∀b,x.1=some b->w.heap.size<=b):Fresh W S x:=
 fun b e=>⟨Nat.le_trans h.1.size (hb b e),fun i y e2 e3=>by
  have h1:=((h.2 i y e2).1 b e3).2
  have h2:=hb b e
  omega⟩
section
variable {P:Program} {ops:Array Oper} {md:Region.Mode} {W:World} {sp:Sp}
def YF(P:Program)(ops:Array Oper)(W:World)(o:Oper)(v:Value)(a:Act):Prop:=
 (Region.wanted o (yielded ops a.tmps)=true/\ ∀w,Ab W w->(execOp a.eval o).run P w=.ok (.value v) w)\/(Region.wanted o (yielded ops a.tmps)=false/\v=undef)
def LayR(P:Program)(w:World)(ob:Ix->World->Prop)(mk:Ix->Value):Result Next->Prop
 | .ok (.value u) w1=> ∃x,u=mk x/\Ab w w1/\(∀b,x.1=some b->w.heap.size<=b/\b<w1.heap.size)/\ob x w1
 | .ok (.enter f args) w1=>w1=w/\Calls P f args w (fun e w2=> ∃x,e=.returned (mk x)/\Ab w w2/\(∀b,x.1=some b->w.heap.size<=b/\b<w2.heap.size)/\ob x w2)
 | _=>False
def LF(P:Program)(ops:Array Oper)(W:World)(o:Oper)(ob:Ix->World->Prop)(mk:Ix->Value)(a:Act):Prop:=
 Region.wanted o (yielded ops a.tmps)=true/\ ∀w,Ab W w->LayR P w ob mk ((execOp a.eval o).run P w)
theorem YF.same{o:Oper}{v:Value}{a a':Act}(h:YF P ops W o v a)(he:execOp a'.eval o=execOp a.eval o)(hw:Region.wanted o (yielded ops a'.tmps)=Region.wanted o (yielded ops a.tmps)):YF P ops W o v a':=by
 unfold YF at*
 rw[he,hw]
 exact h
theorem LF.same{o:Oper}{ob:Ix->World->Prop}{mk:Ix->Value}{a a':Act}(h:LF P ops W o ob mk a)(he:execOp a'.eval o=execOp a.eval o)(hw:Region.wanted o (yielded ops a'.tmps)=Region.wanted o (yielded ops a.tmps)):LF P ops W o ob mk a':=by
 unfold LF at*
 rw[he,hw]
 exact h
theorem YF.one{o:Oper}{v u:Value}{a:Act}(h:YF P ops W o v a)(k:YF P ops W o u a):v=u:=by
 rcases h with⟨w1,h⟩ | ⟨w1,rfl⟩
 ·rcases k with⟨_,k⟩ | ⟨w2,_⟩
  ·have:=(h W (Ab.refl W)).symm.trans (k W (Ab.refl W))
   injection this with e
   injection e
  ·rw[w1]at w2;cases w2
 ·rcases k with⟨w2,_⟩ | ⟨_,rfl⟩
  ·rw[w1]at w2;cases w2
  ·rfl
def fOp(P:Program)(ops:Array Oper)(W:World)(sp:Sp)(i:Nat)(K:Act->(Nat->Option Ix)->Prop)(a:Act)(S:Nat->Option Ix):Prop:=
 match ops[i]? with
 | none=>K a S
 | some o=>
  match sp i with
  | none=> ∃v,YF P ops W o v a/\K (a.put o.dst v) S
  | some (ob,mk)=>LF P ops W o ob mk a/\ ∀b,Fresh W S b->K (a.put o.dst (mk b)) (putL S i b)
theorem lS{i:Nat}{K K':Act->(Nat->Option Ix)->Prop}{a:Act}{S:Nat->Option Ix}(h: ∀a S,K a S->K' a S)(hh:fOp P ops W sp i K a S):fOp P ops W sp i K' a S:=by
 unfold fOp at*
 cases ho:ops[i]? with
 | none=>simp only[ho]at hh ⊢;exact h _ _ hh
 | some o=>
  cases hs:sp i with
  | none=>
   simp only[ho,hs]at hh ⊢
   obtain⟨v,h1,h2⟩:=hh
   exact⟨v,h1,h _ _ h2⟩
  | some x=>
   simp only[ho,hs]at hh ⊢
   exact⟨hh.1,fun b hb=>h _ _ (hh.2 b hb)⟩
def wpAnyF(P:Program)(md:Region.Mode)(ops:Array Oper)(W:World)(sp:Sp)(Q:Act->(Nat->Option Ix)->Prop):Nat->Array Bool->Act->(Nat->Option Ix)->Prop
 | 0,listed,a,S=>Region.ready md ops listed=[]/\Q a S
 | fuel+1,listed,a,S=>
  (Region.ready md ops listed=[]->Q a S)/\
  ∀i ∈ Region.ready md ops listed,fOp P ops W sp i (wpAnyF P md ops W sp Q fuel (listed.setIfInBounds i true)) a S
def Tidy(listed:Array Bool)(S:Nat->Option Ix):Prop:= ∀k,listed.getD k true=false->S k=none
theorem xE(W:World)(S:Nat->Option Ix): ∃x,Fresh W S x:=⟨(none,0),fun b e=>by cases e⟩
theorem Tidy.set{listed:Array Bool}{S:Nat->Option Ix}(h:Tidy listed S)(j:Nat):Tidy (listed.setIfInBounds j true) S:=
 fun k hk=>by
  by_cases e:j=k
  ·subst e
   by_cases l:j<listed.size
   ·simp[l]at hk
   ·exact h j (by rw[Array.setIfInBounds_eq_of_size_le (by omega)]at hk;exact hk)
  ·rw[getD_set_ne true e]at hk;exact h k hk
theorem Tidy.lay{listed:Array Bool}{S:Nat->Option Ix}(h:Tidy listed S){j:Nat}(hj:listed.getD j true=false)(b:Ix):Tidy (listed.setIfInBounds j true) (putL S j b):=by
 refine fun k hk=> ?_
 by_cases e:j=k
 ·subst e
  by_cases l:j<listed.size
  ·simp[l]at hk
  ·simp[l]at hj
 ·rw[getD_set_ne true e]at hk
  unfold putL
  rw[if_neg (Ne.symm e)]
  exact h k hk
theorem uD{j:Nat}{oi oj:Oper}{v:Value}(hj:ops[j]? =some oj)(hap:oi.apart ops oj=true)(hsi: ∀cs b,oi.op≠ .select cs b)(hsj: ∀cs b,oj.op≠ .select cs b)
  {K:Act->(Nat->Option Ix)->Prop} {a:Act} {S:Nat->Option Ix} (hy:YF P ops W oi v a) (h:fOp P ops W sp j K (a.put oi.dst v) S):
  fOp P ops W sp j (fun a' S'=>YF P ops W oi v a'/\K (a'.put oi.dst v) S') a S:=by
 obtain⟨h1,h2,h3⟩:=Oper.apart_spec hap
 have keep: ∀u,YF P ops W oi v (a.put oj.dst u):=fun u=>hy.same (execOp_put oi hsi a oj.dst u h3) (wanted_put oi a oj.dst u h3)
 unfold fOp at*
 cases hs:sp j with
 | none=>
  simp only[hj,hs]at h ⊢
  obtain⟨u,hu,hk⟩:=h
  exact⟨u,hu.same (execOp_put oj hsj a oi.dst v h1).symm (wanted_put oj a oi.dst v h1).symm,keep u,by rw[<- Act.put_comm a v u h2];exact hk⟩
 | some x=>
  simp only[hj,hs]at h ⊢
  exact⟨h.1.same (execOp_put oj hsj a oi.dst v h1).symm (wanted_put oj a oi.dst v h1).symm,fun b hb=>⟨keep _,by rw[<- Act.put_comm a v _ h2];exact h.2 b hb⟩⟩
theorem uE{i j:Nat}{oi oj:Oper}{ob:Ix->World->Prop}{mk:Ix->Value}(hij:i≠j)(hj:ops[j]? =some oj)(hap:oi.apart ops oj=true)(hsi: ∀cs b,oi.op≠ .select cs b)(hsj: ∀cs b,oj.op≠ .select cs b)
  {K:Act->(Nat->Option Ix)->Prop} {a:Act} {S:Nat->Option Ix} (hSj:S j=none) (hy:LF P ops W oi ob mk a) (h: ∀b,Fresh W S b->fOp P ops W sp j K (a.put oi.dst (mk b)) (putL S i b)):
  fOp P ops W sp j (fun a' S'=>LF P ops W oi ob mk a'/\ ∀b,Fresh W S' b->K (a'.put oi.dst (mk b)) (putL S' i b)) a S:=by
 obtain⟨h1,h2,h3⟩:=Oper.apart_spec hap
 have keep: ∀u,LF P ops W oi ob mk (a.put oj.dst u):=fun u=>hy.same (execOp_put oi hsi a oj.dst u h3) (wanted_put oi a oj.dst u h3)
 obtain⟨b0,hb0⟩:=xE W S
 unfold fOp at*
 cases hs:sp j with
 | none=>
  simp only[hj,hs]at h ⊢
  obtain⟨u,hu,_⟩:=h b0 hb0
  have hu':YF P ops W oj u a:=hu.same (execOp_put oj hsj a oi.dst _ h1).symm (wanted_put oj a oi.dst _ h1).symm
  refine⟨u,hu',keep u,fun b hb=> ?_⟩
  obtain⟨u2,hu2,hk⟩:=h b hb
  have e:u2=u:=YF.one (hu2.same (execOp_put oj hsj a oi.dst _ h1).symm (wanted_put oj a oi.dst _ h1).symm) hu'
  subst e
  rw[<- Act.put_comm a (mk b) u2 h2]
  exact hk
 | some x=>
  simp only[hj,hs]at h ⊢
  refine⟨(h b0 hb0).1.same (execOp_put oj hsj a oi.dst _ h1).symm (wanted_put oj a oi.dst _ h1).symm,fun c hc=>⟨keep _,fun b hb=> ?_⟩⟩
  obtain⟨q1,q2⟩:=hb.of_put hSj
  have:=(h b q1).2 c (hc.put (fun d e e2=>q2 d e2 e))
  rw[qO S b c hij,Act.put_comm a (mk b) _ h2]at this
  exact this
theorem firstY{Q:Act->(Nat->Option Ix)->Prop}{i:Nat}{oi:Oper}{v:Value}(hi:ops[i]? =some oi)(hsp:sp i=none)(hsel: ∀(j:Nat) (o:Oper) cs b,ops[j]? =some o->o.op≠ .select cs b):
  ∀(fuel:Nat) (listed:Array Bool) (a:Act) (S:Nat->Option Ix),
   (∀j oj,ops[j]? =some oj->j≠i->listed.getD j true=false->(∀e ∈ oj.after,Region.binds md e=true->e.on≠i)->oi.apart ops oj=true)->
   i ∈ Region.ready md ops listed->YF P ops W oi v a->
   wpAnyF P md ops W sp Q fuel (listed.setIfInBounds i true) (a.put oi.dst v) S->wpAnyF P md ops W sp Q (fuel+1) listed a S:=by
 have go: ∀(K:Act->(Nat->Option Ix)->Prop) (a:Act) (S:Nat->Option Ix),YF P ops W oi v a->K (a.put oi.dst v) S->fOp P ops W sp i K a S:=fun K a S hy h=>by
  unfold fOp;simp only[hi,hsp];exact⟨v,hy,h⟩
 intro fuel
 induction fuel with
 | zero=>
  intro listed a S _ hr hy H
  refine⟨fun h=>(by rw[h]at hr;cases hr),fun j hj=> ?_⟩
  by_cases hji:j=i
  ·subst hji;exact go _ _ _ hy H
  ·have:=ready_mono hj hji
   rw[H.1]at this
   cases this
 | succ fuel ih=>
  intro listed a S hfree hr hy H
  refine⟨fun h=>(by rw[h]at hr;cases hr),fun j hj=> ?_⟩
  by_cases hji:j=i
  ·subst hji;exact go _ _ _ hy H
  ·have h1:=H.2 j (ready_mono hj hji)
   obtain⟨hjun,oj,hoj,hall⟩:=mem_ready.1 hj
   have hnot: ∀e ∈ oj.after,Region.binds md e=true->e.on≠i:=fun e he hb heq=>by
    have h1:=hall e he hb
    have h0:=(mem_ready.1 hr).1
    rw[heq]at h1
    rcases Nat.lt_or_ge i listed.size with h' | h'
    ·simp[h']at h0 h1;rw[h0]at h1;cases h1
    ·simp[Array.getElem?_eq_none h']at h1
   have h2:=uD hoj (hfree j oj hoj hji hjun hnot) (fun cs b=>hsel i oi cs b hi) (fun cs b=>hsel j oj cs b hoj) hy h1
   have hfree': ∀k ok,ops[k]? =some ok->k≠i->(listed.setIfInBounds j true).getD k true=false->
     (∀e ∈ ok.after,Region.binds md e=true->e.on≠i)->oi.apart ops ok=true:=fun k ok hk hki hun hno=>by
    refine hfree k ok hk hki ?_ hno
    by_cases hjk:j=k
    ·subst hjk;exact hjun
    ·rw[getD_set_ne true hjk]at hun;exact hun
   refine lS (fun a' S' h3=>ih (listed.setIfInBounds j true) a' S' hfree' (ready_mono hr (Ne.symm hji)) h3.1 ?_) h2
   rw[Array.setIfInBounds_comm _ _ hji]
   exact h3.2
theorem firstL{Q:Act->(Nat->Option Ix)->Prop}{i:Nat}{oi:Oper}{ob:Ix->World->Prop}{mk:Ix->Value}(hi:ops[i]? =some oi)(hsp:sp i=some (ob,mk))(hsel: ∀(j:Nat) (o:Oper) cs b,ops[j]? =some o->o.op≠ .select cs b):
  ∀(fuel:Nat) (listed:Array Bool) (a:Act) (S:Nat->Option Ix),Tidy listed S->
   (∀j oj,ops[j]? =some oj->j≠i->listed.getD j true=false->(∀e ∈ oj.after,Region.binds md e=true->e.on≠i)->oi.apart ops oj=true)->
   i ∈ Region.ready md ops listed->LF P ops W oi ob mk a->
   (∀b,Fresh W S b->wpAnyF P md ops W sp Q fuel (listed.setIfInBounds i true) (a.put oi.dst (mk b)) (putL S i b))->wpAnyF P md ops W sp Q (fuel+1) listed a S:=by
 have go: ∀(K:Act->(Nat->Option Ix)->Prop) (a:Act) (S:Nat->Option Ix),LF P ops W oi ob mk a->(∀b,Fresh W S b->K (a.put oi.dst (mk b)) (putL S i b))->fOp P ops W sp i K a S:=fun K a S hy h=>by
  unfold fOp;simp only[hi,hsp];exact⟨hy,h⟩
 intro fuel
 induction fuel with
 | zero=>
  intro listed a S ty _ hr hy H
  refine⟨fun h=>(by rw[h]at hr;cases hr),fun j hj=> ?_⟩
  by_cases hji:j=i
  ·subst hji;exact go _ _ _ hy H
  ·obtain⟨b,hb⟩:=xE W S
   have:=ready_mono hj hji
   rw[(H b hb).1]at this
   cases this
 | succ fuel ih=>
  intro listed a S ty hfree hr hy H
  refine⟨fun h=>(by rw[h]at hr;cases hr),fun j hj=> ?_⟩
  by_cases hji:j=i
  ·subst hji;exact go _ _ _ hy H
  ·have h1:=fun b hb=>(H b hb).2 j (ready_mono hj hji)
   obtain⟨hjun,oj,hoj,hall⟩:=mem_ready.1 hj
   have hnot: ∀e ∈ oj.after,Region.binds md e=true->e.on≠i:=fun e he hb heq=>by
    have h1:=hall e he hb
    have h0:=(mem_ready.1 hr).1
    rw[heq]at h1
    rcases Nat.lt_or_ge i listed.size with h' | h'
    ·simp[h']at h0 h1;rw[h0]at h1;cases h1
    ·simp[Array.getElem?_eq_none h']at h1
   have hap:=hfree j oj hoj hji hjun hnot
   have hfree': ∀k ok,ops[k]? =some ok->k≠i->(listed.setIfInBounds j true).getD k true=false->
     (∀e ∈ ok.after,Region.binds md e=true->e.on≠i)->oi.apart ops ok=true:=fun k ok hk hki hun hno=>by
    refine hfree k ok hk hki ?_ hno
    by_cases hjk:j=k
    ·subst hjk;exact hjun
    ·rw[getD_set_ne true hjk]at hun;exact hun
   have h2:=uE (Ne.symm hji) hoj hap (fun cs b=>hsel i oi cs b hi) (fun cs b=>hsel j oj cs b hoj) (ty j hjun) hy h1
   -- what j leaves is tidy
   have h4:fOp P ops W sp j (fun a' S'=>Tidy (listed.setIfInBounds j true) S'/\LF P ops W oi ob mk a'/\ ∀b,Fresh W S' b->wpAnyF P md ops W sp Q fuel ((listed.setIfInBounds i true).setIfInBounds j true) (a'.put oi.dst (mk b)) (putL S' i b)) a S:=by
    unfold fOp at h2 ⊢
    cases hs:sp j with
    | none=>
     simp only[hoj,hs]at h2 ⊢
     obtain⟨u,hu,hk⟩:=h2
     exact⟨u,hu,ty.set j,hk⟩
    | some x=>
     simp only[hoj,hs]at h2 ⊢
     exact⟨h2.1,fun b hb=>⟨ty.lay hjun b,h2.2 b hb⟩⟩
   refine lS (fun a' S' h3=>ih (listed.setIfInBounds j true) a' S' h3.1 hfree' (ready_mono hr (Ne.symm hji)) h3.2.1 (fun b hb=> ?_)) h4
   rw[Array.setIfInBounds_comm _ _ hji]
   exact h3.2.2 b hb
def wpFree(P:Program)(ops:Array Oper)(W:World)(sp:Sp)(Q:Act->(Nat->Option Ix)->Prop):List Oper->Nat->Act->(Nat->Option Ix)->Prop
 | [],_,a,S=>Q a S
 | o :: rest,k,a,S=>
  match sp k with
  | none=> ∃v,YF P ops W o v a/\wpFree P ops W sp Q rest (k+1) (a.put o.dst v) S
  | some (ob,mk)=>LF P ops W o ob mk a/\ ∀b,Fresh W S b->wpFree P ops W sp Q rest (k+1) (a.put o.dst (mk b)) (putL S k b)
theorem fG{Q:Act->(Nat->Option Ix)->Prop}(hs:Region.noSelect ops=true): ∀(l:List Oper) (k:Nat) (listed:Array Bool) (a:Act) (S:Nat->Option Ix),(∀j,l[j]? =ops[k+j]?)->Tidy listed S->
  Region.lexFrom md ops l.length k listed=true->wpFree P ops W sp Q l k a S->wpAnyF P md ops W sp Q l.length listed a S
 | [],_,_,_,_,_,_,hB,h=>⟨by simpa [Region.lexFrom]using hB,h⟩
 | o :: l,k,listed,a,S,hl,ty,hB,h=>by
  have h0:ops[k]? =some o:=by simpa using(hl 0).symm
  simp only[List.length_cons,Region.lexFrom,Bool.and_eq_true]at hB
  obtain⟨⟨hr,hf⟩,hB'⟩:=hB
  have hr':k ∈ Region.ready md ops listed:=by simpa using hr
  have hl': ∀j,l[j]? =ops[k+1+j]? :=fun j=>by have:=hl (j+1);simpa [Nat.add_assoc,Nat.add_comm 1 j]using this
  cases hsp:sp k with
  | none=>
   simp only[wpFree,hsp]at h
   obtain⟨v,hy,hK⟩:=h
   exact firstY h0 hsp (Region.noSelect_spec hs) l.length listed a S (Region.free_spec h0 hf) hr' hy
    (fG hs l (k+1) _ _ _ hl' (ty.set k) hB' hK)
  | some x=>
   obtain⟨ob,mk⟩:=x
   simp only[wpFree,hsp]at h
   exact firstL h0 hsp (Region.noSelect_spec hs) l.length listed a S ty (Region.free_spec h0 hf) hr' h.1
    (fun b hb=>fG hs l (k+1) _ _ _ hl' (ty.lay (mem_ready.1 hr').1 b) hB' (h.2 b hb))
theorem lU(stb:Stable sp){i:Nat}{a:Act}{S:Nat->Option Ix}{K:Act->(Nat->Option Ix)->Prop}{K':Act->World->Prop}{Q':Exit->Act->World->Prop}{w:World}(hC:Has W sp S w)(h: ∀a S w',Has W sp S w'->K a S->K' a w')(hh:fOp P ops W sp i K a S):wpOp P ops Q' i K' a w:=by
 unfold fOp at hh
 unfold wpOp
 cases ho:ops[i]? with
 | none=>simp only[ho]at hh ⊢;exact h _ _ _ hC hh
 | some o=>
  cases hs:sp i with
  | none=>
   simp only[ho,hs]at hh ⊢
   obtain⟨v,hy,hk⟩:=hh
   rcases hy with⟨w1,hv⟩ | ⟨w1,rfl⟩
   ·rw[if_pos w1]
    refine .inl ?_
    unfold Oper.wp
    rw[hv w hC.1]
    exact h _ _ _ hC hk
   ·rw[if_neg (by rw[w1];exact Bool.false_ne_true)]
    exact h _ _ _ hC hk
  | some x=>
   obtain⟨ob,mk⟩:=x
   simp only[ho,hs]at hh ⊢
   obtain⟨⟨w1,hv⟩,hk⟩:=hh
   rw[if_pos w1]
   refine .inl ?_
   unfold Oper.wp
   have q:=hv w hC.1
   generalize(execOp a.eval o).run P w=r at q
   match r,q with
   | .ok (.value u) w2,⟨b,hu,ha,hb,ho2⟩=>
    subst hu
    exact h _ _ _ (hC.lay stb hs ha hb ho2) (hk b (hC.freshb (fun d e=>(hb d e).1)))
   | .ok (.enter f args) w2,⟨e,hc⟩=>
    subst e
    refine Calls.mono hc ?_
    rintro e2 w3 ⟨b,rfl,ha,hb,ho2⟩
    exact h _ _ _ (hC.lay stb hs ha hb ho2) (hk b (hC.freshb (fun d e=>(hb d e).1)))
end
theorem uF{P:Program}{md:Region.Mode}{ops hd:Array Oper}{W:World}{sp:Sp}{n:Nat}(hhd: ∀i,i<n->hd[i]? =ops[i]?)(hb:backB md ops n=true){i:Nat}(hi:i<n){K:Act->(Nat->Option Ix)->Prop}{a:Act}{S:Nat->Option Ix}(h:fOp P hd W sp i K a S):fOp P ops W sp i K a S:=by
 unfold fOp at*
 rw[hhd i hi]at h
 cases ho:ops[i]? with
 | none=>rw[ho]at h;exact h
 | some o=>
  have e:Region.wanted o (yielded hd a.tmps)=Region.wanted o (yielded ops a.tmps):=by
   unfold Region.wanted
   cases hg:o.guard with
   | none=>rfl
   | some jb=>
    obtain⟨j,b⟩:=jb
    have lt:=(jT hb hi ho).2 j b hg
    show(yielded hd a.tmps j==some b)=(yielded ops a.tmps j==some b)
    unfold yielded
    rw[hhd j lt]
  simp only[ho]at h ⊢
  cases hs:sp i with
  | none=>
   simp only[hs]at h ⊢
   unfold YF at*
   rw[e]at h
   exact h
  | some x=>
   simp only[hs]at h ⊢
   unfold LF at*
   rw[e]at h
   exact h
theorem iM{P:Program}{md:Region.Mode}{ops hd:Array Oper}{W:World}{sp:Sp}(stb:Stable sp){n:Nat}{g:Nat}{Q1:Act->(Nat->Option Ix)->Prop}{Q':Exit->Act->World->Prop}(hhd: ∀i,i<n->hd[i]? =ops[i]?)(hsz:hd.size=n)(hn:n<ops.size)(hb:backB md ops n=true)(hs:Region.sinkB md ops n=true)(hc:Region.chainB md ops n=true)
  (hL: ∀a S w,Has W sp S w->Q1 a S->wpAny P md ops Q' g (finA ops.size n) a w):
  ∀(fuel:Nat) (listed lh:Array Bool) (a:Act) (S:Nat->Option Ix) (w:World),Has W sp S w->HeadInv md ops n listed->lh.size=n->(∀i,i<n->lh.getD i true=listed.getD i true)->
   wpAnyF P md hd W sp Q1 fuel lh a S->wpAny P md ops Q' (fuel+g) listed a w:=by
 intro fuel
 induction fuel with
 | zero=>
  intro listed lh a S w hC inv hl he h
  have hls:n<=listed.size:=by rw[inv.size];omega
  rcases fE (by omega) hb hls with all | ⟨i,hi,hr⟩
  ·rw[Nat.zero_add,qE hn inv all]
   exact hL a S w hC h.2
  ·have:=(gA hhd hb hl hls he hi).2 hr
   rw[h.1]at this
   cases this
 | succ fuel ih=>
  intro listed lh a S w hC inv hl he h
  have hls:n<=listed.size:=by rw[inv.size];omega
  rcases fE (by omega) hb hls with all | ⟨i0,hi0,hr0⟩
  ·have no:Region.ready md hd lh=[]:=by
    rw[List.eq_nil_iff_forall_not_mem]
    intro i hi
    obtain⟨u,o,ho,_⟩:=mem_ready.1 hi
    have lt:i<n:=by rw[<- hsz];exact(Array.getElem?_eq_some_iff.1 ho).1
    rw[he i lt,all i lt]at u
    cases u
   rw[Nat.add_comm (fuel+1) g,qE hn inv all]
   exact kG g (fuel+1) _ a w (hL a S w hC (h.1 no))
  ·rw[show fuel+1+g=(fuel+g)+1 by omega]
   refine⟨fun h0=>(by rw[h0]at hr0;cases hr0),fun i hi=> ?_⟩
   have lt:i<n:=by
    by_cases c:i<n
    ·exact c
    ·exact absurd hi (tail_waits hs hc hn inv _ i0 rfl hi0 (mem_ready.1 hr0).1 i (by omega))
   have hq:=uF hhd hb lt (h.2 i ((gA hhd hb hl hls he lt).2 hi))
   refine lU stb hC (fun a' S' w' hC' h'=>ih _ _ a' S' w' hC' (inv.set hi lt) (by simp[hl]) (fun j hj=> ?_) h') hq
   by_cases e:i=j
   ·subst e
    simp[hl,lt,show i<listed.size by omega]
   ·rw[getD_set_ne true e,getD_set_ne true e,he j hj]
theorem iV{P:Program}{id:Nat}{Q:Exit->Act->World->Prop}{a:Act}{w:World}{l:List Oper}(n:Nat)(sp:Sp)(stb:Stable sp)(hm:P.follows .mixedOrders=true)(hB:Region.lexB .any (l.take n).toArray=true)(hT:tailB l.toArray n=true)
  (h:wpFree P (l.take n).toArray w.drew sp (fun a' S=> ∀w',Has w.drew sp S w'->wpList P l.toArray Q (l.drop n) a' w') (l.take n) 0 a (fun _=>none)):(Code.region id l.toArray true).wp P Q a w:=by
 simp only[tailB,Bool.and_eq_true,decide_eq_true_eq]at hT
 obtain⟨⟨⟨⟨hn,hb⟩,hs⟩,hc⟩,hq⟩:=hT
 have hn':n<l.length:=by simpa using hn
 have htl:(l.take n).toArray.size=n:=by simp;omega
 have hdl:(l.drop n).length=l.toArray.size - n:=by simp
 refine wp_region_any hm ?_
 simp only[Region.lexB,Bool.and_eq_true]at hB
 have H:=fG (P:=P) (W:=w.drew) (sp:=sp) (md:=.any) hB.1 (l.take n) 0 (Array.replicate (l.take n).toArray.size false) a (fun _=>none) (by simp) (fun _ _=>rfl) (by simpa using hB.2) h
 have inv0:HeadInv .any l.toArray n (Array.replicate l.toArray.size false):=
  ⟨by simp,fun j oj _ hl=>(by rw[getD_replicate_false]at hl;cases hl),fun t _ ht=>getD_in (by simpa using ht) (getD_replicate_false _ _)⟩
 have:=iM stb (P:=P) (Q':=Q) (g:=l.toArray.size - n) (hd:=(l.take n).toArray) (ops:=l.toArray) (fun i hi=>by simp[hi]) htl hn hb hs hc
  (fun a' S' w' hC' h'=>by
   have:=wpAny_of_seq (P:=P) (md:=.any) (ops:=l.toArray) (Q':=Q) (l.drop n) n (finA l.toArray.size n) a' w' (fun j=>by simp) (by rw[hdl];exact hq) (h' w' hC')
   rwa [hdl]at this)
  (l.take n).length _ _ a (fun _=>none) w.drew ⟨Ab.refl _,fun i b e=>by cases e⟩ inv0 (by simpa using htl) (fun i hi=>by
   rw[getD_in (listed:=Array.replicate l.toArray.size false) (by simp;omega) (getD_replicate_false _ _)]
   exact getD_in (by rw[Array.size_replicate];omega) (getD_replicate_false _ _)) H
 have e:(l.take n).length+(l.toArray.size - n)=l.toArray.size:=by simp;omega
 rw[e]at this
 exact this
section
variable {P:Program} {ops:Array Oper} {W:World} {sp:Sp} {Q:Act->(Nat->Option Ix)->Prop} {o:Oper} {rest:List Oper} {k:Nat} {a:Act} {S:Nat->Option Ix}
theorem bK{U:Type}{F:U->World}(HF:Hid (∀w',Ab W w'-> ∃u,w'=F u))(hs:sp k=none)(hp:plainB o.op=true)(h:wpQuiet P ops (fun w'=> ∃u,w'=F u) (fun a'=>wpFree P ops W sp Q rest (k+1) a' S) [o] a):wpFree P ops W sp Q (o :: rest) k a S:=by
 simp only[wpFree,hs]
 simp only[wpQuiet]at h
 by_cases c:Region.wanted o (yielded ops a.tmps)=true
 ·rw[if_pos c]at h
  obtain⟨v,h1,h2⟩:=h
  refine⟨v,.inl ⟨c,fun w hw=> ?_⟩,h2⟩
  have q:=h1 w (HF.out w hw)
  unfold Oper.quietAt at q
  cases e:(execOp a.eval o).run P w with
  | ok n w'=>
   obtain⟨x,rfl⟩:=rC hp e
   rw[e]at q
   obtain⟨q1,q2⟩:=q
   rw[q1,q2]
  | halt x w'=>rw[e]at q;exact absurd q (by simp[Oper.quietUpon])
 ·rw[if_neg c]at h
  exact⟨undef,.inr ⟨by simpa using c,rfl⟩,h⟩
theorem cX{ob:Ix->World->Prop}{mk:Ix->Value}(hs:sp k=some (ob,mk))(hw:Region.wanted o (yielded ops a.tmps)=true)(hr: ∀w,Ab W w->LayR P w ob mk ((execOp a.eval o).run P w))
  (h: ∀b,Fresh W S b->wpFree P ops W sp Q rest (k+1) (a.put o.dst (mk b)) (putL S k b)):wpFree P ops W sp Q (o :: rest) k a S:=by
 simp only[wpFree,hs]
 exact⟨⟨hw,hr⟩,h⟩
theorem kP{ob:Ix->World->Prop}{mk:Ix->Value}{O:Obj}{c:Nat}(h: ∀w,Ab W w->(execOp a.eval o).run P w=.ok (.value (mk (some w.heap.size,c))) (w.alloc O))(hR: ∀w,Ab W w->ob (some w.heap.size,c) (w.alloc O)): ∀w,Ab W w->LayR P w ob mk ((execOp a.eval o).run P w):=fun w hw=>by
 rw[h w hw]
 refine⟨(some w.heap.size,c),rfl,bl1 _ _,fun b e=> ?_,hR w hw⟩
 injection e with e
 subst e
 refine⟨Nat.le_refl _,?_⟩
 show _<(w.heap.push O).size
 simp
theorem lV{ob:Ix->World->Prop}{mk:Ix->Value}{f:FuncId}{args:Array Value}(h1: ∀w,(execOp a.eval o).run P w=.ok (.enter f args) w)(h2: ∀w,Ab W w->Calls P f args w (fun e w2=> ∃x,e=.returned (mk x)/\Ab w w2/\(∀b,x.1=some b->w.heap.size<=b/\b<w2.heap.size)/\ob x w2)): ∀w,Ab W w->LayR P w ob mk ((execOp a.eval o).run P w):=fun w hw=>by
 rw[h1 w]
 exact⟨rfl,h2 w hw⟩
theorem rT{s:Sem Value}{w w':World}{x:Value}(h:s.run P w=.ok x w'):(do pure (Next.value (<- s)):Sem Next).run P w=.ok (.value x) w':=by
 rw[Sem.run_bind,h]
 rfl
theorem IH{t:TypeId}{u:Value}{w w':World}(ho:o.op=.alloc t)(M:(Instr.alloc t true (.tuple #[])).run P w=.ok u w'):(execOp a.eval o).run P w=.ok (.value u) w':=by
 unfold execOp
 rw[ho]
 exact rT M
theorem Eh(v:Value)(hs:sp k=none)(hw:Region.wanted o (yielded ops a.tmps)=true)(hr: ∀w,(execOp a.eval o).run P w=.ok (.value v) w)
  (h:wpFree P ops W sp Q rest (k+1) (a.put o.dst v) S):wpFree P ops W sp Q (o :: rest) k a S:=by
 simp only[wpFree,hs]
 exact⟨v,.inl ⟨hw,fun w _=>hr w⟩,h⟩
theorem kQ(h:Q a S):wpFree P ops W sp Q [] k a S:=h
end
theorem Has.at{W:World}{sp:Sp}{S:Nat->Option Ix}{w:World}(h:Has W sp S w){i:Nat}{x:Ix}{R:Ix->World->Prop}{mk:Ix->Value}(e:S i=some x)(s:sp i=some (R,mk)):R x w/\ ∀b,x.1=some b->W.heap.size<=b/\b<w.heap.size:=by
 obtain⟨h1,o,m,h2,h3⟩:=h.2 i x e
 rw[s]at h2
 injection h2 with h2
 injection h2 with h2
 subst h2
 exact⟨h3,h1⟩
end Cg
end
end Go.Proofs.YtaphajlpbgcfjaaGreatDoor
