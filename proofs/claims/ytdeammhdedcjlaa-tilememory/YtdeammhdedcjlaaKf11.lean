/-
  Some of the texts of this proof, one behind the other.
-/
import Derived.Deep.QuietTactic
import Derived.BigQuiet
import Derived.Test.YtdeammhdedcjlaaKf10
set_option maxRecDepth 100000
set_option maxHeartbeats 400000000
namespace Go.Proofs.Ytdeammhdedcjlaa
open _root_.Go.Proofs.Try
section
open Go.RowKit Go.Deep Tf Cu
namespace Ti
theorem mem_y0(side:Int)(pb:Option Addr)(lb cb:Nat)(B:Nat->Nat)(pw:Option Addr)(lw cw:Nat)(W:Nat->Int)(pr:Option Addr)(lr cr:Nat)(R:Nat->Int)(ps:Option Addr)(ls cs:Nat)(S:Nat->Nat)(sky st:Int)(fa:Int)(l0 m0:Nat)(pt:Option Addr)(mt ct:Nat)(F:Nat->Nat)(w:World)(i1:IsFl w pb lb B)(i2:Sh.IsI w pw lw W)(i3:Sh.IsI w pr lr R)(i4:IsFl w ps ls S)(hls:l0<4294967296)(hms:m0<4294967296)(hct:mt<=ct/\ct<=35184372088832)(hF:IsW .u32 4294967296 w pt mt F)(hm:mt<=1024)(ho:okT fa mt F l0 m0=true)(ke:Int)(hk:(Ss.chk side lb lw lr ls B W R S sky st).2=ke)(hk2:ke≠0):
  Calls prog 7 #[.int .i64 side,.agg #[.slice pb lb cb,.slice pw lw cw,.slice pr lr cr,.slice ps ls cs,.int .i64 sky,.int .i64 st],.agg #[.int .i64 fa,.int .u32 ((l0:Nat):Int),.int .u32 ((m0:Nat):Int),.slice pt mt ct]] w fun e w'=>e=.returned (.bool true)/\Below w.heap.size w w':=by
 have HO:=hid ho
 have HK:=hid hk
 have HK2:=hid hk2
 clear ho hk hk2
 have HF:=hid hF
 have HB:=hid (show l0<4294967296/\m0<4294967296/\mt<=ct/\ct<=35184372088832 from⟨hls,hms,hct.1,hct.2⟩)
 have J1:=hid i1
 have J2:=hid i2
 have J3:=hid i3
 have J4:=hid i4
 clear hF hls hms hct i1 i2 i3 i4
 have A0:=dJ (bl2 w (.cells #[.slice pb lb cb,.slice pw lw cw,.slice pr lr cr,.slice ps ls cs,.int .i64 sky,.int .i64 st] 40) (.cells #[.int .i64 fa,.int .u32 ((l0:Nat):Int),.int .u32 ((m0:Nat):Int),.slice pt mt ct] 25))
 have S0:Hid (((w.alloc (.cells #[.slice pb lb cb,.slice pw lw cw,.slice pr lr cr,.slice ps ls cs,.int .i64 sky,.int .i64 st] 40)).alloc (.cells #[.int .i64 fa,.int .u32 ((l0:Nat):Int),.int .u32 ((m0:Nat):Int),.slice pt mt ct] 25)).heap[w.heap.size]? =some (.cells #[.slice pb lb cb,.slice pw lw cw,.slice pr lr cr,.slice ps ls cs,.int .i64 sky,.int .i64 st] 40)):=Ab.heap (bl1 _ _) (heap_alloc_new _ _)
 have R0:=hid (heap_alloc2_new w (.cells #[.slice pb lb cb,.slice pw lw cw,.slice pr lr cr,.slice ps ls cs,.int .i64 sky,.int .i64 st] 40) (.cells #[.int .i64 fa,.int .u32 ((l0:Nat):Int),.int .u32 ((m0:Nat):Int),.slice pt mt ct] 25))
 go_enter func7,ntmps7
 go_upto_region 1 with fail
 generalize hW:World.alloc (World.alloc w _) _=V0 at*
 obtain⟨gw,hgw⟩:=aB w.heap.size
 obtain⟨gt,hgt⟩:=aB (w.heap.size+1)
 have GW:Hid (w.heap.size<=gw/\gw<gt):=⟨by omega,by omega⟩
 rw[hgw]at S0
 rw[hgt]at R0
 rw[hgt,hgw]
 clear hgw hgt hW
 go_wp2_with fail
 refine(cQ V0).mono ?_
 rintro e9 v1 ⟨rfl,b1⟩
 have A1:Hid (Ab w v1):=A0.out.trans b1
 have S1:=hid (Ab.heap b1 S0.out)
 have R1:=hid (Ab.heap b1 R0.out)
 clear b1 A0 R0 S0
 have y0:=aA 0 R1.out
 have y1:=aA 1 R1.out
 have y2:=aA 2 R1.out
 have y3:=aA 3 R1.out
 have HM:=hid hm
 clear hm
 have c1: ¬(1024:Int)<(mt:Int):=by have:=HM.out;omega
 have mI0:(0:Int)<=(mt:Int):=by omega
 have mI1:(mt:Int)<=1024:=by omega
 have mI2:((mt:Nat):Int)<=((mt+2:Nat):Int):=by omega
 have mI3:(mt:Int)<=(mt:Int)+2:=by omega
 obtain⟨Xm,Tm⟩:=aF v1 (.cells #[.int .i64 fa,.int .u32 ((l0:Nat):Int),.int .u32 ((m0:Nat):Int),.slice pt mt ct] 25)
 go_upto_region 7 with fail
 generalize hV:World.alloc v1 _=v2 at*
 obtain⟨gtm,hgu⟩:=aB v1.heap.size
 have LGm:Hid (v1.heap.size<=gtm):=by show v1.heap.size<=gtm;omega
 rw[hgu]at Tm ⊢
 clear hV hgu
 have A2:Hid (Ab w v2):=A1.out.trans Xm.out
 have S2:=hid (Xm.out.heap S1.out)
 have R2:=hid (Xm.out.heap R1.out)
 have LM:Hid (gt<gtm/\gtm<v2.heap.size):=⟨by have:=lt_of_block R1.out;have:=LGm.out;omega,lt_of_block Tm.out⟩
 clear A1 S1 R1 Xm y0 y1 y2 y3 LGm
 go_cut [9]from 35 to 42 (fun s9 wx=> ∃b:Nat,s9=.slice (some ⟨b,0,none⟩) (mt+2) (mt+2)/\v2.heap.size<=b/\Ab v2 wx/\wx.rowIs b 22 (mt+2) (mk2 mt (fun j=>.int .u32 ((F j:Nat):Int)) (.int .u32 7)))
 case first=>
  obtain⟨i0,hi0,hi1⟩:=eM
  have IP:=hid (And.intro hi0 hi1)
  clear hi0 hi1
  have M1: ∀v:World,(Instr.makeSlice 23 (.int .i64 0) (.int .i64 (IntKind.i64.wrap ((mt:Int)+2)))).run prog v=.ok (.slice (some ⟨v.heap.size,0,none⟩) 0 (mt+2)) (v.alloc (.cells (madeCells #[.int .u32 0] (mt+2)) 22)):=fun v=>by rw[jJ (by have:=HM.out;omega)];exact kQ mt HM.out v
  have AX0:Ab v2 v2:=Ab.refl v2
  have KS:Hid (∀w',Ab v2 w'->Ab v2 w'/\w'.cell? ⟨gt,3,none⟩=some (.slice pt mt ct)):=fun w' h=>⟨h,aA 3 (h.heap R2.out)⟩
  have SR:Hid (∀v,Ab v2 v->Src prog 1 23 (.slice pt mt ct) mt ((List.range mt).map fun k=>Value.int .u32 ((F k:Nat):Int)) v):=fun v h=>src_w (HF.out.below (A2.out.trans h)) _
  go_region_held3 (fun w'=>Ab v2 w'/\w'.cell? ⟨gt,3,none⟩=some (.slice pt mt ct)) ((refine KS.out _ ?_;(with_reducible (repeat(first | assumption | apply Ab.drew | apply Ab.alloc)));done)) (first | (have r1:=R1q.out;have q1:=HQ.out;refine aK (by rfl) _ _ 23 (by rfl) 22 i0 underlying23 IP.out.1 IP.out.2 _ mt (mt+2) _ (by rfl) r1 _ 2 _ (by rfl) (cV (x:=7) (y:=7) q1) (by omega) (mt+2) rfl ?_;intro w5 r5 x5;have AX5:Ab v2 w5:=Abx.ab x5 AX4 (by omega);have R2q:=hid r5;clear r5 x5;clear r1 q1) | (have r1:=R1q.out;refine aK (by rfl) _ _ 23 (by rfl) 22 i0 underlying23 IP.out.1 IP.out.2 _ mt (mt+2) _ (by rfl) (r1.alloc _) _ 2 _ (by rfl) (cV (x:=7) (y:=7) (heap_alloc_new w4 _)) (by omega) (mt+2) rfl ?_;intro w5 r5 x5;have AX5:Ab v2 w5:=Abx.ab x5 (AX4.alloc _) (by omega);have R2q:=hid r5;clear r5 x5;clear r1) | (refine aK (by rfl) _ _ 23 (by rfl) 22 i0 underlying23 IP.out.1 IP.out.2 (v2.heap.size+1) 0 (mt+2) (fun _=>.int .u32 0) (by rfl) (kV v2 (.int .u32 0) (mt+2) 22 (.cells #[.int .u32 7,.int .u32 7] 22)) (.slice pt mt ct) mt _ (by rfl) (SR.out _ ((AX0.drew.alloc (.cells #[.int .u32 7,.int .u32 7] 22)).alloc (.cells (madeCells #[.int .u32 0] (mt+2)) 22))) (by omega) mt (by omega) ?_;intro w4 r4 x4;have AX4:Ab v2 w4:=Abx.ab x4 ((AX0.drew.alloc (.cells #[.int .u32 7,.int .u32 7] 22)).alloc (.cells (madeCells #[.int .u32 0] (mt+2)) 22)) (by omega);have R1q:=hid r4;have HQ:=hid (bR x4 (kX v2 _ (.cells #[.int .u32 7,.int .u32 7] 22)) (by omega));clear r4 x4) | (refine aK (by rfl) _ _ 23 (by rfl) 22 i0 underlying23 IP.out.1 IP.out.2 v2.heap.size 0 (mt+2) (fun _=>.int .u32 0) (by rfl) (kU v2 (.int .u32 0) (mt+2) 22 (.cells #[.int .u32 7,.int .u32 7] 22)) (.slice pt mt ct) mt _ (by rfl) (SR.out _ ((AX0.drew.alloc (.cells (madeCells #[.int .u32 0] (mt+2)) 22)).alloc (.cells #[.int .u32 7,.int .u32 7] 22))) (by omega) mt (by omega) ?_;intro w4 r4 x4;have AX4:Ab v2 w4:=Abx.ab x4 ((AX0.drew.alloc (.cells (madeCells #[.int .u32 0] (mt+2)) 22)).alloc (.cells #[.int .u32 7,.int .u32 7] 22)) (by omega);have R1q:=hid r4;have HQ:=hid (bR x4 (kW v2 _ (.cells #[.int .u32 7,.int .u32 7] 22)) (by omega));clear r4 x4) | (refine aK (by rfl) _ _ 23 (by rfl) 22 i0 underlying23 IP.out.1 IP.out.2 v2.heap.size 0 (mt+2) (fun _=>.int .u32 0) (by rfl) (kT v2 (.int .u32 0) (mt+2) 22) (.slice pt mt ct) mt _ (by rfl) (SR.out _ (AX0.drew.alloc (.cells (madeCells #[.int .u32 0] (mt+2)) 22))) (by omega) mt (by omega) ?_;intro w4 r4 x4;have AX4:Ab v2 w4:=Abx.ab x4 (AX0.drew.alloc (.cells (madeCells #[.int .u32 0] (mt+2)) 22)) (by omega);have R1q:=hid r4;clear r4 x4))
  all_goals
   go_wp2_with fail
   go_meet
   exact⟨_,rfl,by omega,AX5,R2q.out.congr (fun j hj=>gS _ _ _ _ _ hj)⟩
 case rest=>
 obtain⟨gf,rfl,lf,b3,r3⟩:=hcut
 rename World=>v3
 have A3:Hid (Ab w v3):=A2.out.trans b3
 have S3:=hid (b3.heap S2.out)
 have R3:=hid (b3.heap R2.out)
 have T3:=hid (b3.heap Tm.out)
 have N3:=hid r3
 have LF:Hid (gtm<gf):=by have:=LM.out;show gtm<gf;omega
 have A4:Hid (Ab w (v3.setCell ⟨gtm,3,none⟩ (.slice (some ⟨gf,0,none⟩) mt (mt+2)))):=A3.out.setk (by have:=LM.out;have:=GW.out;omega) _
 have S4:Hid ((v3.setCell ⟨gtm,3,none⟩ (.slice (some ⟨gf,0,none⟩) mt (mt+2))).heap[gw]? =some (.cells #[.slice pb lb cb,.slice pw lw cw,.slice pr lr cr,.slice ps ls cs,.int .i64 sky,.int .i64 st] 40)):=(aN (by have:=LM.out;have:=GW.out;omega)).trans S3.out
 have R4:Hid ((v3.setCell ⟨gtm,3,none⟩ (.slice (some ⟨gf,0,none⟩) mt (mt+2))).heap[gt]? =some (.cells #[.int .i64 fa,.int .u32 ((l0:Nat):Int),.int .u32 ((m0:Nat):Int),.slice pt mt ct] 25)):=(aN (by have:=LM.out;omega)).trans R3.out
 have T4:=hid (show(v3.setCell ⟨gtm,3,none⟩ (.slice (some ⟨gf,0,none⟩) mt (mt+2))).heap[gtm]? =some (.cells #[.int .i64 fa,.int .u32 ((l0:Nat):Int),.int .u32 ((m0:Nat):Int),.slice (some ⟨gf,0,none⟩) mt (mt+2)] 25)from by have q:=aH (k:=3) (v:=.slice (some ⟨gf,0,none⟩) mt (mt+2)) T3.out;simpa using q)
 have N4:=hid (N3.out.setOther (a:=⟨gtm,3,none⟩) (show gf≠gtm by have:=LF.out;omega) (.slice (some ⟨gf,0,none⟩) mt (mt+2)))
 have t3:=aA 3 T3.out
 have f3:=aC T3.out 3
 go_upto_region 9 with fail
 obtain⟨v4,hv4⟩:=aB (v3.setCell ⟨gtm,3,none⟩ (.slice (some ⟨gf,0,none⟩) mt (mt+2)))
 rw[hv4]at A4 S4 R4 T4 N4 ⊢
 clear hv4 t3 f3 A2 S2 R2 Tm lf b3 r3 A3 S3 R3 T3 N3
 have t0:=aA 0 T4.out
 have t1:=aA 1 T4.out
 have t2:=aA 2 T4.out
 have t3:=aA 3 T4.out
 obtain⟨N,hN⟩:=aB (14+4*mt)
 have CE:=hid (fun v (a:IsW .u32 4294967296 v (some ⟨gf,0,none⟩) mt F)=>cO fa l0 m0 (some ⟨gf,0,none⟩) mt (mt+2) F v HB.out.1 HB.out.2.1 (by have:=HB.out;have:=HM.out;omega) a HO.out)
 have CF:=hid (fun v (a:IsW .u32 4294967296 v pt mt F)=>cO fa l0 m0 pt mt ct F v HB.out.1 HB.out.2.1 (by have:=HB.out;omega) a HO.out)
 have K:=enc_ok HO.out HF.out.lt HB.out.1 HB.out.2.1
 have T1:=kH HO.out
 obtain⟨E,hE⟩:=aB (enc fa.toNat (sideN mt) l0 m0 F)
 have E4:E 4=fa.toNat/\E 5=sideN mt/\ ∀i,E i<256:=by rw[<- hE];exact⟨rfl,rfl,fun i=>kF (by omega) (by omega)⟩
 rw[hE,hN]at K CE CF
 have NI0:(0:Int)<=(N:Int):=by omega
 have NI1:(N:Int)<=4110:=by omega
 have NI2:(N:Int)<(N:Int)+2:=by omega
 have NI3:(N:Int)+1<(N:Int)+2:=by omega
 have NI4:(0:Int)<=(N:Int)+1:=by omega
 have NI5:((N:Int)+1).toNat=N+1:=by omega
 have KK:=hid K
 have HN:=hid (show N=14+4*mt/\N<=4110 from⟨hN.symm,by omega⟩)
 have HE4:=hid (show E 4=fa.toNat/\E 5=sideN mt/\(∀i,E i<256)/\((fa.toNat:Nat):Int)=fa from⟨E4.1,E4.2.1,E4.2.2,by omega⟩)
 have HEB:=hid E4.2.2
 clear K T1 hE E4 hN
 go_wp2_with fail
 refine(CE.out v4 (dR N4.out HF.out.lt)).mono ?_
 rintro e9 v5 ⟨gb,rfl,b5,l5,r5⟩
 have A5:Hid (Ab w v5):=A4.out.trans b5
 have S5:=hid (Ab.heap b5 S4.out)
 have R5:=hid (Ab.heap b5 R4.out)
 have T5:=hid (Ab.heap b5 T4.out)
 have N5:=hid (Sh.aD N4.out b5)
 have E5:=hid r5
 have LB:=hid (show gf<gb from by have:=N4.out.lt;omega)
 clear b5 l5 r5 A4 S4 R4 T4 N4 t0 t1 t2 t3
 have t0:=aA 0 T5.out
 have t1:=aA 1 T5.out
 have t2:=aA 2 T5.out
 have t3:=aA 3 T5.out
 go_wp2_with fail
 refine(CE.out v5 (dR N5.out HF.out.lt)).mono ?_
 rintro e9 v6 ⟨gc,rfl,b6,l6,r6⟩
 have A6:Hid (Ab w v6):=A5.out.trans b6
 have S6:=hid (Ab.heap b6 S5.out)
 have R6:=hid (Ab.heap b6 R5.out)
 have T6:=hid (Ab.heap b6 T5.out)
 have N6:=hid (Sh.aD N5.out b6)
 have E6:=hid (Sh.aD E5.out b6)
 have F6:=hid r6
 have LC:=hid (show gb<gc from by have:=E5.out.lt;omega)
 clear b6 l6 r6 CE A5 S5 R5 T5 N5 E5 t0 t1 t2 t3
 have t0:=aA 0 T6.out
 have t1:=aA 1 T6.out
 have t2:=aA 2 T6.out
 have t3:=aA 3 T6.out
 have CV1:=aL (w:=v6) (a:=some ⟨gb,0,none⟩) (n:=N) (cap:=N) (f:=E) underlying26 underlying5 underlying9 (bF E6.out (fun i _=>HEB.out i)) (fun e=>by cases e)
 have CV2:=aL (w:=v6) (a:=some ⟨gc,0,none⟩) (n:=N) (cap:=N) (f:=E) underlying26 underlying5 underlying9 (bF F6.out (fun i _=>HEB.out i)) (fun e=>by cases e)
 have SS:=fL (f:=E) (g:=E) (n:=N) (m:=N) (fun i _=>HEB.out i) (fun i _=>HEB.out i) rfl (fun _ _=>rfl)
 have y0:=aA 0 R6.out
 have y1:=aA 1 R6.out
 have y2:=aA 2 R6.out
 have y3:=aA 3 R6.out
 have CS:=hid (cE fa fa l0 l0 m0 m0 (some ⟨gf,0,none⟩) pt mt mt (mt+2) ct F F v6 (by have:=HM.out;omega) (dR N6.out HF.out.lt) (HF.out.below A6.out))
 rw[show eqT fa fa l0 l0 m0 m0 mt mt F F=true from decide_eq_true ⟨rfl,rfl,rfl,rfl,fun _ _=>rfl⟩]at CS
 go_wp2_with fail
 refine CS.out.mono ?_
 rintro e9 v7 ⟨rfl,b7⟩
 have A7:Hid (Ab w v7):=A6.out.trans b7
 have S7:=hid (Ab.heap b7 S6.out)
 have R7:=hid (Ab.heap b7 R6.out)
 have N7:=hid (Sh.aD N6.out b7)
 have z1:=N7.out.cell (i:=mt) (by omega)
 have z2:=N7.out.cell (i:=mt+1) (by omega)
 rw[kS (by omega)]at z1 z2
 have i1:(mt:Int)<(mt:Int)+2:=by omega
 have i2:(mt:Int)+1<(mt:Int)+2:=by omega
 have i3:(0:Int)<=(mt:Int)+1:=by omega
 have i4:((mt:Int)+1).toNat=mt+1:=by omega
 have E7:=hid (Sh.aD E6.out b7)
 have F7:=hid (Sh.aD F6.out b7)
 clear CS CV1 CV2 A6 S6 R6 T6 N6 E6 F6 b7 t0 t1 t2 t3 y0 y1 y2 y3
 have M1: ∀v:World,(Instr.makeSlice 26 (.int .i64 0) (.int .i64 (IntKind.i64.wrap ((N:Int)+2)))).run prog v=.ok (.slice (some ⟨v.heap.size,0,none⟩) 0 (N+2)) (v.alloc (.cells (madeCells #[.int .u8 0] (N+2)) 5)):=fun v=>by rw[jJ (by have:=HN.out;omega)];exact kR N HN.out.2 v
 have M2: ∀v:World,(Instr.makeSlice 26 (.int .i64 0) (.int .i64 ((N:Int)+2))).run prog v=.ok (.slice (some ⟨v.heap.size,0,none⟩) 0 (N+2)) (v.alloc (.cells (madeCells #[.int .u8 0] (N+2)) 5)):=fun v=>kR N HN.out.2 v
 have EL:=hid (byl_n E N)
 have I7:Hid (IsW .u8 256 (v7.alloc (.cells (madeCells #[.int .u8 0] (N+2)) 5)) (some ⟨gb,0,none⟩) N E):=(bF (E7.out.alloc _) (fun i _=>HEB.out i))
 have OM:=hid (jK v7 (N+2) (by have:=HN.out;omega))
 go_upto_region 15 with(first | (at_builtin;refine T8.bM rfl (.tmp 95) (.tmp 96) rfl v7.heap.size (.slice (some ⟨g1,0,none⟩) N c1) ((List.range N).map E) rfl (O8.out.alloc _) ⟨v8.heap.size,0,none⟩ 2 2 [9,9] rfl rfl (nb99 v8) (by decide) (by have:=HN.out;have:=EL.out.1;omega) (by have:=A8.size;simp;omega) (N+2) (by rw[EL.out.1]) ?_;intro g2 c2 v9 o9 g9 e9 l9;have A9:Hid (Ab v7 v9):=(A8.alloc _).grown g9 (by have:=A8.size;simp;omega) (fun k hk=>by simp[Value.ownBlock]at hk;have:=L8.out;omega)) | (at_builtin;refine T8.bM rfl (.tmp 93) (.tmp 94) rfl v7.heap.size (.slice (some ⟨v7.heap.size,0,none⟩) 0 (N+2)) [] rfl OM.out ⟨gb,0,none⟩ N N ((List.range N).map E) rfl EL.out.1 (T8.kP I7.out) (by have:=HN.out;omega) (by have:=HN.out;simp;omega) (by simp) N (by simp) ?_;intro g1 c1 v8 o8 g8 e8 l8;have A8:Ab v7 v8:=(bl1 v7 _).grown g8 (by simp) (fun k hk=>by simp[Value.ownBlock]at hk;omega);have O8:Hid (T8.Own v7.heap.size (.slice (some ⟨g1,0,none⟩) N c1) ((List.range N).map E) v8):=o8;have L8:=hid l8;clear o8 g8 e8 l8))
 clear M1 M2 EL I7 OM O8 L8 A8 g9 e9
 have E9:=hid (Sh.aD E7.out A9.out)
 have F9:=hid (Sh.aD F7.out A9.out)
 have S9:=hid (A9.out.heap S7.out)
 have R9:=hid (A9.out.heap R7.out)
 have AA:Hid (Ab w v9):=A7.out.trans A9.out
 have LG2:=hid (show gc<g2 from by have:=F7.out.lt;omega)
 have B9:=hid (mQ o9)
 have I9:=hid (pN o9 HEB.out)
 clear o9 l9 A9 A7 S7 R7 E7 F7
 have hc2:(N:Int)<=(c2:Int):=by have:=B9.out.1;omega
 have CD:=hid (eR (some ⟨g2,0,none⟩) N c2 E v9 ⟨by have:=B9.out.1;omega,I9.out.2.2.2⟩ I9.out.1 KK.out.1)
 rw[HE4.out.1,HE4.out.2.2.2,HE4.out.2.1,KK.out.2.1,KK.out.2.2.1,KK.out.2.2.2.1]at CD
 clear N7 z1 z2 i1 i2 i3 i4
 go_wp2_with fail
 refine CD.out.mono ?_
 rintro e9 v10 ⟨gd,rfl,b10,l10,r10⟩
 have BX:=hid b10
 have D10:=hid r10
 have LD:=hid (show g2<gd from by have:=B9.out.2.lt;omega)
 clear b10 l10 r10 CD
 obtain⟨Xu,Tu⟩:=aF v10 (.cells #[.int .i64 fa,.int .u32 ((l0:Nat):Int),.int .u32 ((m0:Nat):Int),.slice (some ⟨gd,0,none⟩) mt mt] 25)
 go_upto_region 16 with fail
 generalize hV:World.alloc v10 _=v11 at*
 obtain⟨gtu,hgu⟩:=aB v10.heap.size
 have LGu:Hid (v10.heap.size<=gtu):=by show v10.heap.size<=gtu;omega
 rw[hgu]at Tu ⊢
 clear hV hgu
 have BY:Hid (Ab v9 v11):=Ab.trans BX.out Xu.out
 have AB:=hid (AA.out.trans BY.out)
 have DB:=hid (Sh.aD D10.out Xu.out)
 have EB1:=hid (Sh.aD E9.out BY.out)
 have FB1:=hid (Sh.aD F9.out BY.out)
 have SB1:=hid (BY.out.heap S9.out)
 have RB1:=hid (BY.out.heap R9.out)
 have BB1:Hid (Blk g2 c2 5 v11):=by
  obtain⟨cs,h1,h2⟩:=B9.out.2
  exact⟨cs,h1,BY.out.heap h2⟩
 have LU:=hid (show gd<gtu from by have:=D10.out.lt;have:=LGu.out;omega)
 have IB:=hid (I9.out.1.below BY.out)
 have w1:v11.cell? ⟨g2,N,none⟩=some (.int .u8 9):=(Below.cell BY.out B9.out.2.lt).trans I9.out.2.1
 have w2:v11.cell? ⟨g2,N+1,none⟩=some (.int .u8 9):=(Below.cell BY.out B9.out.2.lt).trans I9.out.2.2.1
 have KS:Hid (∀v,Ab v11 v->v.cell? ⟨g2,N,none⟩=some (.int .u8 9)/\v.cell? ⟨g2,N+1,none⟩=some (.int .u8 9)/\(convert 26 9 (.slice (some ⟨g2,0,none⟩) N c2)).run prog v=.ok (.string (str E N)) v/\(convert 26 9 (.slice (some ⟨gc,0,none⟩) N N)).run prog v=.ok (.string (str E N)) v):=fun v a=>⟨(Below.cell a BB1.out.lt).trans w1,(Below.cell a BB1.out.lt).trans w2,aL underlying26 underlying5 underlying9 (IB.out.below a) (fun e=>by cases e),aL underlying26 underlying5 underlying9 ((bF FB1.out (fun i _=>HEB.out i)).below a) (fun e=>by cases e)⟩
 have XD:Ab v11 v11:=Ab.refl _
 have WR1:IntKind.i64.wrap ((N:Int)+1)=(N:Int)+1:=by rw[IntKind.wrap_i64];omega
 clear w1 w2
 have LW:=hid (show w.heap.size<=gw/\gw<gt/\gt<gb/\gb<gc/\gc<g2/\g2<gd/\gd<gtu from⟨GW.out.1,GW.out.2,by have:=LM.out;have:=LF.out;have:=LB.out;omega,LC.out,LG2.out,LD.out,LU.out⟩)
 have HC2:=hid B9.out.1
 clear AA D10 Xu E9 F9 S9 R9 B9 I9 BX BY LD LU LGu
 go_region_held3 (fun v=>v.cell? ⟨g2,N,none⟩=some (.int .u8 9)/\v.cell? ⟨g2,N+1,none⟩=some (.int .u8 9)/\(convert 26 9 (.slice (some ⟨g2,0,none⟩) N c2)).run prog v=.ok (.string (str E N)) v/\(convert 26 9 (.slice (some ⟨gc,0,none⟩) N N)).run prog v=.ok (.string (str E N)) v) ((refine KS.out _ ?_;(with_reducible (repeat(first | assumption | apply Ab.drew)));done)) (fail)
 clear KS XD SS IB WR1
 have XO:Hid (Sh.Abo v11 g2 v11):=Sh.Abo.refl _ _
 go_wp2
 go_loopw [17] (fun iv wr=> ∃c:Nat,c<=N+2/\iv=.int .i64 (c:Nat)/\Sh.Abo v11 g2 wr/\Blk g2 c2 5 wr) (fun iv _=>N+2 - (intOf iv).toNat)
 case atStart=>exact⟨0,by omega,rfl,XO.out,BB1.out⟩
 case round=>
  obtain⟨c,hc,rfl,a1,k1⟩:=hrel
  have X1:=hid a1
  have K1:=hid k1
  clear a1 k1 XO BB1
  by_cases hc6:c<N+2
  ·have HC6:=hid hc6
   have cI:(c:Int)<(N:Int)+2:=by omega
   have cI0:(0:Int)<=(c:Int):=by omega
   obtain⟨u,hu⟩:=K1.out.cell (k:=c) (by have:=HC2.out;omega)
   have fu:=K1.out.free c
   clear hc hc6
   go_wp2
   exact⟨⟨c+1,by have:=HC6.out;omega,by simp,Abo.set X1.out _ _,K1.out.set _ _⟩,by have:=HC6.out;simp[intOf];omega⟩
  ·have cI: ¬(c:Int)<(N:Int)+2:=by omega
   have cI0:(0:Int)<=(c:Int):=by omega
   clear hc hc6 K1
   have EB2:=hid (Sh.aY EB1.out X1.out (show gb≠g2 by have:=LW.out;omega))
   have FB2:=hid (Sh.aY FB1.out X1.out (show gc≠g2 by have:=LW.out;omega))
   have DB2:=hid (Sh.aY DB.out X1.out (show gd≠g2 by have:=LW.out;omega))
   have Tu2:=hid ((X1.out.2.2.2.2 gtu (lt_of_block Tu.out) (show gtu≠g2 by have:=LW.out;omega)).trans Tu.out)
   have SB2:=hid ((X1.out.2.2.2.2 gw (lt_of_block SB1.out) (show gw≠g2 by have:=LW.out;omega)).trans SB1.out)
   have RB2:=hid ((X1.out.2.2.2.2 gt (lt_of_block RB1.out) (show gt≠g2 by have:=LW.out;omega)).trans RB1.out)
   have AB2:=hid (X1.out.ab AB.out (show w.heap.size<=g2 by have:=LW.out;omega))
   have XO2:Hid (Sh.Abo wr gb wr):=Sh.Abo.refl _ _
   have KB2:Hid (Blk gb N 5 wr):=Blk.of EB2.out
   clear X1 AB DB EB1 FB1 Tu SB1 RB1 EB2
   go_wp2
   go_loopw [18] (fun iv wp=> ∃c:Nat,c<=N/\iv=.int .i64 (c:Nat)/\Sh.Abo wr gb wp/\Blk gb N 5 wp) (fun iv _=>N - (intOf iv).toNat)
   case atStart=>exact⟨0,by omega,rfl,XO2.out,KB2.out⟩
   case round=>
    obtain⟨d,hd,rfl,a1,k1⟩:=hrel
    have X2:=hid a1
    have K2:=hid k1
    clear a1 k1 XO2 KB2
    by_cases hd6:d<N
    ·have HD6:=hid hd6
     have dI:(d:Int)<(N:Int):=by omega
     have dI0:(0:Int)<=(d:Int):=by omega
     obtain⟨u,hu⟩:=K2.out.cell (k:=d) hd6
     have fu:=K2.out.free d
     clear hd hd6
     go_wp2
     exact⟨⟨d+1,by have:=HD6.out;omega,by simp,Abo.set X2.out _ _,K2.out.set _ _⟩,by have:=HD6.out;simp[intOf];omega⟩
    ·have dI: ¬(d:Int)<(N:Int):=by omega
     have dI0:(0:Int)<=(d:Int):=by omega
     clear hd hd6 K2
     have FB3:=hid (Sh.aY FB2.out X2.out (show gc≠gb by have:=LW.out;omega))
     have DB3:=hid (Sh.aY DB2.out X2.out (show gd≠gb by have:=LW.out;omega))
     have Tu3:=hid ((X2.out.2.2.2.2 gtu (lt_of_block Tu2.out) (show gtu≠gb by have:=LW.out;omega)).trans Tu2.out)
     have SB3:=hid ((X2.out.2.2.2.2 gw (lt_of_block SB2.out) (show gw≠gb by have:=LW.out;omega)).trans SB2.out)
     have RB3:=hid ((X2.out.2.2.2.2 gt (lt_of_block RB2.out) (show gt≠gb by have:=LW.out;omega)).trans RB2.out)
     have AB3:=hid (X2.out.ab AB2.out (show w.heap.size<=gb by have:=LW.out;omega))
     clear X2 AB2 FB2 DB2 Tu2 SB2 RB2
     have y0:=aA 0 RB3.out
     have y1:=aA 1 RB3.out
     have y2:=aA 2 RB3.out
     have y3:=aA 3 RB3.out
     go_wp2_with fail
     refine(CF.out wr (HF.out.below AB3.out)).mono ?_
     rintro e9 v13 ⟨ge,rfl,b13,l13,r13⟩
     have A13:=hid (AB3.out.trans b13)
     have S13:=hid (Ab.heap b13 SB3.out)
     have R13:=hid (Ab.heap b13 RB3.out)
     have T13:=hid (Ab.heap b13 Tu3.out)
     have D13:=hid (Sh.aD DB3.out b13)
     have F13:=hid (Sh.aD FB3.out b13)
     have G13:=hid r13
     clear b13 l13 r13 CF AB3 FB3 DB3 Tu3 SB3 RB3 y0 y1 y2 y3
     have y0:=aA 0 R13.out
     have y1:=aA 1 R13.out
     have y2:=aA 2 R13.out
     have y3:=aA 3 R13.out
     have t0:=aA 0 T13.out
     have t1:=aA 1 T13.out
     have t2:=aA 2 T13.out
     have t3:=aA 3 T13.out
     have CS:=hid (cE fa fa l0 l0 m0 m0 (some ⟨gd,0,none⟩) pt mt mt mt ct (dec E) F v13 (by have:=HM.out;omega) (bF D13.out (fun i hi=>by rw[KK.out.2.2.2.2 i hi];exact HF.out.lt i hi)) (HF.out.below A13.out))
     rw[show eqT fa fa l0 l0 m0 m0 mt mt (dec E) F=true from decide_eq_true ⟨rfl,rfl,rfl,rfl,KK.out.2.2.2.2⟩]at CS
     go_wp2_with fail
     refine CS.out.mono ?_
     rintro e9 v14 ⟨rfl,b14⟩
     have A14:=hid (A13.out.trans b14)
     have S14:=hid (Ab.heap b14 S13.out)
     have CV1:=aL (w:=v14) (a:=some ⟨ge,0,none⟩) (n:=N) (cap:=N) (f:=E) underlying26 underlying5 underlying9 (bF (Sh.aD G13.out b14) (fun i _=>HEB.out i)) (fun e=>by cases e)
     have CV2:=aL (w:=v14) (a:=some ⟨gc,0,none⟩) (n:=N) (cap:=N) (f:=E) underlying26 underlying5 underlying9 (bF (Sh.aD F13.out b14) (fun i _=>HEB.out i)) (fun e=>by cases e)
     have SS:=fL (f:=E) (g:=E) (n:=N) (m:=N) (fun i _=>HEB.out i) (fun i _=>HEB.out i) rfl (fun _ _=>rfl)
     clear b14 CS A13 S13 R13 T13 D13 F13 G13 y0 y1 y2 y3 t0 t1 t2 t3
     go_upto_region 29 with fail
     clear CV1 CV2 SS
     obtain⟨x0,x1,x2,x3,x4,x5⟩:=aE S14.out
     have CT:=hid (cJ side pb lb cb B pw lw cw W pr lr cr R ps ls cs S sky st v14 (J1.out.below A14.out) (J2.out.below A14.out) (J3.out.below A14.out) (J4.out.below A14.out) (by rw[HK.out];exact HK2.out))
     rw[HK.out]at CT
     go_wp2_with fail
     refine CT.out.mono ?_
     rintro e9 u1 ⟨rfl,bu1⟩
     have Au1:Hid (Ab w u1):=A14.out.trans bu1
     have Su1:=hid (Ab.heap bu1 S14.out)
     clear bu1 CT A14 S14 x0 x1 x2 x3 x4 x5
     obtain⟨x0,x1,x2,x3,x4,x5⟩:=aE Su1.out
     have CT:=hid (cJ side pb lb cb B pw lw cw W pr lr cr R ps ls cs S sky st u1 (J1.out.below Au1.out) (J2.out.below Au1.out) (J3.out.below Au1.out) (J4.out.below Au1.out) (by rw[HK.out];exact HK2.out))
     rw[HK.out]at CT
     go_wp2_with fail
     refine CT.out.mono ?_
     rintro e9 u2 ⟨rfl,bu2⟩
     have Au2:Hid (Ab w u2):=Au1.out.trans bu2
     have Su2:=hid (Ab.heap bu2 Su1.out)
     clear bu2 CT Au1 Su1 x0 x1 x2 x3 x4 x5
     have X2:Hid (Ab u2 u2):=Ab.refl _
     go_wp2
     go_loopw [22] (fun iv wr=>iv=.int .i64 0/\Ab u2 wr) (fun iv _=>0)
     case atStart=>exact⟨rfl,X2.out⟩
     case round=>
      obtain⟨rfl,ar⟩:=hrel
      have Aur:Hid (Ab w wr):=Au2.out.trans ar
      have Sur:=hid (Ab.heap ar Su2.out)
      clear ar Au2 Su2 X2
      obtain⟨x0,x1,x2,x3,x4,x5⟩:=aE Sur.out
      have CT:=hid (cJ side pb lb cb B pw lw cw W pr lr cr R ps ls cs S sky st wr (J1.out.below Aur.out) (J2.out.below Aur.out) (J3.out.below Aur.out) (J4.out.below Aur.out) (by rw[HK.out];exact HK2.out))
      rw[HK.out]at CT
      go_wp2_with fail
      refine CT.out.mono ?_
      rintro e9 u3 ⟨rfl,bu3⟩
      have Au3:Hid (Ab w u3):=Aur.out.trans bu3
      have Su3:=hid (Ab.heap bu3 Sur.out)
      clear bu3 CT Aur Sur x0 x1 x2 x3 x4 x5
      have X3:Hid (Ab u3 u3):=Ab.refl _
      go_wp2
      go_loopw [26] (fun iv wr=>iv=.int .i64 0/\Ab u3 wr) (fun iv _=>0)
      case atStart=>exact⟨rfl,X3.out⟩
      case round=>
       obtain⟨rfl,ar⟩:=hrel
       have AZ:=hid (Au3.out.trans ar)
       clear ar X3 Au3
       go_wp2
       go_ret
       exact⟨rfl,AZ.out⟩
end Ti
end
section
open Go.RowKit Go.Deep Tf Cu
namespace Ti
theorem mem_y1(side:Int)(pb:Option Addr)(lb cb:Nat)(B:Nat->Nat)(pw:Option Addr)(lw cw:Nat)(W:Nat->Int)(pr:Option Addr)(lr cr:Nat)(R:Nat->Int)(ps:Option Addr)(ls cs:Nat)(S:Nat->Nat)(sky st:Int)(fa:Int)(l0 m0:Nat)(pt:Option Addr)(mt ct:Nat)(F:Nat->Nat)(w:World)(i1:IsFl w pb lb B)(i2:Sh.IsI w pw lw W)(i3:Sh.IsI w pr lr R)(i4:IsFl w ps ls S)(hls:l0<4294967296)(hms:m0<4294967296)(hct:mt<=ct/\ct<=35184372088832)(hF:IsW .u32 4294967296 w pt mt F)(hm:mt<=1024)(ho:okT fa mt F l0 m0=true)(hk:(Ss.chk side lb lw lr ls B W R S sky st).2=0):
  Calls prog 7 #[.int .i64 side,.agg #[.slice pb lb cb,.slice pw lw cw,.slice pr lr cr,.slice ps ls cs,.int .i64 sky,.int .i64 st],.agg #[.int .i64 fa,.int .u32 ((l0:Nat):Int),.int .u32 ((m0:Nat):Int),.slice pt mt ct]] w fun e w'=>e=.returned (.bool true)/\Below w.heap.size w w':=by
 have HO:=hid ho
 have HK:=hid hk
 clear ho hk
 have HF:=hid hF
 have HB:=hid (show l0<4294967296/\m0<4294967296/\mt<=ct/\ct<=35184372088832 from⟨hls,hms,hct.1,hct.2⟩)
 have J1:=hid i1
 have J2:=hid i2
 have J3:=hid i3
 have J4:=hid i4
 clear hF hls hms hct i1 i2 i3 i4
 have A0:=dJ (bl2 w (.cells #[.slice pb lb cb,.slice pw lw cw,.slice pr lr cr,.slice ps ls cs,.int .i64 sky,.int .i64 st] 40) (.cells #[.int .i64 fa,.int .u32 ((l0:Nat):Int),.int .u32 ((m0:Nat):Int),.slice pt mt ct] 25))
 have S0:Hid (((w.alloc (.cells #[.slice pb lb cb,.slice pw lw cw,.slice pr lr cr,.slice ps ls cs,.int .i64 sky,.int .i64 st] 40)).alloc (.cells #[.int .i64 fa,.int .u32 ((l0:Nat):Int),.int .u32 ((m0:Nat):Int),.slice pt mt ct] 25)).heap[w.heap.size]? =some (.cells #[.slice pb lb cb,.slice pw lw cw,.slice pr lr cr,.slice ps ls cs,.int .i64 sky,.int .i64 st] 40)):=Ab.heap (bl1 _ _) (heap_alloc_new _ _)
 have R0:=hid (heap_alloc2_new w (.cells #[.slice pb lb cb,.slice pw lw cw,.slice pr lr cr,.slice ps ls cs,.int .i64 sky,.int .i64 st] 40) (.cells #[.int .i64 fa,.int .u32 ((l0:Nat):Int),.int .u32 ((m0:Nat):Int),.slice pt mt ct] 25))
 go_enter func7,ntmps7
 go_upto_region 1 with fail
 generalize hW:World.alloc (World.alloc w _) _=V0 at*
 obtain⟨gw,hgw⟩:=aB w.heap.size
 obtain⟨gt,hgt⟩:=aB (w.heap.size+1)
 have GW:Hid (w.heap.size<=gw/\gw<gt):=⟨by omega,by omega⟩
 rw[hgw]at S0
 rw[hgt]at R0
 rw[hgt,hgw]
 clear hgw hgt hW
 go_wp2_with fail
 refine(cQ V0).mono ?_
 rintro e9 v1 ⟨rfl,b1⟩
 have A1:Hid (Ab w v1):=A0.out.trans b1
 have S1:=hid (Ab.heap b1 S0.out)
 have R1:=hid (Ab.heap b1 R0.out)
 clear b1 A0 R0 S0
 have y0:=aA 0 R1.out
 have y1:=aA 1 R1.out
 have y2:=aA 2 R1.out
 have y3:=aA 3 R1.out
 have HM:=hid hm
 clear hm
 have c1: ¬(1024:Int)<(mt:Int):=by have:=HM.out;omega
 have mI0:(0:Int)<=(mt:Int):=by omega
 have mI1:(mt:Int)<=1024:=by omega
 have mI2:((mt:Nat):Int)<=((mt+2:Nat):Int):=by omega
 have mI3:(mt:Int)<=(mt:Int)+2:=by omega
 obtain⟨Xm,Tm⟩:=aF v1 (.cells #[.int .i64 fa,.int .u32 ((l0:Nat):Int),.int .u32 ((m0:Nat):Int),.slice pt mt ct] 25)
 go_upto_region 7 with fail
 generalize hV:World.alloc v1 _=v2 at*
 obtain⟨gtm,hgu⟩:=aB v1.heap.size
 have LGm:Hid (v1.heap.size<=gtm):=by show v1.heap.size<=gtm;omega
 rw[hgu]at Tm ⊢
 clear hV hgu
 have A2:Hid (Ab w v2):=A1.out.trans Xm.out
 have S2:=hid (Xm.out.heap S1.out)
 have R2:=hid (Xm.out.heap R1.out)
 have LM:Hid (gt<gtm/\gtm<v2.heap.size):=⟨by have:=lt_of_block R1.out;have:=LGm.out;omega,lt_of_block Tm.out⟩
 clear A1 S1 R1 Xm y0 y1 y2 y3 LGm
 go_cut [9]from 35 to 42 (fun s9 wx=> ∃b:Nat,s9=.slice (some ⟨b,0,none⟩) (mt+2) (mt+2)/\v2.heap.size<=b/\Ab v2 wx/\wx.rowIs b 22 (mt+2) (mk2 mt (fun j=>.int .u32 ((F j:Nat):Int)) (.int .u32 7)))
 case first=>
  obtain⟨i0,hi0,hi1⟩:=eM
  have IP:=hid (And.intro hi0 hi1)
  clear hi0 hi1
  have M1: ∀v:World,(Instr.makeSlice 23 (.int .i64 0) (.int .i64 (IntKind.i64.wrap ((mt:Int)+2)))).run prog v=.ok (.slice (some ⟨v.heap.size,0,none⟩) 0 (mt+2)) (v.alloc (.cells (madeCells #[.int .u32 0] (mt+2)) 22)):=fun v=>by rw[jJ (by have:=HM.out;omega)];exact kQ mt HM.out v
  have AX0:Ab v2 v2:=Ab.refl v2
  have KS:Hid (∀w',Ab v2 w'->Ab v2 w'/\w'.cell? ⟨gt,3,none⟩=some (.slice pt mt ct)):=fun w' h=>⟨h,aA 3 (h.heap R2.out)⟩
  have SR:Hid (∀v,Ab v2 v->Src prog 1 23 (.slice pt mt ct) mt ((List.range mt).map fun k=>Value.int .u32 ((F k:Nat):Int)) v):=fun v h=>src_w (HF.out.below (A2.out.trans h)) _
  go_region_held3 (fun w'=>Ab v2 w'/\w'.cell? ⟨gt,3,none⟩=some (.slice pt mt ct)) ((refine KS.out _ ?_;(with_reducible (repeat(first | assumption | apply Ab.drew | apply Ab.alloc)));done)) (first | (have r1:=R1q.out;have q1:=HQ.out;refine aK (by rfl) _ _ 23 (by rfl) 22 i0 underlying23 IP.out.1 IP.out.2 _ mt (mt+2) _ (by rfl) r1 _ 2 _ (by rfl) (cV (x:=7) (y:=7) q1) (by omega) (mt+2) rfl ?_;intro w5 r5 x5;have AX5:Ab v2 w5:=Abx.ab x5 AX4 (by omega);have R2q:=hid r5;clear r5 x5;clear r1 q1) | (have r1:=R1q.out;refine aK (by rfl) _ _ 23 (by rfl) 22 i0 underlying23 IP.out.1 IP.out.2 _ mt (mt+2) _ (by rfl) (r1.alloc _) _ 2 _ (by rfl) (cV (x:=7) (y:=7) (heap_alloc_new w4 _)) (by omega) (mt+2) rfl ?_;intro w5 r5 x5;have AX5:Ab v2 w5:=Abx.ab x5 (AX4.alloc _) (by omega);have R2q:=hid r5;clear r5 x5;clear r1) | (refine aK (by rfl) _ _ 23 (by rfl) 22 i0 underlying23 IP.out.1 IP.out.2 (v2.heap.size+1) 0 (mt+2) (fun _=>.int .u32 0) (by rfl) (kV v2 (.int .u32 0) (mt+2) 22 (.cells #[.int .u32 7,.int .u32 7] 22)) (.slice pt mt ct) mt _ (by rfl) (SR.out _ ((AX0.drew.alloc (.cells #[.int .u32 7,.int .u32 7] 22)).alloc (.cells (madeCells #[.int .u32 0] (mt+2)) 22))) (by omega) mt (by omega) ?_;intro w4 r4 x4;have AX4:Ab v2 w4:=Abx.ab x4 ((AX0.drew.alloc (.cells #[.int .u32 7,.int .u32 7] 22)).alloc (.cells (madeCells #[.int .u32 0] (mt+2)) 22)) (by omega);have R1q:=hid r4;have HQ:=hid (bR x4 (kX v2 _ (.cells #[.int .u32 7,.int .u32 7] 22)) (by omega));clear r4 x4) | (refine aK (by rfl) _ _ 23 (by rfl) 22 i0 underlying23 IP.out.1 IP.out.2 v2.heap.size 0 (mt+2) (fun _=>.int .u32 0) (by rfl) (kU v2 (.int .u32 0) (mt+2) 22 (.cells #[.int .u32 7,.int .u32 7] 22)) (.slice pt mt ct) mt _ (by rfl) (SR.out _ ((AX0.drew.alloc (.cells (madeCells #[.int .u32 0] (mt+2)) 22)).alloc (.cells #[.int .u32 7,.int .u32 7] 22))) (by omega) mt (by omega) ?_;intro w4 r4 x4;have AX4:Ab v2 w4:=Abx.ab x4 ((AX0.drew.alloc (.cells (madeCells #[.int .u32 0] (mt+2)) 22)).alloc (.cells #[.int .u32 7,.int .u32 7] 22)) (by omega);have R1q:=hid r4;have HQ:=hid (bR x4 (kW v2 _ (.cells #[.int .u32 7,.int .u32 7] 22)) (by omega));clear r4 x4) | (refine aK (by rfl) _ _ 23 (by rfl) 22 i0 underlying23 IP.out.1 IP.out.2 v2.heap.size 0 (mt+2) (fun _=>.int .u32 0) (by rfl) (kT v2 (.int .u32 0) (mt+2) 22) (.slice pt mt ct) mt _ (by rfl) (SR.out _ (AX0.drew.alloc (.cells (madeCells #[.int .u32 0] (mt+2)) 22))) (by omega) mt (by omega) ?_;intro w4 r4 x4;have AX4:Ab v2 w4:=Abx.ab x4 (AX0.drew.alloc (.cells (madeCells #[.int .u32 0] (mt+2)) 22)) (by omega);have R1q:=hid r4;clear r4 x4))
  all_goals
   go_wp2_with fail
   go_meet
   exact⟨_,rfl,by omega,AX5,R2q.out.congr (fun j hj=>gS _ _ _ _ _ hj)⟩
 case rest=>
 obtain⟨gf,rfl,lf,b3,r3⟩:=hcut
 rename World=>v3
 have A3:Hid (Ab w v3):=A2.out.trans b3
 have S3:=hid (b3.heap S2.out)
 have R3:=hid (b3.heap R2.out)
 have T3:=hid (b3.heap Tm.out)
 have N3:=hid r3
 have LF:Hid (gtm<gf):=by have:=LM.out;show gtm<gf;omega
 have A4:Hid (Ab w (v3.setCell ⟨gtm,3,none⟩ (.slice (some ⟨gf,0,none⟩) mt (mt+2)))):=A3.out.setk (by have:=LM.out;have:=GW.out;omega) _
 have S4:Hid ((v3.setCell ⟨gtm,3,none⟩ (.slice (some ⟨gf,0,none⟩) mt (mt+2))).heap[gw]? =some (.cells #[.slice pb lb cb,.slice pw lw cw,.slice pr lr cr,.slice ps ls cs,.int .i64 sky,.int .i64 st] 40)):=(aN (by have:=LM.out;have:=GW.out;omega)).trans S3.out
 have R4:Hid ((v3.setCell ⟨gtm,3,none⟩ (.slice (some ⟨gf,0,none⟩) mt (mt+2))).heap[gt]? =some (.cells #[.int .i64 fa,.int .u32 ((l0:Nat):Int),.int .u32 ((m0:Nat):Int),.slice pt mt ct] 25)):=(aN (by have:=LM.out;omega)).trans R3.out
 have T4:=hid (show(v3.setCell ⟨gtm,3,none⟩ (.slice (some ⟨gf,0,none⟩) mt (mt+2))).heap[gtm]? =some (.cells #[.int .i64 fa,.int .u32 ((l0:Nat):Int),.int .u32 ((m0:Nat):Int),.slice (some ⟨gf,0,none⟩) mt (mt+2)] 25)from by have q:=aH (k:=3) (v:=.slice (some ⟨gf,0,none⟩) mt (mt+2)) T3.out;simpa using q)
 have N4:=hid (N3.out.setOther (a:=⟨gtm,3,none⟩) (show gf≠gtm by have:=LF.out;omega) (.slice (some ⟨gf,0,none⟩) mt (mt+2)))
 have t3:=aA 3 T3.out
 have f3:=aC T3.out 3
 go_upto_region 9 with fail
 obtain⟨v4,hv4⟩:=aB (v3.setCell ⟨gtm,3,none⟩ (.slice (some ⟨gf,0,none⟩) mt (mt+2)))
 rw[hv4]at A4 S4 R4 T4 N4 ⊢
 clear hv4 t3 f3 A2 S2 R2 Tm lf b3 r3 A3 S3 R3 T3 N3
 have t0:=aA 0 T4.out
 have t1:=aA 1 T4.out
 have t2:=aA 2 T4.out
 have t3:=aA 3 T4.out
 obtain⟨N,hN⟩:=aB (14+4*mt)
 have CE:=hid (fun v (a:IsW .u32 4294967296 v (some ⟨gf,0,none⟩) mt F)=>cO fa l0 m0 (some ⟨gf,0,none⟩) mt (mt+2) F v HB.out.1 HB.out.2.1 (by have:=HB.out;have:=HM.out;omega) a HO.out)
 have CF:=hid (fun v (a:IsW .u32 4294967296 v pt mt F)=>cO fa l0 m0 pt mt ct F v HB.out.1 HB.out.2.1 (by have:=HB.out;omega) a HO.out)
 have K:=enc_ok HO.out HF.out.lt HB.out.1 HB.out.2.1
 have T1:=kH HO.out
 obtain⟨E,hE⟩:=aB (enc fa.toNat (sideN mt) l0 m0 F)
 have E4:E 4=fa.toNat/\E 5=sideN mt/\ ∀i,E i<256:=by rw[<- hE];exact⟨rfl,rfl,fun i=>kF (by omega) (by omega)⟩
 rw[hE,hN]at K CE CF
 have NI0:(0:Int)<=(N:Int):=by omega
 have NI1:(N:Int)<=4110:=by omega
 have NI2:(N:Int)<(N:Int)+2:=by omega
 have NI3:(N:Int)+1<(N:Int)+2:=by omega
 have NI4:(0:Int)<=(N:Int)+1:=by omega
 have NI5:((N:Int)+1).toNat=N+1:=by omega
 have KK:=hid K
 have HN:=hid (show N=14+4*mt/\N<=4110 from⟨hN.symm,by omega⟩)
 have HE4:=hid (show E 4=fa.toNat/\E 5=sideN mt/\(∀i,E i<256)/\((fa.toNat:Nat):Int)=fa from⟨E4.1,E4.2.1,E4.2.2,by omega⟩)
 have HEB:=hid E4.2.2
 clear K T1 hE E4 hN
 go_wp2_with fail
 refine(CE.out v4 (dR N4.out HF.out.lt)).mono ?_
 rintro e9 v5 ⟨gb,rfl,b5,l5,r5⟩
 have A5:Hid (Ab w v5):=A4.out.trans b5
 have S5:=hid (Ab.heap b5 S4.out)
 have R5:=hid (Ab.heap b5 R4.out)
 have T5:=hid (Ab.heap b5 T4.out)
 have N5:=hid (Sh.aD N4.out b5)
 have E5:=hid r5
 have LB:=hid (show gf<gb from by have:=N4.out.lt;omega)
 clear b5 l5 r5 A4 S4 R4 T4 N4 t0 t1 t2 t3
 have t0:=aA 0 T5.out
 have t1:=aA 1 T5.out
 have t2:=aA 2 T5.out
 have t3:=aA 3 T5.out
 go_wp2_with fail
 refine(CE.out v5 (dR N5.out HF.out.lt)).mono ?_
 rintro e9 v6 ⟨gc,rfl,b6,l6,r6⟩
 have A6:Hid (Ab w v6):=A5.out.trans b6
 have S6:=hid (Ab.heap b6 S5.out)
 have R6:=hid (Ab.heap b6 R5.out)
 have T6:=hid (Ab.heap b6 T5.out)
 have N6:=hid (Sh.aD N5.out b6)
 have E6:=hid (Sh.aD E5.out b6)
 have F6:=hid r6
 have LC:=hid (show gb<gc from by have:=E5.out.lt;omega)
 clear b6 l6 r6 CE A5 S5 R5 T5 N5 E5 t0 t1 t2 t3
 have t0:=aA 0 T6.out
 have t1:=aA 1 T6.out
 have t2:=aA 2 T6.out
 have t3:=aA 3 T6.out
 have CV1:=aL (w:=v6) (a:=some ⟨gb,0,none⟩) (n:=N) (cap:=N) (f:=E) underlying26 underlying5 underlying9 (bF E6.out (fun i _=>HEB.out i)) (fun e=>by cases e)
 have CV2:=aL (w:=v6) (a:=some ⟨gc,0,none⟩) (n:=N) (cap:=N) (f:=E) underlying26 underlying5 underlying9 (bF F6.out (fun i _=>HEB.out i)) (fun e=>by cases e)
 have SS:=fL (f:=E) (g:=E) (n:=N) (m:=N) (fun i _=>HEB.out i) (fun i _=>HEB.out i) rfl (fun _ _=>rfl)
 have y0:=aA 0 R6.out
 have y1:=aA 1 R6.out
 have y2:=aA 2 R6.out
 have y3:=aA 3 R6.out
 have CS:=hid (cE fa fa l0 l0 m0 m0 (some ⟨gf,0,none⟩) pt mt mt (mt+2) ct F F v6 (by have:=HM.out;omega) (dR N6.out HF.out.lt) (HF.out.below A6.out))
 rw[show eqT fa fa l0 l0 m0 m0 mt mt F F=true from decide_eq_true ⟨rfl,rfl,rfl,rfl,fun _ _=>rfl⟩]at CS
 go_wp2_with fail
 refine CS.out.mono ?_
 rintro e9 v7 ⟨rfl,b7⟩
 have A7:Hid (Ab w v7):=A6.out.trans b7
 have S7:=hid (Ab.heap b7 S6.out)
 have R7:=hid (Ab.heap b7 R6.out)
 have N7:=hid (Sh.aD N6.out b7)
 have z1:=N7.out.cell (i:=mt) (by omega)
 have z2:=N7.out.cell (i:=mt+1) (by omega)
 rw[kS (by omega)]at z1 z2
 have i1:(mt:Int)<(mt:Int)+2:=by omega
 have i2:(mt:Int)+1<(mt:Int)+2:=by omega
 have i3:(0:Int)<=(mt:Int)+1:=by omega
 have i4:((mt:Int)+1).toNat=mt+1:=by omega
 have E7:=hid (Sh.aD E6.out b7)
 have F7:=hid (Sh.aD F6.out b7)
 clear CS CV1 CV2 A6 S6 R6 T6 N6 E6 F6 b7 t0 t1 t2 t3 y0 y1 y2 y3
 have M1: ∀v:World,(Instr.makeSlice 26 (.int .i64 0) (.int .i64 (IntKind.i64.wrap ((N:Int)+2)))).run prog v=.ok (.slice (some ⟨v.heap.size,0,none⟩) 0 (N+2)) (v.alloc (.cells (madeCells #[.int .u8 0] (N+2)) 5)):=fun v=>by rw[jJ (by have:=HN.out;omega)];exact kR N HN.out.2 v
 have M2: ∀v:World,(Instr.makeSlice 26 (.int .i64 0) (.int .i64 ((N:Int)+2))).run prog v=.ok (.slice (some ⟨v.heap.size,0,none⟩) 0 (N+2)) (v.alloc (.cells (madeCells #[.int .u8 0] (N+2)) 5)):=fun v=>kR N HN.out.2 v
 have EL:=hid (byl_n E N)
 have I7:Hid (IsW .u8 256 (v7.alloc (.cells (madeCells #[.int .u8 0] (N+2)) 5)) (some ⟨gb,0,none⟩) N E):=(bF (E7.out.alloc _) (fun i _=>HEB.out i))
 have OM:=hid (jK v7 (N+2) (by have:=HN.out;omega))
 go_upto_region 15 with(first | (at_builtin;refine T8.bM rfl (.tmp 95) (.tmp 96) rfl v7.heap.size (.slice (some ⟨g1,0,none⟩) N c1) ((List.range N).map E) rfl (O8.out.alloc _) ⟨v8.heap.size,0,none⟩ 2 2 [9,9] rfl rfl (nb99 v8) (by decide) (by have:=HN.out;have:=EL.out.1;omega) (by have:=A8.size;simp;omega) (N+2) (by rw[EL.out.1]) ?_;intro g2 c2 v9 o9 g9 e9 l9;have A9:Hid (Ab v7 v9):=(A8.alloc _).grown g9 (by have:=A8.size;simp;omega) (fun k hk=>by simp[Value.ownBlock]at hk;have:=L8.out;omega)) | (at_builtin;refine T8.bM rfl (.tmp 93) (.tmp 94) rfl v7.heap.size (.slice (some ⟨v7.heap.size,0,none⟩) 0 (N+2)) [] rfl OM.out ⟨gb,0,none⟩ N N ((List.range N).map E) rfl EL.out.1 (T8.kP I7.out) (by have:=HN.out;omega) (by have:=HN.out;simp;omega) (by simp) N (by simp) ?_;intro g1 c1 v8 o8 g8 e8 l8;have A8:Ab v7 v8:=(bl1 v7 _).grown g8 (by simp) (fun k hk=>by simp[Value.ownBlock]at hk;omega);have O8:Hid (T8.Own v7.heap.size (.slice (some ⟨g1,0,none⟩) N c1) ((List.range N).map E) v8):=o8;have L8:=hid l8;clear o8 g8 e8 l8))
 clear M1 M2 EL I7 OM O8 L8 A8 g9 e9
 have E9:=hid (Sh.aD E7.out A9.out)
 have F9:=hid (Sh.aD F7.out A9.out)
 have S9:=hid (A9.out.heap S7.out)
 have R9:=hid (A9.out.heap R7.out)
 have AA:Hid (Ab w v9):=A7.out.trans A9.out
 have LG2:=hid (show gc<g2 from by have:=F7.out.lt;omega)
 have B9:=hid (mQ o9)
 have I9:=hid (pN o9 HEB.out)
 clear o9 l9 A9 A7 S7 R7 E7 F7
 have hc2:(N:Int)<=(c2:Int):=by have:=B9.out.1;omega
 have CD:=hid (eR (some ⟨g2,0,none⟩) N c2 E v9 ⟨by have:=B9.out.1;omega,I9.out.2.2.2⟩ I9.out.1 KK.out.1)
 rw[HE4.out.1,HE4.out.2.2.2,HE4.out.2.1,KK.out.2.1,KK.out.2.2.1,KK.out.2.2.2.1]at CD
 clear N7 z1 z2 i1 i2 i3 i4
 go_wp2_with fail
 refine CD.out.mono ?_
 rintro e9 v10 ⟨gd,rfl,b10,l10,r10⟩
 have BX:=hid b10
 have D10:=hid r10
 have LD:=hid (show g2<gd from by have:=B9.out.2.lt;omega)
 clear b10 l10 r10 CD
 obtain⟨Xu,Tu⟩:=aF v10 (.cells #[.int .i64 fa,.int .u32 ((l0:Nat):Int),.int .u32 ((m0:Nat):Int),.slice (some ⟨gd,0,none⟩) mt mt] 25)
 go_upto_region 16 with fail
 generalize hV:World.alloc v10 _=v11 at*
 obtain⟨gtu,hgu⟩:=aB v10.heap.size
 have LGu:Hid (v10.heap.size<=gtu):=by show v10.heap.size<=gtu;omega
 rw[hgu]at Tu ⊢
 clear hV hgu
 have BY:Hid (Ab v9 v11):=Ab.trans BX.out Xu.out
 have AB:=hid (AA.out.trans BY.out)
 have DB:=hid (Sh.aD D10.out Xu.out)
 have EB1:=hid (Sh.aD E9.out BY.out)
 have FB1:=hid (Sh.aD F9.out BY.out)
 have SB1:=hid (BY.out.heap S9.out)
 have RB1:=hid (BY.out.heap R9.out)
 have BB1:Hid (Blk g2 c2 5 v11):=by
  obtain⟨cs,h1,h2⟩:=B9.out.2
  exact⟨cs,h1,BY.out.heap h2⟩
 have LU:=hid (show gd<gtu from by have:=D10.out.lt;have:=LGu.out;omega)
 have IB:=hid (I9.out.1.below BY.out)
 have w1:v11.cell? ⟨g2,N,none⟩=some (.int .u8 9):=(Below.cell BY.out B9.out.2.lt).trans I9.out.2.1
 have w2:v11.cell? ⟨g2,N+1,none⟩=some (.int .u8 9):=(Below.cell BY.out B9.out.2.lt).trans I9.out.2.2.1
 have KS:Hid (∀v,Ab v11 v->v.cell? ⟨g2,N,none⟩=some (.int .u8 9)/\v.cell? ⟨g2,N+1,none⟩=some (.int .u8 9)/\(convert 26 9 (.slice (some ⟨g2,0,none⟩) N c2)).run prog v=.ok (.string (str E N)) v/\(convert 26 9 (.slice (some ⟨gc,0,none⟩) N N)).run prog v=.ok (.string (str E N)) v):=fun v a=>⟨(Below.cell a BB1.out.lt).trans w1,(Below.cell a BB1.out.lt).trans w2,aL underlying26 underlying5 underlying9 (IB.out.below a) (fun e=>by cases e),aL underlying26 underlying5 underlying9 ((bF FB1.out (fun i _=>HEB.out i)).below a) (fun e=>by cases e)⟩
 have XD:Ab v11 v11:=Ab.refl _
 have WR1:IntKind.i64.wrap ((N:Int)+1)=(N:Int)+1:=by rw[IntKind.wrap_i64];omega
 clear w1 w2
 have LW:=hid (show w.heap.size<=gw/\gw<gt/\gt<gb/\gb<gc/\gc<g2/\g2<gd/\gd<gtu from⟨GW.out.1,GW.out.2,by have:=LM.out;have:=LF.out;have:=LB.out;omega,LC.out,LG2.out,LD.out,LU.out⟩)
 have HC2:=hid B9.out.1
 clear AA D10 Xu E9 F9 S9 R9 B9 I9 BX BY LD LU LGu
 go_region_held3 (fun v=>v.cell? ⟨g2,N,none⟩=some (.int .u8 9)/\v.cell? ⟨g2,N+1,none⟩=some (.int .u8 9)/\(convert 26 9 (.slice (some ⟨g2,0,none⟩) N c2)).run prog v=.ok (.string (str E N)) v/\(convert 26 9 (.slice (some ⟨gc,0,none⟩) N N)).run prog v=.ok (.string (str E N)) v) ((refine KS.out _ ?_;(with_reducible (repeat(first | assumption | apply Ab.drew)));done)) (fail)
 clear KS XD SS IB WR1
 have XO:Hid (Sh.Abo v11 g2 v11):=Sh.Abo.refl _ _
 go_wp2
 go_loopw [17] (fun iv wr=> ∃c:Nat,c<=N+2/\iv=.int .i64 (c:Nat)/\Sh.Abo v11 g2 wr/\Blk g2 c2 5 wr) (fun iv _=>N+2 - (intOf iv).toNat)
 case atStart=>exact⟨0,by omega,rfl,XO.out,BB1.out⟩
 case round=>
  obtain⟨c,hc,rfl,a1,k1⟩:=hrel
  have X1:=hid a1
  have K1:=hid k1
  clear a1 k1 XO BB1
  by_cases hc6:c<N+2
  ·have HC6:=hid hc6
   have cI:(c:Int)<(N:Int)+2:=by omega
   have cI0:(0:Int)<=(c:Int):=by omega
   obtain⟨u,hu⟩:=K1.out.cell (k:=c) (by have:=HC2.out;omega)
   have fu:=K1.out.free c
   clear hc hc6
   go_wp2
   exact⟨⟨c+1,by have:=HC6.out;omega,by simp,Abo.set X1.out _ _,K1.out.set _ _⟩,by have:=HC6.out;simp[intOf];omega⟩
  ·have cI: ¬(c:Int)<(N:Int)+2:=by omega
   have cI0:(0:Int)<=(c:Int):=by omega
   clear hc hc6 K1
   have EB2:=hid (Sh.aY EB1.out X1.out (show gb≠g2 by have:=LW.out;omega))
   have FB2:=hid (Sh.aY FB1.out X1.out (show gc≠g2 by have:=LW.out;omega))
   have DB2:=hid (Sh.aY DB.out X1.out (show gd≠g2 by have:=LW.out;omega))
   have Tu2:=hid ((X1.out.2.2.2.2 gtu (lt_of_block Tu.out) (show gtu≠g2 by have:=LW.out;omega)).trans Tu.out)
   have SB2:=hid ((X1.out.2.2.2.2 gw (lt_of_block SB1.out) (show gw≠g2 by have:=LW.out;omega)).trans SB1.out)
   have RB2:=hid ((X1.out.2.2.2.2 gt (lt_of_block RB1.out) (show gt≠g2 by have:=LW.out;omega)).trans RB1.out)
   have AB2:=hid (X1.out.ab AB.out (show w.heap.size<=g2 by have:=LW.out;omega))
   have XO2:Hid (Sh.Abo wr gb wr):=Sh.Abo.refl _ _
   have KB2:Hid (Blk gb N 5 wr):=Blk.of EB2.out
   clear X1 AB DB EB1 FB1 Tu SB1 RB1 EB2
   go_wp2
   go_loopw [18] (fun iv wp=> ∃c:Nat,c<=N/\iv=.int .i64 (c:Nat)/\Sh.Abo wr gb wp/\Blk gb N 5 wp) (fun iv _=>N - (intOf iv).toNat)
   case atStart=>exact⟨0,by omega,rfl,XO2.out,KB2.out⟩
   case round=>
    obtain⟨d,hd,rfl,a1,k1⟩:=hrel
    have X2:=hid a1
    have K2:=hid k1
    clear a1 k1 XO2 KB2
    by_cases hd6:d<N
    ·have HD6:=hid hd6
     have dI:(d:Int)<(N:Int):=by omega
     have dI0:(0:Int)<=(d:Int):=by omega
     obtain⟨u,hu⟩:=K2.out.cell (k:=d) hd6
     have fu:=K2.out.free d
     clear hd hd6
     go_wp2
     exact⟨⟨d+1,by have:=HD6.out;omega,by simp,Abo.set X2.out _ _,K2.out.set _ _⟩,by have:=HD6.out;simp[intOf];omega⟩
    ·have dI: ¬(d:Int)<(N:Int):=by omega
     have dI0:(0:Int)<=(d:Int):=by omega
     clear hd hd6 K2
     have FB3:=hid (Sh.aY FB2.out X2.out (show gc≠gb by have:=LW.out;omega))
     have DB3:=hid (Sh.aY DB2.out X2.out (show gd≠gb by have:=LW.out;omega))
     have Tu3:=hid ((X2.out.2.2.2.2 gtu (lt_of_block Tu2.out) (show gtu≠gb by have:=LW.out;omega)).trans Tu2.out)
     have SB3:=hid ((X2.out.2.2.2.2 gw (lt_of_block SB2.out) (show gw≠gb by have:=LW.out;omega)).trans SB2.out)
     have RB3:=hid ((X2.out.2.2.2.2 gt (lt_of_block RB2.out) (show gt≠gb by have:=LW.out;omega)).trans RB2.out)
     have AB3:=hid (X2.out.ab AB2.out (show w.heap.size<=gb by have:=LW.out;omega))
     clear X2 AB2 FB2 DB2 Tu2 SB2 RB2
     have y0:=aA 0 RB3.out
     have y1:=aA 1 RB3.out
     have y2:=aA 2 RB3.out
     have y3:=aA 3 RB3.out
     go_wp2_with fail
     refine(CF.out wr (HF.out.below AB3.out)).mono ?_
     rintro e9 v13 ⟨ge,rfl,b13,l13,r13⟩
     have A13:=hid (AB3.out.trans b13)
     have S13:=hid (Ab.heap b13 SB3.out)
     have R13:=hid (Ab.heap b13 RB3.out)
     have T13:=hid (Ab.heap b13 Tu3.out)
     have D13:=hid (Sh.aD DB3.out b13)
     have F13:=hid (Sh.aD FB3.out b13)
     have G13:=hid r13
     clear b13 l13 r13 CF AB3 FB3 DB3 Tu3 SB3 RB3 y0 y1 y2 y3
     have y0:=aA 0 R13.out
     have y1:=aA 1 R13.out
     have y2:=aA 2 R13.out
     have y3:=aA 3 R13.out
     have t0:=aA 0 T13.out
     have t1:=aA 1 T13.out
     have t2:=aA 2 T13.out
     have t3:=aA 3 T13.out
     have CS:=hid (cE fa fa l0 l0 m0 m0 (some ⟨gd,0,none⟩) pt mt mt mt ct (dec E) F v13 (by have:=HM.out;omega) (bF D13.out (fun i hi=>by rw[KK.out.2.2.2.2 i hi];exact HF.out.lt i hi)) (HF.out.below A13.out))
     rw[show eqT fa fa l0 l0 m0 m0 mt mt (dec E) F=true from decide_eq_true ⟨rfl,rfl,rfl,rfl,KK.out.2.2.2.2⟩]at CS
     go_wp2_with fail
     refine CS.out.mono ?_
     rintro e9 v14 ⟨rfl,b14⟩
     have A14:=hid (A13.out.trans b14)
     have S14:=hid (Ab.heap b14 S13.out)
     have CV1:=aL (w:=v14) (a:=some ⟨ge,0,none⟩) (n:=N) (cap:=N) (f:=E) underlying26 underlying5 underlying9 (bF (Sh.aD G13.out b14) (fun i _=>HEB.out i)) (fun e=>by cases e)
     have CV2:=aL (w:=v14) (a:=some ⟨gc,0,none⟩) (n:=N) (cap:=N) (f:=E) underlying26 underlying5 underlying9 (bF (Sh.aD F13.out b14) (fun i _=>HEB.out i)) (fun e=>by cases e)
     have SS:=fL (f:=E) (g:=E) (n:=N) (m:=N) (fun i _=>HEB.out i) (fun i _=>HEB.out i) rfl (fun _ _=>rfl)
     clear b14 CS A13 S13 R13 T13 D13 F13 G13 y0 y1 y2 y3 t0 t1 t2 t3
     go_upto_region 29 with fail
     clear CV1 CV2 SS
     have WQ:=hid (lt_of_block S14.out)
     obtain⟨nn,qn,hn,hlw,h0⟩:=kM HK.out
     have T6q:=fun c hc=>mO (n:=nn) (c:=c) (W:=W) hn hc h0
     have m1:nn*nn<=32*32:=Nat.mul_le_mul hn.2 hn.2
     obtain⟨m,hmm⟩:=aB (nn*nn)
     rw[hmm]at T6q m1
     have T6:=hid T6q
     have HN1:=hid (show side.toNat=nn by rw[qn,Int.toNat_natCast])
     have HN2:=hid hmm
     have M1024:=hid (show m<=1024 from m1)
     have mJ0:(0:Int)<=(m:Int):=by omega
     have mJ1:(m:Int)<=1024:=by omega
     clear T6q m1 hmm qn hn h0 hlw
     obtain⟨x0,x1,x2,x3,x4,x5⟩:=aE S14.out
     have CT:=hid (cP side pb lb cb B pw lw cw W pr lr cr R ps ls cs S sky st v14 (J1.out.below A14.out) (J2.out.below A14.out) (J3.out.below A14.out) (J4.out.below A14.out) HK.out)
     rw[HN1.out,HN2.out]at CT
     go_wp2_with fail
     refine CT.out.mono ?_
     rintro e9 u1 ⟨gl1,gs1,rfl,bu1,p1,p2,p3,p4⟩
     have Au1:Hid (Ab w u1):=A14.out.trans bu1
     have Su1:=hid (Ab.heap bu1 S14.out)
     have L1:=hid p2
     have C1:=hid (fun j hj=>(p3 j hj).2)
     have G1:Hid (Geo v14.heap.size u1.heap.size gl1 gs1):=⟨p1,fun j hj=>⟨(p3 j hj).1,(p3 j hj).2.lt⟩,p4⟩
     have BB1:=hid bu1
     clear bu1 p1 p2 p3 p4 CT S14 x0 x1 x2 x3 x4 x5
     obtain⟨x0,x1,x2,x3,x4,x5⟩:=aE Su1.out
     have CT:=hid (cP side pb lb cb B pw lw cw W pr lr cr R ps ls cs S sky st u1 (J1.out.below Au1.out) (J2.out.below Au1.out) (J3.out.below Au1.out) (J4.out.below Au1.out) HK.out)
     rw[HN1.out,HN2.out]at CT
     go_wp2_with fail
     refine CT.out.mono ?_
     rintro e9 u2 ⟨gl2,gs2,rfl,bu2,p1,p2,p3,p4⟩
     have Au2:Hid (Ab w u2):=Au1.out.trans bu2
     have Su2:=hid (Ab.heap bu2 Su1.out)
     have L2:=hid p2
     have C2:=hid (fun j hj=>(p3 j hj).2)
     have G2:Hid (Geo u1.heap.size u2.heap.size gl2 gs2):=⟨p1,fun j hj=>⟨(p3 j hj).1,(p3 j hj).2.lt⟩,p4⟩
     have BB2:=hid bu2
     clear bu2 p1 p2 p3 p4 CT Su1 x0 x1 x2 x3 x4 x5
     have W0:Hid (Wr u2 v14.heap.size u1.heap.size gl1 gs1 m 0 u2):=Wr.new (Sh.aD L1.out BB2.out) (fun j hj=>Sh.aD (C1.out j hj) BB2.out)
     have SZ:=hid (show w.heap.size<=v14.heap.size/\gw<v14.heap.size/\v14.heap.size<=u1.heap.size from⟨A14.out.size,WQ.out,BB1.out.size⟩)
     clear A14 Au1 L1 C1 BB1 BB2
     go_wp2
     go_loopw [22] (fun iv wr=> ∃c:Nat,c<=6/\iv=.int .i64 (c:Nat)/\Wr u2 v14.heap.size u1.heap.size gl1 gs1 m c wr) (fun iv _=>6 - (intOf iv).toNat)
     case atStart=>exact⟨0,by omega,rfl,W0.out⟩
     case round=>
      obtain⟨c,hc,rfl,a1⟩:=hrel
      have AW:=hid a1
      clear a1 W0
      by_cases hc6:c<6
      ·have HC6:=hid hc6
       have cI:(c:Int)<6:=by omega
       have cI0:(0:Int)<=(c:Int):=by omega
       clear hc hc6
       go_wp2
       go_loopw [23] (fun iv wr=> ∃k:Nat,k<=m/\iv=.int .i64 (k:Nat)/\Wr u2 v14.heap.size u1.heap.size gl1 gs1 m c wr) (fun iv _=>m - (intOf iv).toNat)
       case atStart=>exact⟨0,by omega,rfl,AW.out⟩
       case round=>
        obtain⟨k,hk,rfl,a2⟩:=hrel
        have AV:=hid a2
        clear a2 AW
        have z3:=(AV.out.2.2 c (Nat.le_refl _) HC6.out).1
        obtain⟨f,rf⟩:=(AV.out.2.2 c (Nat.le_refl _) HC6.out).2
        have RF:=hid rf
        obtain⟨gc,hgc⟩:=aB (gs1 c)
        rw[hgc]at z3 RF
        clear rf
        by_cases hk6:k<m
        ·have HK6:=hid hk6
         have kI:(k:Int)<(m:Int):=by omega
         have kI0:(0:Int)<=(k:Int):=by omega
         have zc:=RF.out.cell hk6
         have zf:=RF.out.frozen k
         have HGC:=hid hgc
         clear hk hk6 hgc RF
         go_wp2
         exact⟨⟨k+1,by have:=HK6.out;omega,by simp,by have q:=AV.out.put G1.out HC6.out k;rwa [HGC.out]at q⟩,by have:=HK6.out;simp[intOf];omega⟩
        ·have kI: ¬(k:Int)<(m:Int):=by omega
         have kI0:(0:Int)<=(k:Int):=by omega
         have HGC:=hid hgc
         clear hk hk6 hgc
         have OW:=hid (jI RF.out M1024.out)
         clear RF
         go_wp2_with (at_builtin;refine T32.bM rfl (.tmp 214) (.tmp 215) rfl gc (.slice (some ⟨gc,0,none⟩) m m) ((List.range m).map f) rfl (OW.out.alloc _) ⟨wr.heap.size,0,none⟩ 2 2 [99,99] rfl rfl (nc99 wr) (by decide) (by have:=M1024.out;simp;omega) (mR OW.out) (m+2) (by simp) ?_;intro g2 c2 w9 o9 g9 e9 l9;obtain⟨WM,BM⟩:=AV.out.mid G1.out HC6.out (by rw[HGC.out];exact g9);have bf:=BM.free (c*4+3);obtain⟨bu,bc⟩:=BM.cell (k:=c*4+3) (by have:=HC6.out;omega);have WMM:=hid WM;clear WM BM o9 g9 e9 l9)
         exact⟨⟨c+1,by have:=HC6.out;omega,by simp,WMM.out.link G1.out HC6.out _⟩,by have:=HC6.out;simp[intOf];omega⟩
      ·have cI: ¬(c:Int)<6:=by omega
       have cI0:(0:Int)<=(c:Int):=by omega
       clear hc hc6
       have Ar:Hid (Ab w wr):=AW.out.1.ab Au2.out SZ.out.1
       have Sr:=hid ((AW.out.1.2.2.2.2 gw (lt_of_block Su2.out) (.inl SZ.out.2.1)).trans Su2.out)
       have L2r:=hid (L2.out.of_block (AW.out.1.2.2.2.2 gl2 L2.out.lt (.inr G2.out.1)))
       have C2r:=hid (fun j (hj:j<6)=>(C2.out j hj).of_block (AW.out.1.2.2.2.2 _ (C2.out j hj).lt (.inr (by have:=G2.out.1;have:=(G2.out.2.1 j hj).1;omega))))
       clear AW Au2 Su2 L2 C2 SZ G1 G2
       obtain⟨x0,x1,x2,x3,x4,x5⟩:=aE Sr.out
       have CT:=hid (cP side pb lb cb B pw lw cw W pr lr cr R ps ls cs S sky st wr (J1.out.below Ar.out) (J2.out.below Ar.out) (J3.out.below Ar.out) (J4.out.below Ar.out) HK.out)
       rw[HN1.out,HN2.out]at CT
       go_wp2_with fail
       refine CT.out.mono ?_
       rintro e9 u3 ⟨gl3,gs3,rfl,bu3,p1,p2,p3,p4⟩
       have Au3:Hid (Ab w u3):=Ar.out.trans bu3
       have Su3:=hid (Ab.heap bu3 Sr.out)
       have L3:=hid p2
       have C3:=hid (fun j hj=>(p3 j hj).2)
       have G3:Hid (Geo wr.heap.size u3.heap.size gl3 gs3):=⟨p1,fun j hj=>⟨(p3 j hj).1,(p3 j hj).2.lt⟩,p4⟩
       have BB3:=hid bu3
       clear bu3 p1 p2 p3 p4 CT Sr x0 x1 x2 x3 x4 x5
       have L2u:=hid (Sh.aD L2r.out BB3.out)
       have C2u:=hid (fun j (hj:j<6)=>Sh.aD (C2r.out j hj) BB3.out)
       clear L2r C2r BB3 G3 Ar Su3
       have X3:Hid (Ab u3 u3):=Ab.refl _
       go_wp2
       go_loopw [26] (fun iv wx=> ∃c:Nat,c<=6/\iv=.int .i64 (c:Nat)/\Ab u3 wx) (fun iv _=>6 - (intOf iv).toNat)
       case atStart=>exact⟨0,by omega,rfl,X3.out⟩
       case round=>
        obtain⟨c,hc,rfl,a1⟩:=hrel
        have AX:=hid a1
        clear a1 X3
        by_cases hc6:c<6
        ·have HC6:=hid hc6
         have cI:(c:Int)<6:=by omega
         have cI0:(0:Int)<=(c:Int):=by omega
         have LX:=hid (Sh.aD L3.out AX.out)
         have LY:=hid (Sh.aD L2u.out AX.out)
         have RX:=hid (Sh.aD (C3.out c hc6) AX.out)
         have RY:=hid (Sh.aD (C2u.out c hc6) AX.out)
         have FB:=hid (show∀k,k<m->tb nn W (c*m+k)<4294967296 from fun k hk=>by have:=(T6.out c hc6).1 k hk;omega)
         obtain⟨l,hl⟩:=aB (lo (fun k=>tb nn W (c*m+k)) (m - 1))
         obtain⟨h,hh⟩:=aB (hi (fun k=>tb nn W (c*m+k)) (m - 1))
         obtain⟨g3,hg3⟩:=aB (gs3 c)
         obtain⟨g2,hg2⟩:=aB (gs2 c)
         rw[hg3]at RX
         rw[hg2]at RY
         have CS:Hid (∀v,Ab wr v->Calls prog 11 #[.agg #[.int .i64 ((c:Nat):Int),.int .u32 ((l:Nat):Int),.int .u32 ((h:Nat):Int),.slice (some ⟨g3,0,none⟩) m m],.agg #[.int .i64 ((c:Nat):Int),.int .u32 ((l:Nat):Int),.int .u32 ((h:Nat):Int),.slice (some ⟨g2,0,none⟩) m m]] v fun e w'=>e=.returned (.bool true)/\Below v.heap.size v w'):=fun v a=>by
          have q:=cE ((c:Nat):Int) ((c:Nat):Int) l l h h (some ⟨g3,0,none⟩) (some ⟨g2,0,none⟩) m m m m (fun k=>tb nn W (c*m+k)) (fun k=>tb nn W (c*m+k)) v (by have:=M1024.out;omega) (bF (Sh.aD RX.out a) FB.out) (bF (Sh.aD RY.out a) FB.out)
          rwa [show eqT ((c:Nat):Int) ((c:Nat):Int) l l h h m m (fun k=>tb nn W (c*m+k)) (fun k=>tb nn W (c*m+k))=true from decide_eq_true ⟨rfl,rfl,rfl,rfl,fun _ _=>rfl⟩]at q
         have KS:Hid (∀v,Ab wr v->v.cell? ⟨gl3,c*4,none⟩=some (.int .i64 ((c:Nat):Int))/\v.cell? ⟨gl3,c*4+1,none⟩=some (.int .u32 ((l:Nat):Int))/\v.cell? ⟨gl3,c*4+2,none⟩=some (.int .u32 ((h:Nat):Int))/\v.cell? ⟨gl3,c*4+3,none⟩=some (.slice (some ⟨g3,0,none⟩) m m)/\v.cell? ⟨gl2,c*4,none⟩=some (.int .i64 ((c:Nat):Int))/\v.cell? ⟨gl2,c*4+1,none⟩=some (.int .u32 ((l:Nat):Int))/\v.cell? ⟨gl2,c*4+2,none⟩=some (.int .u32 ((h:Nat):Int))/\v.cell? ⟨gl2,c*4+3,none⟩=some (.slice (some ⟨g2,0,none⟩) m m)):=fun v a=>by
           have p:=Sh.aD LX.out a
           have q:=Sh.aD LY.out a
           have x0:=p.cell (i:=c*4) (by have:=HC6.out;omega)
           have x1:=p.cell (i:=c*4+1) (by have:=HC6.out;omega)
           have x2:=p.cell (i:=c*4+2) (by have:=HC6.out;omega)
           have x3:=p.cell (i:=c*4+3) (by have:=HC6.out;omega)
           rw[tcv_0]at x0
           rw[tcv_1,hl]at x1
           rw[tcv_2,hh]at x2
           rw[mP,hg3]at x3
           have y0:=q.cell (i:=c*4) (by have:=HC6.out;omega)
           have y1:=q.cell (i:=c*4+1) (by have:=HC6.out;omega)
           have y2:=q.cell (i:=c*4+2) (by have:=HC6.out;omega)
           have y3:=q.cell (i:=c*4+3) (by have:=HC6.out;omega)
           rw[tcv_0]at y0
           rw[tcv_1,hl]at y1
           rw[tcv_2,hh]at y2
           rw[mP,hg2]at y3
           exact⟨x0,x1,x2,x3,y0,y1,y2,y3⟩
         clear hc hc6 hl hh hg3 hg2 LX LY RX RY FB
         have X5:Ab wr wr:=Ab.refl wr
         go_upto_region 45 with fail
         go_region_held3 (fun v=>v.cell? ⟨gl3,c*4,none⟩=some (.int .i64 ((c:Nat):Int))/\v.cell? ⟨gl3,c*4+1,none⟩=some (.int .u32 ((l:Nat):Int))/\v.cell? ⟨gl3,c*4+2,none⟩=some (.int .u32 ((h:Nat):Int))/\v.cell? ⟨gl3,c*4+3,none⟩=some (.slice (some ⟨g3,0,none⟩) m m)/\v.cell? ⟨gl2,c*4,none⟩=some (.int .i64 ((c:Nat):Int))/\v.cell? ⟨gl2,c*4+1,none⟩=some (.int .u32 ((l:Nat):Int))/\v.cell? ⟨gl2,c*4+2,none⟩=some (.int .u32 ((h:Nat):Int))/\v.cell? ⟨gl2,c*4+3,none⟩=some (.slice (some ⟨g2,0,none⟩) m m)) ((refine KS.out _ ?_;(with_reducible (repeat(first | assumption | apply Ab.drew)));done)) (first | (go_at_call 11;refine(CS.out _ (show Ab wr _ by with_reducible (repeat(first | assumption | apply Ab.drew)))).mono ?_;rintro e9 z1 ⟨rfl,b1⟩;have az1:Ab wr z1:=Ab.trans (show Ab wr _ by with_reducible (repeat(first | assumption | apply Ab.drew))) b1))
         have AZ:=hid (AX.out.trans az1)
         clear az1 X5 KS CS
         go_wp2
         exact⟨⟨c+1,by have:=HC6.out;omega,by simp,AZ.out⟩,by have:=HC6.out;simp[intOf];omega⟩
        ·have cI: ¬(c:Int)<6:=by omega
         have cI0:(0:Int)<=(c:Int):=by omega
         have AZ:=hid (Au3.out.trans AX.out)
         clear hc hc6
         go_wp2
         go_ret
         exact⟨rfl,AZ.out⟩
end Ti
end
section
open Go.RowKit Go.Deep Tf Cu
namespace Ti
theorem tmem_at(side:Int)(pb:Option Addr)(lb cb:Nat)(B:Nat->Nat)(pw:Option Addr)(lw cw:Nat)(W:Nat->Int)(pr:Option Addr)(lr cr:Nat)(R:Nat->Int)(ps:Option Addr)(ls cs:Nat)(S:Nat->Nat)(sky st:Int)(fa:Int)(l0 m0:Nat)(pt:Option Addr)(mt ct:Nat)(F:Nat->Nat)(w:World)(i1:IsFl w pb lb B)(i2:Sh.IsI w pw lw W)(i3:Sh.IsI w pr lr R)(i4:IsFl w ps ls S)(hls:l0<4294967296)(hms:m0<4294967296)(hct:mt<=ct/\ct<=35184372088832)(hF:IsW .u32 4294967296 w pt mt F):
  Calls prog 7 #[.int .i64 side,.agg #[.slice pb lb cb,.slice pw lw cw,.slice pr lr cr,.slice ps ls cs,.int .i64 sky,.int .i64 st],.agg #[.int .i64 fa,.int .u32 ((l0:Nat):Int),.int .u32 ((m0:Nat):Int),.slice pt mt ct]] w fun e w'=>e=.returned (.bool true)/\Below w.heap.size w w':=by
 by_cases hc:1024<mt
 ·exact mem_big side pb lb cb B pw lw cw W pr lr cr R ps ls cs S sky st fa l0 m0 pt mt ct F w i1 i2 i3 i4 hls hms hct hF hc
 ·have hm:mt<=1024:=by omega
  by_cases hk:(Ss.chk side lb lw lr ls B W R S sky st).2=0
  ·cases ho:okT fa mt F l0 m0 with
   | true=>exact mem_y1 side pb lb cb B pw lw cw W pr lr cr R ps ls cs S sky st fa l0 m0 pt mt ct F w i1 i2 i3 i4 hls hms hct hF hm ho hk
   | false=>exact mem_n1 side pb lb cb B pw lw cw W pr lr cr R ps ls cs S sky st fa l0 m0 pt mt ct F w i1 i2 i3 i4 hls hms hct hF hm ho hk
  ·cases ho:okT fa mt F l0 m0 with
   | true=>exact mem_y0 side pb lb cb B pw lw cw W pr lr cr R ps ls cs S sky st fa l0 m0 pt mt ct F w i1 i2 i3 i4 hls hms hct hF hm ho _ rfl hk
   | false=>exact mem_n0 side pb lb cb B pw lw cw W pr lr cr R ps ls cs S sky st fa l0 m0 pt mt ct F w i1 i2 i3 i4 hls hms hct hF hm ho _ rfl hk
end Ti
end
end Go.Proofs.Ytdeammhdedcjlaa
