/-
  Some of the texts of this proof, one behind the other.
-/
import Derived.Lib.SlBytesConst
import Derived.Deep.AppendSrc
import Derived.Test.YtlmfpikhlcnjjaaGreatDoorTie
import Derived.Test.YtlmfpikhlcnjjaaGreatDoorCards
import Derived.ProofKit
import Derived.LaidMore
import Derived.OpenShut
import Derived.Stop.Joined
import Derived.Carry
import Derived.Lib.SmallJoins
import Derived.WalkLawsBesides
import Derived.Test.YtlmfpikhlcnjjaaGreatDoorRows
import Derived.Test.YtlmfpikhlcnjjaaGreatDoorSj09
set_option maxRecDepth 100000
set_option maxHeartbeats 400000000
namespace Go.Proofs.YtlmfpikhlcnjjaaGreatDoor
open _root_.Go.Proofs.Tryz
section
open Go.RowKit Tf Cu Go.Deep
attribute [local go_sem] aF aG aI aJ aK aL aM aC
namespace Sv
theorem lk_in: ∀k,k<6-> -9223372036854775808<=lkW k/\lkW k<=9223372036854775807:=by decide+kernel
theorem lv_chk:(Ss.chk ((1:Nat):Int) 6 6 6 12 (fun _=>0) lkW (fun _=>0) (fun _=>0) 0 513).2=0:=by decide+kernel
theorem lv_in:In64 6 (fun _=>0) lkW (fun _=>0) (fun _=>0) 0 513:=⟨fun _ _=>(by decide:0<18446744073709551616),lk_in,fun _ _=>(by decide: -9223372036854775808<=(0:Int)/\(0:Int)<=9223372036854775807),fun _ _=>(by decide:0<18446744073709551616),by decide,by decide⟩
def lvE:Nat->Nat:=enc 1 6 (fun _=>0) lkW (fun _=>0) (fun _=>0) 0 513
theorem lv_sum:smN (fun _=>97) 1=12638187200555641996:=by decide+kernel
theorem rL: ∀i,i<7->lvE i=[84,65,82,78,1,1,2].getD i 0:=by decide+kernel
theorem lv_mark{f:Nat->Nat}(hf: ∀i,i<7->f i=lvE i):((Ti.str f 7).toList==([84,65,82,78,1,1,2]:List UInt8))=true:=by
 rw[Ti.jI]
 have e:Ti.byl f 7=Ti.byl (fun i=>[84,65,82,78,1,1,2].getD i 0) 7:=(Ti.byl_eq (fun i hi=>by rw[hf i hi];exact lY (by decide)) (fun i hi=>by rw[<- rL i hi];exact lY (by decide))).2 ⟨rfl,fun i hi=>by rw[hf i hi,rL i hi]⟩
 rw[e]
 rfl
theorem jL(w:World)(hF:Fr w):Calls prog 5 #[] w fun e w'=>e=.returned (.bool true)/\Below w.heap.size w w':=by
 have NW:=hid (new_at 1 w (by omega) hF)
 clear hF
 go_enter func5,ntmps5
 go_wp2_with fail
 refine NW.out.mono ?_
 rintro e v1 ⟨gb,rfl,a1,-,g1⟩
 have A1:Hid (Ab w v1):=a1
 have G1:Hid (GridOf 1 gb v1):=g1
 clear a1 g1 NW
 go_wp2_with fail
 refine(sW v1 G1.out).mono ?_
 rintro e v2 ⟨b1,b2,b3,b4,rfl,k2,r1,r2,r3,r4,nb⟩
 obtain⟨X3,S3⟩:=aN v2 (.cells #[.slice (some ⟨b1,0,none⟩) 6 6,.slice (some ⟨b2,0,none⟩) 6 6,.slice (some ⟨b3,0,none⟩) 6 6,.slice (some ⟨b4,0,none⟩) 12 12,.int .i64 0,.int .i64 0] 25)
 have A2:Hid (Ab w v2):=A1.out.trans k2
 have NB:Hid (b1≠v2.heap.size/\b2≠v2.heap.size/\b3≠v2.heap.size/\b4≠v2.heap.size/\w.heap.size<=v2.heap.size):=⟨by have:=r1.lt;omega,by have:=r2.lt;omega,by have:=r3.lt;omega,by have:=r4.lt;omega,Below.size A2.out⟩
 have R1:=hid r1
 have R2:=hid r2
 have R3:=hid r3
 have R4:=hid r4
 clear k2 r1 r2 r3 r4 nb A1 G1
 go_upto_region 5 with fail
 generalize hW:World.alloc v2 _=v3 at*
 obtain⟨s,hs⟩:=aB v2.heap.size
 rw[hs]at S3 NB ⊢
 clear hW hs
 have x5:=aA 5 S3.out
 have f5:=aE S3.out 5
 have A4:Hid (Ab w (v3.setCell ⟨s,5,none⟩ (.int .i64 513))):=(A2.out.trans X3.out).setk NB.out.2.2.2.2 _
 have S4:Hid ((v3.setCell ⟨s,5,none⟩ (.int .i64 513)).heap[s]? =some (.cells #[.slice (some ⟨b1,0,none⟩) 6 6,.slice (some ⟨b2,0,none⟩) 6 6,.slice (some ⟨b3,0,none⟩) 6 6,.slice (some ⟨b4,0,none⟩) 12 12,.int .i64 0,.int .i64 513] 25)):=aH S3.out
 have P1:Hid ((v3.setCell ⟨s,5,none⟩ (.int .i64 513)).rowIs b1 47 6 (fun _=>.float .f64 0)):=(Sh.dQ R1.out X3.out).setOther NB.out.1 _
 have P2:Hid ((v3.setCell ⟨s,5,none⟩ (.int .i64 513)).rowIs b2 2 6 (fun i=>.int .i64 (lkW i))):=(Sh.dQ R2.out X3.out).setOther NB.out.2.1 _
 have P3:Hid ((v3.setCell ⟨s,5,none⟩ (.int .i64 513)).rowIs b3 2 6 (fun _=>.int .i64 0)):=(Sh.dQ R3.out X3.out).setOther NB.out.2.2.1 _
 have P4:Hid ((v3.setCell ⟨s,5,none⟩ (.int .i64 513)).rowIs b4 47 12 (fun _=>.float .f64 0)):=(Sh.dQ R4.out X3.out).setOther NB.out.2.2.2.1 _
 go_upto_region 6 with fail
 generalize hW:v3.setCell ⟨s,5,none⟩ (.int .i64 513)=v4 at*
 clear hW x5 f5 S3 X3 A2 R1 R2 R3 R4
 have I1:=hid (rowIs.fl P1.out (fun _ _=>by decide))
 have I2:=hid (Sh.gG P2.out lk_in)
 have I3:=hid (Sh.gG P3.out (fun _ _=>by decide))
 have I4:=hid (rowIs.fl P4.out (fun _ _=>by decide))
 obtain⟨y0,y1,y2,y3,y4,y5⟩:=aD S4.out
 have CE:=hid (rK ((1:Nat):Int) (some ⟨b1,0,none⟩) 6 6 (fun _=>0) (some ⟨b2,0,none⟩) 6 6 lkW (some ⟨b3,0,none⟩) 6 6 (fun _=>0) (some ⟨b4,0,none⟩) 12 12 (fun _=>0) 0 513 v4 I1.out I2.out I3.out I4.out 1 6 12 269 rfl lv_chk (by decide) rfl rfl rfl ⟨rfl,rfl,rfl,rfl⟩)
 go_wp2_with fail
 refine CE.out.mono ?_
 rintro e9 v5 ⟨g,cp,rfl,a5,o5⟩
 obtain⟨XL,hXL⟩:=aB ((List.range 269).map (enc 1 6 (fun _=>0) lkW (fun _=>0) (fun _=>0) 0 513))
 rw[hXL]at o5
 have XP:Hid (XL.length=269/\(∀x ∈ XL,x<256)/\ ∀i,i<269->XL.getD i 0=lvE i):=by
  subst hXL
  refine⟨by simp,fun x hx=> ?_,fun i hi=>fS _ _ _ hi⟩
  obtain⟨i,_,rfl⟩:=List.mem_map.1 hx
  exact lY (by decide)
 have W5:=hid (own_w o5 XP.out.1 XP.out.2.1)
 have CPB:Hid (269<=cp/\cp<=9223372036854775807):=by
  obtain⟨a0,cap,e,i,h1,h2⟩:=o5.at XP.out.2.1
  injection e with e1 e2 e3
  subst e3
  exact⟨by have:=XP.out.1;omega,h2⟩
 have A5:Hid (Ab w v5):=A4.out.trans a5
 have S5:=hid (Ab.heap a5 S4.out)
 have J1:=hid (I1.out.below a5)
 have J2:=hid (I2.out.below a5)
 have J3:=hid (I3.out.below a5)
 have J4:=hid (I4.out.below a5)
 clear a5 o5 hXL CE I1 I2 I3 I4 P1 P2 P3 P4 S4 A4 y0 y1 y2 y3 y4 y5
 obtain⟨F,hF⟩:=aB ((fun j=>XL.getD j 0))
 have FE:Hid (∀i,i<269->F i=lvE i):=fun i hi=>by rw[<- hF];exact XP.out.2.2 i hi
 rw[hF]at W5
 clear hF XP
 have MK:=lv_mark (fun i hi=>FE.out i (by omega))
 have CV: ∀c:Nat,(convert 27 9 (.slice (some ⟨g,0,none⟩) 7 c)).run prog v5=.ok (.string (Ti.str F 7)) v5:=fun c=>Ti.fL underlying27 underlying5 underlying9 (by
  have q:=W5.out.part 0 7 (by decide)
  simpa using q) (fun e=>by cases e)
 have c7:7<=cp:=by have:=CPB.out;omega
 have D:=rD lv_in FE.out
 have CD:=hid (dec_yes (some ⟨g,0,none⟩) 269 cp 1 6 12 F v5 CPB.out W5.out (by rw[derr_enc (n:=1) (N:=6) (by decide) rfl lv_in FE.out];exact lv_chk) (by rw[FE.out 4 (by decide)];rfl) rfl rfl)
 have DD:=hid D
 clear D
 go_upto_region 9 with fail
 clear MK CV c7
 go_wp2_with fail
 refine CD.out.mono ?_
 rintro e9 v6 ⟨t0,t1,t2,t3,rfl,a6,l6,dj,r0,r1,r2,r3⟩
 rw[DD.out.1,DD.out.2.1]
 have A6:Hid (Ab w v6):=A5.out.trans a6
 obtain⟨X7,S7⟩:=aN v6 (.cells #[.slice (some ⟨t0,0,none⟩) 6 6,.slice (some ⟨t1,0,none⟩) 6 6,.slice (some ⟨t2,0,none⟩) 6 6,.slice (some ⟨t3,0,none⟩) 12 12,.int .i64 0,.int .i64 513] 25)
 have Z7:Hid ((v6.alloc (.cells #[.slice (some ⟨t0,0,none⟩) 6 6,.slice (some ⟨t1,0,none⟩) 6 6,.slice (some ⟨t2,0,none⟩) 6 6,.slice (some ⟨t3,0,none⟩) 12 12,.int .i64 0,.int .i64 513] 25)).heap[s]? =some (.cells #[.slice (some ⟨b1,0,none⟩) 6 6,.slice (some ⟨b2,0,none⟩) 6 6,.slice (some ⟨b3,0,none⟩) 6 6,.slice (some ⟨b4,0,none⟩) 12 12,.int .i64 0,.int .i64 513] 25)):=Ab.heap X7.out (Ab.heap a6 S5.out)
 have J5:=hid ((J1.out.below a6).below X7.out)
 have J6:=hid ((J2.out.below a6).below X7.out)
 have J7:=hid ((J3.out.below a6).below X7.out)
 have J8:=hid ((J4.out.below a6).below X7.out)
 have K1:=hid ((rowIs.fl (r0.congr (fun i hi=>congrArg (Value.float .f64) (DD.out.2.2.1 i hi))) (fun _ _=>by decide)).below X7.out)
 have K2:=hid ((Sh.gG (r1.congr (fun i hi=>congrArg (Value.int .i64) (DD.out.2.2.2.1 i hi))) lk_in).below X7.out)
 have K3:=hid ((Sh.gG (r2.congr (fun i hi=>congrArg (Value.int .i64) (DD.out.2.2.2.2.1 i hi))) (fun _ _=>by decide)).below X7.out)
 have K4:=hid ((rowIs.fl (r3.congr (fun i hi=>congrArg (Value.float .f64) (DD.out.2.2.2.2.2.1 i hi))) (fun _ _=>by decide)).below X7.out)
 clear a6 l6 dj r0 r1 r2 r3 CD A5 S5 J1 J2 J3 J4 W5
 go_upto_region 10 with fail
 generalize hW:World.alloc v6 _=v7 at*
 obtain⟨t,ht⟩:=aB v6.heap.size
 rw[ht]at S7 ⊢
 clear hW ht
 have A7:Hid (Ab w v7):=A6.out.trans X7.out
 have y0:=aA 0 Z7.out
 have z0:=aA 0 S7.out
 have y1:=aA 1 Z7.out
 have z1:=aA 1 S7.out
 have y2:=aA 2 Z7.out
 have z2:=aA 2 S7.out
 have y3:=aA 3 Z7.out
 have z3:=aA 3 S7.out
 have y4:=aA 4 Z7.out
 have z4:=aA 4 S7.out
 have y5:=aA 5 Z7.out
 have z5:=aA 5 S7.out
 have CS:=hid (sX (some ⟨t0,0,none⟩) 6 6 (fun _=>0) (some ⟨t1,0,none⟩) 6 6 lkW (some ⟨t2,0,none⟩) 6 6 (fun _=>0) (some ⟨t3,0,none⟩) 12 12 (fun _=>0) 0 513 (some ⟨b1,0,none⟩) 6 (some ⟨b2,0,none⟩) 6 (some ⟨b3,0,none⟩) 6 (some ⟨b4,0,none⟩) 12 v7 (by omega) K1.out K2.out K3.out K4.out J5.out J6.out J7.out J8.out)
 clear K1 K2 K3 K4 J5 J6 J7 J8 A6 X7
 have CM:=hid (fun v (b:Nat) (c:Nat) (fr:Nat × Nat) (h:v.heap[b]? =some (.cells #[.int .u8 97] 5 fr))=>pW (some ⟨b,0,none⟩) 1 c (fun _=>97) v (by omega) (fun k hk=>⟨(by decide:97<256),b,0,rfl,lt_of_block h,by
  have e:k=0:=by omega
  subst e
  exact aA 0 h⟩))
 rw[lv_sum]at CM
 have KC:=fun(w:World) (C:Array Value) (n c:Nat)=>Go.Lib.run_convert_bytes_const (P:=prog) w 27 5 C n c underlying27 underlying5
 go_wp2_with (first
  | (go_at_call 10;refine CS.out.mono ?_;rintro e9 v8 ⟨rfl,b8⟩)
  | (go_at_call 11;refine(CM.out _ _ _ _ (heap_alloc_new _ _)).mono ?_;rintro e9 v9 ⟨rfl,hz⟩;have hz2:=hz.symm;subst hz2))
 go_ret
 exact⟨rfl,A7.out.trans (Ab.trans b8 (bl1 _ _))⟩
end Sv
end
section
open Go.RowKit Go.Deep
namespace Sv
theorem rM{M g L cp:Nat}{F:Nat->Nat}{v:World}(h:T8.Own M (.slice (some ⟨g,0,none⟩) L cp) ((List.range L).map F) v)(hF: ∀i,i<L->F i<256):Ti.IsW .u8 256 v (some ⟨g,0,none⟩) L F/\L<=cp/\cp<=9223372036854775807:=by
 have hl: ∀x ∈ (List.range L).map F,x<256:=fun x hx=>by
  obtain⟨i,hi,rfl⟩:=List.mem_map.1 hx
  exact hF i (List.mem_range.1 hi)
 refine⟨(own_w h (by simp) hl).congr fun i hi=>fS F L i hi,?_⟩
 obtain⟨a0,cap,e,i,h1,h2⟩:=h.at hl
 injection e with e1 e2 e3
 subst e3
 exact⟨by simpa using h1,h2⟩
end Sv
end
section
open Go.ChangeShapes Go.WideShapes Go.ChangeAt Go.WideMaps Go.WideElems Go.RowKit Cu
theorem own:ownKnob Tryz.prog.godebug=none:=by kernel_rfl
theorem gFrames:Tryz.prog.globalNamed "tarn/cube.frames" =some 1:=by kernel_rfl
theorem tFrames:(Tryz.prog.globals[1]?).map (·.type)=some 117:=by kernel_rfl
theorem door_met(os:Os)(args:Array Value):laidMetH prog [("tarn/cube.frames",Rows.laid_tarn_cube_frames)] ((World.doorLaid prog 400 os).forCall (fun _ _=>0) ⟨#[],args,[]⟩).memory:=
 laidMetH_of_parts3 (fuel:=8) (laidMet_of_run' 8 (by kernel_rfl) (by kernel_rfl)) (by kernel_rfl) (by kernel_rfl)
theorem mF{H:Type}{enc:TypeId × Value->H}{w:World}{base fuel:Nat}{spare:Nat->Bool}{held:Bool}{cs:List Value}{x:DataW H × List MemPlace}(h:DataW.trod enc prog w base spare held fuel 109 cs=some x)
  (a b c:Int) (e:x.1=.agg [.lit (.int .i64 a),.lit (.int .i64 b),.lit (.int .i64 c)]):cs=[.int .i64 a,.int .i64 b,.int .i64 c]:=by
 have k3:Tryz.prog.cellsOf 3=1:=by kernel_rfl
 have kp:Tryz.prog.cellsOf 109=3:=by kernel_rfl
 obtain⟨xs,m,_,hx,hlen,hn,hel⟩:=DataW.trod_array underlying109 h
 rw[hx]at e
 match xs,hn,cs,hlen.trans kp with
 | [x0,x1,x2],_,[c0,c1,c2],_=>
  have h0:=hel 0 (by decide)
  have h1:=hel 1 (by decide)
  have h2:=hel 2 (by decide)
  simp[k3]at h0 h1 h2
  obtain⟨n0,e0,f0,_⟩:=DataW.trod_int underlying3 h0
  obtain⟨n1,e1,f1,_⟩:=DataW.trod_int underlying3 h1
  obtain⟨n2,e2,f2,_⟩:=DataW.trod_int underlying3 h2
  simp at e0 e1 e2
  simp[f0,f1,f2]at e
  rw[e0,e1,e2,e.1,e.2.1,e.2.2]
theorem bN{H:Type}{enc:TypeId × Value->H}{w:World}{base fuel:Nat}{spare:Nat->Bool}{held:Bool}{cs:List Value}{x:DataW H × List MemPlace}(h:DataW.trod enc prog w base spare held fuel 116 cs=some x)
  (p q r:P3) (e:x.1=.agg [.agg [.lit (.int .i64 p.1),.lit (.int .i64 p.2.1),.lit (.int .i64 p.2.2)],.agg [.lit (.int .i64 q.1),.lit (.int .i64 q.2.1),.lit (.int .i64 q.2.2)],.agg [.lit (.int .i64 r.1),.lit (.int .i64 r.2.1),.lit (.int .i64 r.2.2)]]):
  cs=[.int .i64 p.1,.int .i64 p.2.1,.int .i64 p.2.2,.int .i64 q.1,.int .i64 q.2.1,.int .i64 q.2.2,.int .i64 r.1,.int .i64 r.2.1,.int .i64 r.2.2]:=by
 have kp:Tryz.prog.cellsOf 109=3:=by kernel_rfl
 have kf:Tryz.prog.cellsOf 116=9:=by kernel_rfl
 obtain⟨xs,m,_,hx,hlen,hn,hel⟩:=DataW.trod_struct underlying116 h
 rw[hx]at e
 match xs,hn,cs,hlen.trans kf with
 | [x0,x1,x2],_,[c0,c1,c2,c3,c4,c5,c6,c7,c8],_=>
  have h0:=hel 0 _ rfl
  have h1:=hel 1 _ rfl
  have h2:=hel 2 _ rfl
  simp[kp]at h0 h1 h2
  simp at e
  have e0:=mF h0 _ _ _ e.1
  have e1:=mF h1 _ _ _ e.2.1
  have e2:=mF h2 _ _ _ e.2.2
  simp at e0 e1 e2
  simp[e0,e1,e2]
theorem qD{H:Type}{enc:TypeId × Value->H}{w:World}{base fuel:Nat}{spare:Nat->Bool}{held:Bool}{cs:List Value}{x:DataW H × List MemPlace}(h:DataW.trod enc prog w base spare held fuel 117 cs=some x)
  (e:x.1=Rows.laid_tarn_cube_frames): ∀f,f<6->(cs.drop (f*9)).take 9=[.int .i64 (cC f).1,.int .i64 (cC f).2.1,.int .i64 (cC f).2.2,.int .i64 (cR f).1,.int .i64 (cR f).2.1,.int .i64 (cR f).2.2,.int .i64 (cU f).1,.int .i64 (cU f).2.1,.int .i64 (cU f).2.2]:=by
 have kf:Tryz.prog.cellsOf 116=9:=by kernel_rfl
 obtain⟨xs,m,_,hx,hlen,hn,hel⟩:=DataW.trod_array underlying117 h
 rw[hx]at e
 intro f hf
 have h0:=hel f hf
 rw[kf]at h0
 match xs,hn with
 | [x0,x1,x2,x3,x4,x5],_=>
  simp only[List.map_cons,List.map_nil,Rows.laid_tarn_cube_frames,DataW.agg.injEq,List.cons.injEq]at e
  rcases six hf with rfl | rfl | rfl | rfl | rfl | rfl
  ·exact bN h0 (cC 0) (cR 0) (cU 0) e.1
  ·exact bN h0 (cC 1) (cR 1) (cU 1) e.2.1
  ·exact bN h0 (cC 2) (cR 2) (cU 2) e.2.2.1
  ·exact bN h0 (cC 3) (cR 3) (cU 3) e.2.2.2.1
  ·exact bN h0 (cC 4) (cR 4) (cU 4) e.2.2.2.2.1
  ·exact bN h0 (cC 5) (cR 5) (cU 5) e.2.2.2.2.2.1
theorem of_laid{W:World}(h:laidMetH prog [("tarn/cube.frames",Rows.laid_tarn_cube_frames)] W):Fr W:=by
 rw[MakeChecks.laidMetH_plain _ _ _ (by kernel_rfl)]at h
 obtain⟨ps,⟨g0,t0,cs0,f0,p0,q0,hg0,ht0,hv0,hd0,_⟩,_⟩:=h
 obtain rfl:=Option.some.inj (gFrames.symm.trans hg0)
 obtain rfl:=Option.some.inj (tFrames.symm.trans ht0)
 have T:=qD hd0 rfl
 have C:=World.var?_cell hg0 hv0
 have K: ∀f,f<6-> ∀k,k<9->W.cell? ⟨1,f*9+k,none⟩=((cs0.toList.drop (f*9)).take 9)[k]? :=by
  intro f hf k hk
  rw[C,List.getElem?_take,if_pos hk,List.getElem?_drop]
  simp
 have N: ∀f,f<6->Fr9 W f:=by
  intro f hf
  have K:=K f hf
  rw[T f hf]at K
  exact⟨⟨K 0 (by omega),K 1 (by omega),K 2 (by omega)⟩,⟨K 3 (by omega),K 4 (by omega),K 5 (by omega)⟩,⟨K 6 (by omega),K 7 (by omega),K 8 (by omega)⟩⟩
 refine⟨?_,N⟩
 have c0:=(N 0 (by omega)).1.1
 rcases Nat.lt_or_ge 1 W.heap.size with h1 | h1
 ·exact h1
 ·rw[World.cell?,Array.getElem?_eq_none h1]at c0;cases c0
end
section
open Go.RowKit Go.Deep
namespace Sh
def W64(x:Int):Prop:= -9223372036854775808<=x/\x<=9223372036854775807
end Sh
end
section
open Go.RowKit Tf Cu Go.Deep
attribute [local go_sem] aF aG aI aJ aK aL aM aC
namespace Ss
theorem kR(x:Nat)(w:World):
  Calls prog 53 #[.float .f64 x] w fun e w'=>e=.returned (.int .u64 ((x:Nat):Int))/\w'=w:=by
 go_enter func53,ntmps53
 go_wp2
 go_ret
 exact⟨rfl,rfl⟩
theorem rbtw20(x lo hi:Nat)(w:World):Calls prog 71 #[.float .f64 x,.float .f64 lo,.float .f64 hi] w fun e w'=>e=.returned (.bool (btw x lo hi))/\w'=w:=by
 have RB:=hid (kR x w)
 have BT:Hid (btw x lo hi=((fgt x lo||feq x lo)&&(flt x hi||feq x hi)&&decide (x≠9223372036854775808))):=rfl
 cases h1:(fgt x lo||feq x lo)with
 | false=>
  have K:Hid (btw x lo hi=false):=BT.out.trans (by rw[h1];rfl)
  clear BT
  go_enter func71,ntmps71
  go_wp2
  go_ret
  exact⟨by rw[K.out];rfl,rfl⟩
 | true=>
  cases h2:(flt x hi||feq x hi)with
  | false=>
   have K:Hid (btw x lo hi=false):=BT.out.trans (by rw[h1,h2];rfl)
   clear BT
   go_enter func71,ntmps71
   go_wp2
   go_ret
   exact⟨by rw[K.out];rfl,rfl⟩
  | true=>
   by_cases h3:x=9223372036854775808
   ·have K:Hid (btw x lo hi=false):=BT.out.trans (by rw[h1,h2,decide_eq_false (fun q=>q h3)];rfl)
    have d3:((x:Int) != 9223372036854775808)=false:=by simp;omega
    clear BT h3
    go_enter func71,ntmps71
    go_wp2_with fail
    refine RB.out.mono ?_
    rintro e9 v9 ⟨rfl,hv9⟩
    have hv8:=hv9.symm
    subst hv8
    go_wp2
    go_ret
    exact⟨by rw[K.out];rfl,rfl⟩
   ·have K:Hid (btw x lo hi=true):=BT.out.trans (by rw[h1,h2,decide_eq_true h3];rfl)
    have d3:((x:Int) != 9223372036854775808)=true:=by simp;omega
    clear BT h3
    go_enter func71,ntmps71
    go_wp2_with fail
    refine RB.out.mono ?_
    rintro e9 v9 ⟨rfl,hv9⟩
    have hv8:=hv9.symm
    subst hv8
    go_wp2
    go_ret
    exact⟨by rw[K.out];rfl,rfl⟩
theorem kS(p:Option Addr)(N c:Nat)(f:Nat->Nat)(m nm:Nat)(q:Nat->Bool)(w:World)(hm:Op.negFloat .f64 m=nm)(hN:N<=131072)(hf:IsFl w p N f)(hq: ∀i,i<N->q i= !btw (f i) nm m):
  Calls prog 51 #[.slice p N c,.float .f64 m] w fun e w'=>e=.returned (.int .i64 (fp q N))/\w'=w:=by
 have HF:=hid hf
 have HN:=hid hN
 have HQ:=hid hq
 clear hf hN hq
 go_enter func51,ntmps51
 go_wp2
 go_loopw [5] (fun iv wr=> ∃k:Nat,k<=N/\iv=.int .i64 (k:Nat)/\(∀i,i<k->q i=false)/\wr=w) (fun iv _=>N - (intOf iv).toNat)
 case atStart=>exact⟨0,by omega,rfl,fun i hi=>absurd hi (Nat.not_lt_zero i),rfl⟩
 case round=>
  obtain⟨k,hk,rfl,g1,hwr⟩:=hrel
  have hwr2:=hwr.symm
  subst hwr2
  have G1:=hid g1
  clear g1
  by_cases hkn:k<N
  ·have HK:=hid hkn
   have kI:(k:Int)<N:=by omega
   have kB:(k:Int)<=131072:=by have:=HN.out;omega
   obtain⟨b0,o0,rfl⟩:=HF.out.some0 (show 0<N by omega)
   obtain⟨x,hx⟩:=aB (f k)
   have xc:=(HF.out.at0 hkn).2.2
   rw[hx]at xc
   have CB:=hid (rbtw20 x nm m w)
   have qk:=HQ.out k hkn
   rw[hx]at qk
   clear hx hkn hk
   cases hb:btw x nm m with
   | false=>
    rw[hb]at CB
    have QK:Hid (q k=true):=qk.trans (by rw[hb];rfl)
    have E:Hid (fp q N=(k:Nat)):=eI G1.out QK.out HK.out
    clear qk hb
    go_wp2_with fail
    refine CB.out.mono ?_
    rintro e9 v9 ⟨rfl,hv9⟩
    have hv8:=hv9.symm
    subst hv8
    go_wp2
    go_ret
    exact⟨by rw[E.out];rfl,by first | trivial | rfl⟩
   | true=>
    rw[hb]at CB
    have QK:Hid (q k=false):=qk.trans (by rw[hb];rfl)
    clear qk hb
    go_wp2_with fail
    refine CB.out.mono ?_
    rintro e9 v9 ⟨rfl,hv9⟩
    have hv8:=hv9.symm
    subst hv8
    go_wp2
    refine⟨⟨k+1,by have:=HK.out;omega,by simp,fun i hi=> ?_,by first | trivial | rfl⟩,by have:=HK.out;simp[intOf];omega⟩
    by_cases l:i<k
    ·exact G1.out i l
    ·obtain rfl:i=k:=by omega
     exact QK.out
  ·have e6:N=k:=by omega
   subst e6
   have E:Hid (fp q N= -1):=cA G1.out
   go_wp2
   go_ret
   exact⟨by rw[E.out];rfl,by first | trivial | rfl⟩
theorem kT(p:Option Addr)(N c:Nat)(f:Nat->Int)(th:Int)(w:World)(hN:N<=131072)(hf:Sh.IsI w p N f)(ht:0<=th/\th<=4503599627370496):
  Calls prog 52 #[.slice p N c,.int .i64 th] w fun e w'=>e=.returned (.int .i64 (fp (bQ f th) N))/\w'=w:=by
 have HF:=hid hf
 have HN:=hid hN
 have HT:=hid ht
 clear hf hN ht
 go_enter func52,ntmps52
 go_wp2
 go_loopw [1,5] (fun sv iv wr=> ∃k:Nat,k<=N/\iv=.int .i64 (k:Nat)/\sv=.int .i64 (th+Sh.sumN f k)/\(0<=th+Sh.sumN f k/\th+Sh.sumN f k<=4503599627370496)/\(∀i,i<k->bQ f th i=false)/\wr=w) (fun _ iv _=>N - (intOf iv).toNat)
 case atStart=>exact⟨0,by omega,rfl,by show _=Value.int .i64 (th+0);rw[Int.add_zero],by show 0<=th+0/\th+0<=_;have:=HT.out;omega,fun i hi=>absurd hi (Nat.not_lt_zero i),rfl⟩
 case round=>
  obtain⟨k,hk,rfl,rfl,hb,g1,hwr⟩:=hrel
  have hwr2:=hwr.symm
  subst hwr2
  have G1:=hid g1
  clear g1
  have s1:=hb.1
  have s2:=hb.2
  obtain⟨s,hs⟩:=aB (th+Sh.sumN f k)
  rw[hs]at s1 s2 ⊢
  clear hb
  by_cases hkn:k<N
  ·have HK:=hid hkn
   have kI:(k:Int)<N:=by omega
   have kB:(k:Int)<=131072:=by have:=HN.out;omega
   obtain⟨b0,o0,rfl⟩:=HF.out.some0 (show 0<N by omega)
   obtain⟨x,hx⟩:=aB (f k)
   have xc:=(HF.out.at0 hkn).2.2
   rw[hx]at xc
   have QE:Hid (bQ f th k=(decide (x<0)||decide (4503599627370496 - s<x))):=by show bQ f th k=_;unfold bQ;rw[hs,hx]
   have M3:Hid (th+Sh.sumN f (k+1)=s+x):=by show th+(Sh.sumN f k+f k)=_;rw[<- hs,hx];omega
   clear hx hs hkn hk
   by_cases q1:x<0
   ·have d1:decide (x<0)=true:=decide_eq_true q1
    have E:Hid (fp (bQ f th) N=(k:Nat)):=eI G1.out (QE.out.trans (by rw[d1];rfl)) HK.out
    go_wp2
    go_ret
    exact⟨by rw[E.out];rfl,by first | trivial | rfl⟩
   ·have d1:decide (x<0)=false:=decide_eq_false q1
    by_cases q2:4503599627370496 - s<x
    ·have d2:decide (4503599627370496 - s<x)=true:=decide_eq_true q2
     have E:Hid (fp (bQ f th) N=(k:Nat)):=eI G1.out (QE.out.trans (by rw[d1,d2];rfl)) HK.out
     go_wp2
     go_ret
     exact⟨by rw[E.out];rfl,by first | trivial | rfl⟩
    ·have d2:decide (4503599627370496 - s<x)=false:=decide_eq_false q2
     have QF:Hid (bQ f th k=false):=QE.out.trans (by rw[d1,d2];rfl)
     have n1:0<=s+x:=by omega
     have n2:s+x<=4503599627370496:=by omega
     clear q1 q2
     go_wp2
     refine⟨⟨k+1,by have:=HK.out;omega,by simp,by rw[M3.out],by rw[M3.out];exact⟨n1,n2⟩,fun i hi=> ?_,by first | trivial | rfl⟩,by have:=HK.out;simp[intOf];omega⟩
     by_cases l:i<k
     ·exact G1.out i l
     ·obtain rfl:i=k:=by omega
      exact QF.out
  ·have e6:N=k:=by omega
   subst e6
   have E:Hid (fp (bQ f th) N= -1):=cA G1.out
   go_wp2
   go_ret
   exact⟨by rw[E.out];rfl,by first | trivial | rfl⟩
end Ss
end
section
open Go.RowKit Tf Cu Go.Deep
attribute [local go_sem] aF aG aI aJ aK aL aM aC
namespace Ss
def szN(N lb lw lt ls:Nat)(k:Nat):Int:=if k=0 then(lb:Int)else if k=1 then(lw:Int)else if k=2 then(lt:Int)else(ls:Int) - N
theorem chN_size{N lb lw lt ls:Nat}{B:Nat->Nat}{W T:Nat->Int}{S:Nat->Nat}{sky st:Int}{k:Nat}(hk:k<4)(h: ∀i,i<k->szN N lb lw lt ls i=N)(hne:szN N lb lw lt ls k≠N):chN N lb lw lt ls B W T S sky st=(((k:Nat):Int),12):=by
 unfold chN
 have h0:=h 0
 have h1:=h 1
 have h2:=h 2
 unfold szN at h0 h1 h2 hne
 simp only[if_true,if_neg (show¬(1:Nat)=0 by omega),if_neg (show¬(2:Nat)=0 by omega),if_neg (show¬(2:Nat)=1 by omega)]at h0 h1 h2
 match k,hk with
 | 0,_=>
  rw[if_pos rfl]at hne
  rw[if_pos (by omega)]
  rfl
 | 1,_=>
  rw[if_neg (by omega),if_pos rfl]at hne
  have:=h0 (by omega)
  rw[if_neg (by omega),if_pos (by omega)]
  rfl
 | 2,_=>
  rw[if_neg (by omega),if_neg (by omega),if_pos rfl]at hne
  have:=h0 (by omega)
  have:=h1 (by omega)
  rw[if_neg (by omega),if_neg (by omega),if_pos (by omega)]
  rfl
 | 3,_=>
  rw[if_neg (by omega),if_neg (by omega),if_neg (by omega)]at hne
  have:=h0 (by omega)
  have:=h1 (by omega)
  have:=h2 (by omega)
  rw[if_neg (by omega),if_neg (by omega),if_neg (by omega),if_pos (by omega)]
  rfl
theorem szN_all{N lb lw lt ls:Nat}(h: ∀i,i<4->szN N lb lw lt ls i=N):lb=N/\lw=N/\lt=N/\ls=2*N:=by
 have h0:=h 0 (by omega)
 have h1:=h 1 (by omega)
 have h2:=h 2 (by omega)
 have h3:=h 3 (by omega)
 unfold szN at h0 h1 h2 h3
 simp only[if_true,if_neg (show¬(1:Nat)=0 by omega),if_neg (show¬(2:Nat)=0 by omega),if_neg (show¬(2:Nat)=1 by omega),if_neg (show¬(3:Nat)=0 by omega),if_neg (show¬(3:Nat)=1 by omega),if_neg (show¬(3:Nat)=2 by omega)]at h0 h1 h2 h3
 omega
def chM(N:Nat)(B:Nat->Nat)(W T:Nat->Int)(S:Nat->Nat)(sky st:Int):Int × Int:=
 if 0<=fp (bB B) N then(fp (bB B) N,13)
 else if sky<0\/4503599627370496<sky then(0,17)
 else if 0<=fp (bQ W sky) N then(fp (bQ W sky) N,14)
 else if 0<=fp (bQ T 0) N then(fp (bQ T 0) N,15)
 else if 0<=fp (bS S) (2*N)then(fp (bS S) (2*N),16)
 else if st<0\/4611686018427387904<st then(0,1)else(0,0)
theorem chN_M{N lb lw lt ls:Nat}{B:Nat->Nat}{W T:Nat->Int}{S:Nat->Nat}{sky st:Int}(h:lb=N/\lw=N/\lt=N/\ls=2*N):chN N lb lw lt ls B W T S sky st=chM N B W T S sky st:=by
 unfold chN chM
 rw[if_neg (by omega),if_neg (by omega),if_neg (by omega),if_neg (by omega)]
theorem tH(n N:Nat)(pb:Option Addr)(lb cb:Nat)(B:Nat->Nat)(pw:Option Addr)(lw cw:Nat)(W:Nat->Int)(pt:Option Addr)(lt ct:Nat)(T:Nat->Int)(ps:Option Addr)(ls cs:Nat)(S:Nat->Nat)(sky st:Int)(w:World)(hn:1<=n/\n<=32)(hN:6*(n:Int)*(n:Int)=(N:Nat))(HL:Hid (lb<=281474976710656/\lw<=281474976710656/\lt<=281474976710656/\ls<=281474976710656))(i1:IsFl w pb lb B)(i2:Sh.IsI w pw lw W)(i3:Sh.IsI w pt lt T)(i4:IsFl w ps ls S):
  Calls prog 22 #[.int .i64 (n:Nat),.agg #[.slice pb lb cb,.slice pw lw cw,.slice pt lt ct,.slice ps ls cs,.int .i64 sky,.int .i64 st]] w fun e w'=>e=.returned (.tuple #[.int .i64 (chN N lb lw lt ls B W T S sky st).1,.int .i64 (chN N lb lw lt ls B W T S sky st).2])/\Below w.heap.size w w':=by
 have I1:=hid i1
 have I2:=hid i2
 have I3:=hid i3
 have I4:=hid i4
 clear i1 i2 i3 i4
 have d1:decide ((n:Int)<1)=false:=decide_eq_false (by omega)
 have d2:decide (32<(n:Int))=false:=decide_eq_false (by omega)
 have nI:(n:Int)<=32:=by omega
 have NB:(N:Int)<=6144:=by
  have h1:n*n<=32*32:=Nat.mul_le_mul hn.2 hn.2
  have h2:((n*n:Nat):Int)<=((32*32:Nat):Int):=by exact_mod_cast h1
  rw[Int.natCast_mul]at h2
  rw[<- hN,Int.mul_assoc]
  omega
 have m1: -9223372036854775808<=6*(n:Int)*(n:Int):=by rw[hN];omega
 have m2:6*(n:Int)*(n:Int)<=9223372036854775807:=by rw[hN];omega
 have l1:(ls:Int)<=281474976710656:=by have:=HL.out;omega
 have HB:=hid NB
 obtain⟨A0,R0⟩:=aN w (.cells #[.slice pb lb cb,.slice pw lw cw,.slice pt lt ct,.slice ps ls cs,.int .i64 sky,.int .i64 st] 25)
 clear hn
 go_enter func22,ntmps22
 go_upto_region 1 with fail
 generalize hW:World.alloc w _=V0 at*
 obtain⟨gw,hgw⟩:=aB w.heap.size
 rw[hgw]at R0 ⊢
 clear hgw hW
 have x0:=aD R0.out
 go_upto_region 5 with fail
 obtain⟨AL,RL⟩:=aN V0 (.cells #[.int .i64 (lb:Nat),.int .i64 (lw:Nat),.int .i64 (lt:Nat),.int .i64 ((ls:Int) - (N:Int))] 3)
 generalize hW:World.alloc V0 _=V1 at*
 obtain⟨gl,hgl⟩:=aB V0.heap.size
 rw[hgl]at RL ⊢
 clear hgl hW x0
 have A1:Hid (Ab w V1):=A0.out.trans AL.out
 have R1:=hid (AL.out.heap R0.out)
 have LC:Hid (∀k,k<4->V1.cell? ⟨gl,k,none⟩=some (.int .i64 (szN N lb lw lt ls k))):=fun k hk=>by
  match k,hk with
  | 0,_=>exact aA 0 RL.out
  | 1,_=>exact aA 1 RL.out
  | 2,_=>exact aA 2 RL.out
  | 3,_=>exact aA 3 RL.out
 clear AL RL A0 R0
 go_wp2
 go_loopw [8] (fun iv wr=> ∃k:Nat,k<=4/\iv=.int .i64 (k:Nat)/\(∀i,i<k->szN N lb lw lt ls i=N)/\wr=V1) (fun iv _=>4 - (intOf iv).toNat)
 case atStart=>exact⟨0,by omega,rfl,fun i hi=>absurd hi (Nat.not_lt_zero i),rfl⟩
 case round=>
  obtain⟨k,hk,rfl,g1,hwr⟩:=hrel
  have hwr2:=hwr.symm
  subst hwr2
  have G1:=hid g1
  clear g1
  by_cases hk4:k<4
  ·have HK:=hid hk4
   have kI:(k:Int)<4:=by omega
   have cc:=LC.out k hk4
   obtain⟨x,hx⟩:=aB (szN N lb lw lt ls k)
   rw[hx]at cc
   by_cases q:x=(N:Int)
   ·have e1:(x != (N:Int))=false:=by simp[q]
    have XE:Hid (szN N lb lw lt ls k=N):=hx.trans q
    clear q hx hk4 hk
    go_wp2
    refine⟨⟨k+1,by have:=HK.out;omega,by simp,fun i hi=> ?_,by first | trivial | rfl⟩,by have:=HK.out;simp[intOf];omega⟩
    by_cases l:i<k
    ·exact G1.out i l
    ·obtain rfl:i=k:=by omega
     exact XE.out
   ·have e1:(x != (N:Int))=true:=by simp[q]
    have E:Hid (chN N lb lw lt ls B W T S sky st=(((k:Nat):Int),12)):=chN_size hk4 G1.out (by rw[hx];exact q)
    clear q hx hk4 hk
    go_wp2
    go_ret2
    exact⟨by rw[E.out];rfl,A1.out⟩
  ·have k4:k=4:=by omega
   subst k4
   have SZ:=hid (szN_all G1.out)
   have HS:Hid (lb<=131072/\lw<=131072/\lt<=131072/\ls<=131072):=by have h1:=SZ.out;have h2:=HB.out;show _/\_;omega
   have E:=hid (chN_M (B:=B) (W:=W) (T:=T) (S:=S) (sky:=sky) (st:=st) SZ.out)
   have EM:Hid (chM N B W T S sky st=if 0<=fp (bB B) N then(fp (bB B) N,13)else if sky<0\/4503599627370496<sky then(0,17)else if 0<=fp (bQ W sky) N then(fp (bQ W sky) N,14)else if 0<=fp (bQ T 0) N then(fp (bQ T 0) N,15)else if 0<=fp (bS S) (2*N)then(fp (bS S) (2*N),16)else if st<0\/4611686018427387904<st then(0,1)else(0,0)):=rfl
   have F1:Hid (∀v,Ab w v->Calls prog 51 #[.slice pb lb cb,.float .f64 4697254411347427328] v fun e w'=>e=.returned (.int .i64 (fp (bB B) N))/\w'=v):=fun v a=>by rw[<- SZ.out.1];exact kS pb lb cb B _ 13920626448202203136 (bB B) v (by decide+kernel) HS.out.1 (I1.out.below a) (fun i _=>rfl)
   have F2:Hid (∀v,Ab w v->0<=sky->sky<=4503599627370496->Calls prog 52 #[.slice pw lw cw,.int .i64 sky] v fun e w'=>e=.returned (.int .i64 (fp (bQ W sky) N))/\w'=v):=fun v a h1 h2=>by rw[<- SZ.out.2.1];exact kT pw lw cw W sky v HS.out.2.1 (I2.out.below a) ⟨h1,h2⟩
   have F3:Hid (∀v,Ab w v->Calls prog 52 #[.slice pt lt ct,.int .i64 0] v fun e w'=>e=.returned (.int .i64 (fp (bQ T 0) N))/\w'=v):=fun v a=>by rw[<- SZ.out.2.2.1];exact kT pt lt ct T 0 v HS.out.2.2.1 (I3.out.below a) ⟨by omega,by omega⟩
   have F4:Hid (∀v,Ab w v->Calls prog 51 #[.slice ps ls cs,.float .f64 4652218415073722368] v fun e w'=>e=.returned (.int .i64 (fp (bS S) (2*N)))/\w'=v):=fun v a=>by rw[<- SZ.out.2.2.2];exact kS ps ls cs S _ 13875590451928498176 (bS S) v (by decide+kernel) HS.out.2.2.2 (I4.out.below a) (fun i _=>rfl)
   obtain⟨f1,hf1⟩:=aB (fp (bB B) N)
   obtain⟨f2,hf2⟩:=aB (fp (bQ W sky) N)
   obtain⟨f3,hf3⟩:=aB (fp (bQ T 0) N)
   obtain⟨f4,hf4⟩:=aB (fp (bS S) (2*N))
   rw[hf1,hf2,hf3,hf4]at EM
   rw[hf1]at F1
   rw[hf2]at F2
   rw[hf3]at F3
   rw[hf4]at F4
   clear hf1 hf2 hf3 hf4 hk4 hk LC G1
   have x0:=aD R1.out
   go_wp2_with fail
   refine(F1.out V1 A1.out).mono ?_
   rintro e9 v9 ⟨rfl,hv9⟩
   have hv8:=hv9.symm
   subst hv8
   by_cases c1:0<=f1
   ·have e1:decide (0<=f1)=true:=decide_eq_true c1
    have C1:=hid c1
    clear c1
    go_wp2
    go_ret2
    exact⟨by rw[E.out,EM.out,if_pos (by have h:=C1.out;omega)];rfl,A1.out⟩
   ·have e1:decide (0<=f1)=false:=decide_eq_false c1
    have C1:=hid c1
    clear c1
    by_cases c2:sky<0\/4503599627370496<sky
    ·by_cases c2a:sky<0
     ·have e2:decide (sky<0)=true:=decide_eq_true c2a
      have C2:=hid c2
      clear c2
      go_wp2
      go_ret2
      exact⟨by rw[E.out,EM.out,if_neg (by have h:=C1.out;omega),if_pos (by have h:=C2.out;omega)];rfl,A1.out⟩
     ·have e2:decide (sky<0)=false:=decide_eq_false c2a
      have e3:decide (4503599627370496<sky)=true:=decide_eq_true (by omega)
      have C2:=hid c2
      clear c2
      go_wp2
      go_ret2
      exact⟨by rw[E.out,EM.out,if_neg (by have h:=C1.out;omega),if_pos (by have h:=C2.out;omega)];rfl,A1.out⟩
    ·have e2:decide (sky<0)=false:=decide_eq_false (by omega)
     have e3:decide (4503599627370496<sky)=false:=decide_eq_false (by omega)
     have k1:0<=sky:=by omega
     have k2:sky<=4503599627370496:=by omega
     have C2:=hid c2
     clear c2
     go_wp2_with fail
     refine(F2.out V1 A1.out k1 k2).mono ?_
     rintro e9 v9 ⟨rfl,hv9⟩
     have hv8:=hv9.symm
     subst hv8
     by_cases c3:0<=f2
     ·have e4:decide (0<=f2)=true:=decide_eq_true c3
      have C3:=hid c3
      clear c3
      go_wp2
      go_ret2
      exact⟨by rw[E.out,EM.out,if_neg (by have h:=C1.out;omega),if_neg (by have h:=C2.out;omega),if_pos (by have h:=C3.out;omega)];rfl,A1.out⟩
     ·have e4:decide (0<=f2)=false:=decide_eq_false c3
      have C3:=hid c3
      clear c3
      go_wp2_with fail
      refine(F3.out V1 A1.out).mono ?_
      rintro e9 v9 ⟨rfl,hv9⟩
      have hv8:=hv9.symm
      subst hv8
      by_cases c4:0<=f3
      ·have e5:decide (0<=f3)=true:=decide_eq_true c4
       have C4:=hid c4
       clear c4
       go_wp2
       go_ret2
       exact⟨by rw[E.out,EM.out,if_neg (by have h:=C1.out;omega),if_neg (by have h:=C2.out;omega),if_neg (by have h:=C3.out;omega),if_pos (by have h:=C4.out;omega)];rfl,A1.out⟩
      ·have e5:decide (0<=f3)=false:=decide_eq_false c4
       have C4:=hid c4
       clear c4
       go_wp2_with fail
       refine(F4.out V1 A1.out).mono ?_
       rintro e9 v9 ⟨rfl,hv9⟩
       have hv8:=hv9.symm
       subst hv8
       by_cases c5:0<=f4
       ·have e6:decide (0<=f4)=true:=decide_eq_true c5
        have C5:=hid c5
        clear c5
        go_wp2
        go_ret2
        exact⟨by rw[E.out,EM.out,if_neg (by have h:=C1.out;omega),if_neg (by have h:=C2.out;omega),if_neg (by have h:=C3.out;omega),if_neg (by have h:=C4.out;omega),if_pos (by have h:=C5.out;omega)];rfl,A1.out⟩
       ·have e6:decide (0<=f4)=false:=decide_eq_false c5
        have C5:=hid c5
        clear c5
        by_cases c6:st<0\/4611686018427387904<st
        ·by_cases c6a:st<0
         ·have e7:decide (st<0)=true:=decide_eq_true c6a
          have C6:=hid c6
          clear c6
          go_wp2
          go_ret2
          exact⟨by rw[E.out,EM.out,if_neg (by have h:=C1.out;omega),if_neg (by have h:=C2.out;omega),if_neg (by have h:=C3.out;omega),if_neg (by have h:=C4.out;omega),if_neg (by have h:=C5.out;omega),if_pos (by have h:=C6.out;omega)];rfl,A1.out⟩
         ·have e7:decide (st<0)=false:=decide_eq_false c6a
          have e8:decide (4611686018427387904<st)=true:=decide_eq_true (by omega)
          have C6:=hid c6
          clear c6
          go_wp2
          go_ret2
          exact⟨by rw[E.out,EM.out,if_neg (by have h:=C1.out;omega),if_neg (by have h:=C2.out;omega),if_neg (by have h:=C3.out;omega),if_neg (by have h:=C4.out;omega),if_neg (by have h:=C5.out;omega),if_pos (by have h:=C6.out;omega)];rfl,A1.out⟩
        ·have e7:decide (st<0)=false:=decide_eq_false (by omega)
         have e8:decide (4611686018427387904<st)=false:=decide_eq_false (by omega)
         have C6:=hid c6
         clear c6
         go_wp2
         go_ret2
         exact⟨by rw[E.out,EM.out,if_neg (by have h:=C1.out;omega),if_neg (by have h:=C2.out;omega),if_neg (by have h:=C3.out;omega),if_neg (by have h:=C4.out;omega),if_neg (by have h:=C5.out;omega),if_neg (by have h:=C6.out;omega)];rfl,A1.out⟩
theorem tI(side:Int)(pb:Option Addr)(lb cb:Nat)(pw:Option Addr)(lw cw:Nat)(pt:Option Addr)(lt ct:Nat)(ps:Option Addr)(ls cs:Nat)(sky st:Int)(w:World)(h: ¬(1<=side/\side<=32)):
  Calls prog 22 #[.int .i64 side,.agg #[.slice pb lb cb,.slice pw lw cw,.slice pt lt ct,.slice ps ls cs,.int .i64 sky,.int .i64 st]] w fun e w'=>e=.returned (.tuple #[.int .i64 0,.int .i64 10])/\Below w.heap.size w w':=by
 have A0:=cZ (bl1 w (.cells #[.slice pb lb cb,.slice pw lw cw,.slice pt lt ct,.slice ps ls cs,.int .i64 sky,.int .i64 st] 25))
 by_cases c:side<1
 ·have d1:decide (side<1)=true:=decide_eq_true c
  clear h c
  go_enter func22,ntmps22
  go_wp2
  go_ret2
  exact⟨rfl,A0.out⟩
 ·have d1:decide (side<1)=false:=decide_eq_false c
  have d2:decide (32<side)=true:=decide_eq_true (by omega)
  clear h c
  go_enter func22,ntmps22
  go_wp2
  go_ret2
  exact⟨rfl,A0.out⟩
theorem kU(side:Int)(pb:Option Addr)(lb cb:Nat)(B:Nat->Nat)(pw:Option Addr)(lw cw:Nat)(W:Nat->Int)(pt:Option Addr)(lt ct:Nat)(T:Nat->Int)(ps:Option Addr)(ls cs:Nat)(S:Nat->Nat)(sky st:Int)(w:World)(hl:(lb<=281474976710656/\lw<=281474976710656/\lt<=281474976710656/\ls<=281474976710656))(i1:IsFl w pb lb B)(i2:Sh.IsI w pw lw W)(i3:Sh.IsI w pt lt T)(i4:IsFl w ps ls S):
  Calls prog 22 #[.int .i64 side,.agg #[.slice pb lb cb,.slice pw lw cw,.slice pt lt ct,.slice ps ls cs,.int .i64 sky,.int .i64 st]] w fun e w'=>e=.returned (.tuple #[.int .i64 (chk side lb lw lt ls B W T S sky st).1,.int .i64 (chk side lb lw lt ls B W T S sky st).2])/\Below w.heap.size w w':=by
 unfold chk
 by_cases h:1<=side/\side<=32
 ·rw[if_pos h]
  obtain⟨n,rfl⟩: ∃n:Nat,side=(n:Nat):=⟨side.toNat,by omega⟩
  rw[Int.toNat_natCast]
  exact tH n (6*n*n) pb lb cb B pw lw cw W pt lt ct T ps ls cs S sky st w (by omega) (by rw[Int.natCast_mul,Int.natCast_mul];rfl) hl i1 i2 i3 i4
 ·rw[if_neg h]
  exact tI side pb lb cb pw lw cw pt lt ct ps ls cs sky st w h
end Ss
end
section
open Go.RowKit Go.Deep Tf Cu
attribute [local go_sem] aF aG aI aJ aK aL aM aC
namespace Sv
theorem mG{ops:Array Oper}{rest:List Oper}{o:Oper}{a:Act}{w:World}{Q:Exit->Act->World->Prop}(hgd:o.guard=none)(s x:Operand)
  (ho:o.op=.call {callee:=.builtin .append,args:= #[s,x],argTypes:= #[27,27]})
  (B g n:Nat) (l:List Nat) (hs:a.eval s=.slice (some ⟨g,0,none⟩) n n) (hln:l.length=n) (holds: ∀j u,(l.map fun x:Nat=>Value.int .u8 (x:Int))[j]? =some u->w.cell? ((⟨g,0,none⟩:Addr).add j)=some u)
  (ad:Addr) (m c:Nat) (news:List Nat) (hx:a.eval x=.slice (some ad) m c) (hl:news.length=m) (hnews: ∀j u,(news.map fun x:Nat=>Value.int .u8 (x:Int))[j]? =some u->w.cell? (ad.add j)=some u)
  (hm:0<m) (hlen:n+m<=1048576) (hB:B<=w.heap.size) (k:Nat) (hk:n+m=k)
  (h: ∀cap w',T8.Own B (.slice (some ⟨w.heap.size,0,none⟩) k cap) (l++news) w'->w.grownBy w' none->wpList prog ops Q rest (a.put o.dst (.slice (some ⟨w.heap.size,0,none⟩) k cap)) w'):wpList prog ops Q (o :: rest) a w:=by
 subst hk
 obtain⟨i0,hi,hz⟩:=Option.map_eq_some_iff.1 Ti.hI
 simp only[Prod.mk.injEq]at hz
 obtain⟨hz0,hz1,hz2⟩:=hz
 refine wpList_plain hgd fun _ hK=> ?_
 have hr:=run_append_grow (P:=prog) w 27 o.type 5 i0 (.int .u8 0) underlying27 hi hz0 ⟨g,0,none⟩ n n (l.map fun x:Nat=>Value.int .u8 (x:Int)) (by rw[hz1];simpa using hln) holds ad m c (news.map fun x:Nat=>Value.int .u8 (x:Int)) (by rw[hz1];simpa using hl) hnews (by omega) (by omega) (by rw[hz2];exact growslice_fits (by omega) (by omega))
 unfold Oper.wp execOp
 simp only[ho,resolve,invoke,builtin,Sem.run_bind,Sem.run_pure,Result.andThen_ok,List.map_toArray,List.map_cons,List.map_nil,hs,hx]
 rw[hr]
 refine hK _ _ (h _ _ ?_ ⟨rfl,rfl,rfl,by simp,fun k hk _=>heap_alloc_old w.drew _ hk⟩)
 have hge:=grownCap_ge w (n+m) n 5
 have hcm:grownCap w (n+m) n 5<=maxLen:=grownCap_le_maxLen w (n+m) n 5 (by unfold maxLen;omega)
 have hlen2:(l++news).length=n+m:=by rw[List.length_append,hln,hl]
 refine⟨by simp,.inr ⟨w.heap.size,_,_,by rw[hlen2],hB,heap_alloc_new w.drew _,by rw[hlen2];exact hge,hcm,?_,?_⟩⟩
 ·have hz1':(Value.int IntKind.u8 0).cells.size=1:=rfl
  simp only[Array.size_append,List.size_toArray,size_zeroCells,hz1',List.length_map,hln,hl]
  omega
 ·simp only[Array.toList_append,List.append_assoc,List.map_append]
  rw[<- List.append_assoc]
  refine(congrArg (fun k=>List.take k _) (?_:_=((l.map fun x:Nat=>Value.int .u8 (x:Int))++(news.map fun x:Nat=>Value.int .u8 (x:Int))).length)).trans List.take_left
  simp
theorem fT(V:World)(g k cp m x:Nat)(l:List Nat)(w:World)(hA:Ab V w)(hO:T8.Own V.heap.size (.slice (some ⟨g,0,none⟩) k cp) l w)(hk:l.length=k)(hm:k+8=m)(hm2:m<=1048576)(hx:x<18446744073709551616):
  Calls prog 23 #[.slice (some ⟨g,0,none⟩) k cp,.int .u64 (x:Int)] w fun e w'=> ∃g' cp',e=.returned (.slice (some ⟨g',0,none⟩) m cp')/\Ab V w'/\T8.Own V.heap.size (.slice (some ⟨g',0,none⟩) m cp') (l++by8 x 8) w':=by
 have HA:=hid hA
 have HO:=hid hO
 have HK:=hid (show l.length=k/\k+8=m/\m<=1048576 from⟨hk,hm,hm2⟩)
 have HX:=hid hx
 clear hA hO hk hm hm2 hx
 go_enter func23,ntmps23
 go_wp2
 go_loopw [0,1,5] (fun bv xv iv wr=> ∃i q z g' cp',i<=8/\k+i=q/\x/256 ^ i=z/\iv=.int .i64 ((i:Nat):Int)/\xv=.int .u64 ((z:Nat):Int)/\bv=.slice (some ⟨g',0,none⟩) q cp'/\Ab V wr/\T8.Own V.heap.size (.slice (some ⟨g',0,none⟩) q cp') (l++by8 x i) wr) (fun _ _ iv _=>8 - (intOf iv).toNat)
 case atStart=>exact⟨0,k,x,g,cp,by omega,by omega,by simp,rfl,rfl,rfl,HA.out,by rw[show by8 x 0=[]from rfl,List.append_nil];exact HO.out⟩
 case round=>
  obtain⟨i,q,z,g',cp',hi,hq,hz,rfl,rfl,rfl,a1,o1⟩:=hrel
  have A1:=hid a1
  have O1:=hid o1
  have ZX:=hid hz
  clear a1 o1
  by_cases h8:i<8
  ·have HI:=hid (show i<8/\k+i=q from⟨h8,hq⟩)
   have SZ:Hid ((l++by8 x i).length=q):=by show _=_;rw[List.length_append,aP,HK.out.1];exact hq
   have KB:=hid (show V.heap.size<=wr.heap.size from Below.size A1.out)
   have iI:(i:Int)<8:=by omega
   have z0:(0:Int)<=(z:Int):=by omega
   have zl:z<18446744073709551616:=by rw[<- hz];exact Nat.lt_of_le_of_lt (Nat.div_le_self _ _) HX.out
   obtain⟨z2,hz2⟩:=aB (z/256)
   have e2:(z:Int)/256=(z2:Int):=by omega
   have e4:IntKind.u64.wrap (z2:Int)=(z2:Int):=by
    show(z2:Int)%18446744073709551616=_
    omega
   obtain⟨t,ht⟩:=aB (z%256)
   have e3:(z:Int)%256=(t:Int):=by omega
   have TB:Hid (Ti.byt x i=t):=by show x/256 ^ i%256=t;rw[hz,ht]
   have t0:(0:Int)<=(t:Int):=by omega
   have t1:(t:Int)<256:=by omega
   have HZ2:Hid (x/256 ^ (i+1)=z2):=by show _=_;rw[Nat.pow_succ,<- Nat.div_div_eq_div_mul,hz,hz2]
   clear hi hq hz h8 hz2 ht zl
   go_wp2_with (at_builtin;refine T8.aZ rfl (.tmp 10) (.tmp 14) rfl V.heap.size _ (l++by8 x i) rfl (O1.out.alloc _) ⟨wr.heap.size,0,none⟩ 1 1 [t] rfl rfl (dR wr _ _ rfl) (by decide) (by have:=HK.out;have:=SZ.out;have:=HI.out;omega) (by have:=KB.out;simp;omega) (q+1) (by rw[SZ.out]) ?_;intro g2 c2 w2 o2 q2 e9 l2)
   refine⟨⟨i+1,q+1,z2,g2,c2,by have:=HI.out;omega,by have:=HI.out;omega,HZ2.out,by simp,by first | rfl | rw[e4],rfl,bE (A1.out.trans (bl1 _ _)) q2 (fun b hb=>by cases hb;exact O1.out.row.1),?_⟩,by have:=HI.out;simp[intOf];omega⟩
   rw[fO,<- List.append_assoc,TB.out]
   exact o2
  ·have e6:i=8:=by omega
   subst e6
   have e7:q=m:=by have:=HK.out;omega
   subst e7
   go_wp2
   go_ret
   exact⟨g',cp',rfl,A1.out,O1.out⟩
theorem rlf_at(V:World)(g kk cp m n:Nat)(l:List Nat)(pa:Option Addr)(c:Nat)(f:Nat->Nat)(w:World)(hA:Ab V w)(hO:T8.Own V.heap.size (.slice (some ⟨g,0,none⟩) kk cp) l w)(hk:l.length=kk)(hm:kk+8*n=m)(hm2:m<=1048576)(hf:IsFl V pa n f):
  Calls prog 24 #[.slice (some ⟨g,0,none⟩) kk cp,.slice pa n c] w fun e w'=> ∃g' cp',e=.returned (.slice (some ⟨g',0,none⟩) m cp')/\Ab V w'/\T8.Own V.heap.size (.slice (some ⟨g',0,none⟩) m cp') (l++flat (f) n) w':=by
 have HA:=hid hA
 have HO:=hid hO
 have HF:=hid hf
 have HK:=hid (show l.length=kk/\kk+8*n=m/\m<=1048576 from⟨hk,hm,hm2⟩)
 have nB:(n:Int)<=131072:=by omega
 clear hA hO hk hm hm2 hf
 go_enter func24,ntmps24
 go_wp2
 go_loopw [0,5] (fun bv iv wr=> ∃i q g' cp',i<=n/\kk+8*i=q/\iv=.int .i64 ((i:Nat):Int)/\bv=.slice (some ⟨g',0,none⟩) q cp'/\Ab V wr/\T8.Own V.heap.size (.slice (some ⟨g',0,none⟩) q cp') (l++flat (f) i) wr) (fun _ iv _=>n - (intOf iv).toNat)
 case atStart=>exact⟨0,kk,g,cp,by omega,by omega,rfl,rfl,HA.out,by rw[show flat (f) 0=[]from rfl,List.append_nil];exact HO.out⟩
 case round=>
  obtain⟨i,q,g',cp',hi,hq,rfl,rfl,a1,o1⟩:=hrel
  have A1:=hid a1
  have O1:=hid o1
  have HQ:=hid (show i<=n/\kk+8*i=q from⟨hi,hq⟩)
  clear a1 o1
  by_cases hin:i<n
  ·have HI:=hid hin
   have iI:(i:Int)<n:=by omega
   obtain⟨x1,b,o,rfl,x2,x3⟩:=(HF.out.below A1.out) i hin
   obtain⟨x,hx⟩:=aB (f i)
   rw[hx]at x3 x1
   have HX:=hid hx
   have RB:=hid (fun v=>Ss.kR x v)
   have yl:=x1
   skip
   skip
   skip
   have CP:=hid (fT V g' q cp' (q+8) x (l++flat (f) i) wr A1.out O1.out (by rw[List.length_append,bG,HK.out.1];exact HQ.out.2) rfl (by have:=HK.out;omega) yl)
   clear hi hq hin hx x1 x2 yl
   go_wp2_with (first
    | (go_at_call 53;refine(RB.out _).mono ?_;rintro e9 z9 ⟨rfl,hz⟩;have hz2:=hz.symm;subst hz2)
    | (go_at_call 23;refine CP.out.mono ?_;rintro e9 z9 ⟨g2,c2,rfl,a2,o2⟩))
   refine⟨⟨i+1,q+8,g2,c2,by have:=HI.out;omega,by have:=HQ.out;omega,by simp,rfl,a2,?_⟩,by have:=HI.out;simp[intOf];omega⟩
   rw[gH,<- List.append_assoc]
   rw[HX.out]
   exact o2
  ·have e6:n=i:=by omega
   subst e6
   have e7:q=m:=by have:=HK.out;omega
   subst e7
   go_wp2
   go_ret
   exact⟨g',cp',rfl,A1.out,O1.out⟩
theorem rli_at(V:World)(g kk cp m n:Nat)(l:List Nat)(pa:Option Addr)(c:Nat)(f:Nat->Int)(w:World)(hA:Ab V w)(hO:T8.Own V.heap.size (.slice (some ⟨g,0,none⟩) kk cp) l w)(hk:l.length=kk)(hm:kk+8*n=m)(hm2:m<=1048576)(hf:Sh.IsI V pa n f):
  Calls prog 25 #[.slice (some ⟨g,0,none⟩) kk cp,.slice pa n c] w fun e w'=> ∃g' cp',e=.returned (.slice (some ⟨g',0,none⟩) m cp')/\Ab V w'/\T8.Own V.heap.size (.slice (some ⟨g',0,none⟩) m cp') (l++flat (fun i=>u64 (f i)) n) w':=by
 have HA:=hid hA
 have HO:=hid hO
 have HF:=hid hf
 have HK:=hid (show l.length=kk/\kk+8*n=m/\m<=1048576 from⟨hk,hm,hm2⟩)
 have nB:(n:Int)<=131072:=by omega
 clear hA hO hk hm hm2 hf
 go_enter func25,ntmps25
 go_wp2
 go_loopw [0,5] (fun bv iv wr=> ∃i q g' cp',i<=n/\kk+8*i=q/\iv=.int .i64 ((i:Nat):Int)/\bv=.slice (some ⟨g',0,none⟩) q cp'/\Ab V wr/\T8.Own V.heap.size (.slice (some ⟨g',0,none⟩) q cp') (l++flat (fun i=>u64 (f i)) i) wr) (fun _ iv _=>n - (intOf iv).toNat)
 case atStart=>exact⟨0,kk,g,cp,by omega,by omega,rfl,rfl,HA.out,by rw[show flat (fun i=>u64 (f i)) 0=[]from rfl,List.append_nil];exact HO.out⟩
 case round=>
  obtain⟨i,q,g',cp',hi,hq,rfl,rfl,a1,o1⟩:=hrel
  have A1:=hid a1
  have O1:=hid o1
  have HQ:=hid (show i<=n/\kk+8*i=q from⟨hi,hq⟩)
  clear a1 o1
  by_cases hin:i<n
  ·have HI:=hid hin
   have iI:(i:Int)<n:=by omega
   obtain⟨x1,b,o,rfl,x2,x3⟩:=(HF.out.below A1.out) i hin
   obtain⟨x,hx⟩:=aB (f i)
   rw[hx]at x3 x1
   have HX:=hid hx
   have ew:=cH x
   have yl:=eJ x
   obtain⟨y,hy⟩:=aB (u64 x)
   have HY:=hid hy
   rw[hy]at ew yl
   have CP:=hid (fT V g' q cp' (q+8) y (l++flat (fun i=>u64 (f i)) i) wr A1.out O1.out (by rw[List.length_append,bG,HK.out.1];exact HQ.out.2) rfl (by have:=HK.out;omega) yl)
   clear hi hq hin hx x1 x2 yl hy
   go_wp2_with (first
    | fail
    | (go_at_call 23;refine CP.out.mono ?_;rintro e9 z9 ⟨g2,c2,rfl,a2,o2⟩))
   refine⟨⟨i+1,q+8,g2,c2,by have:=HI.out;omega,by have:=HQ.out;omega,by simp,rfl,a2,?_⟩,by have:=HI.out;simp[intOf];omega⟩
   rw[gH,<- List.append_assoc]
   rw[show u64 (f i)=y by rw[HX.out,HY.out]]
   exact o2
  ·have e6:n=i:=by omega
   subst e6
   have e7:q=m:=by have:=HK.out;omega
   subst e7
   go_wp2
   go_ret
   exact⟨g',cp',rfl,A1.out,O1.out⟩
theorem rsum_at(p:Option Addr)(l c:Nat)(F:Nat->Nat)(w:World)(hl:l<=9223372036854775807)(hF:Ti.IsW .u8 256 w p l F):
  Calls prog 12 #[.slice p l c] w fun e w'=>e=.returned (.int .u64 ((smN F l:Nat):Int))/\w'=w:=by
 have HF:=hid hF
 have HL:=hid hl
 clear hF hl
 go_enter func12,ntmps12
 go_wp2
 go_loopw [3,4] (fun hv iv wr=> ∃k:Nat,k<=l/\iv=.int .i64 (k:Nat)/\hv=.int .u64 ((smN F k:Nat):Int)/\wr=w) (fun _ iv _=>l - (intOf iv).toNat)
 case atStart=>exact⟨0,by omega,rfl,rfl,rfl⟩
 case round=>
  obtain⟨k,hk,rfl,rfl,hwr⟩:=hrel
  have hwr2:=hwr.symm
  subst hwr2
  by_cases hkl:k<l
  ·have HK:=hid hkl
   obtain⟨b1,g,o,rfl,_,z⟩:=HF.out k hkl
   have SL:=lX F k
   obtain⟨y,hy⟩:=aB (F k)
   obtain⟨X,hX⟩:=aB (smN F k)
   rw[hy]at z b1
   rw[hX]at SL ⊢
   have kI:(k:Int)<l:=by omega
   have kB:(l:Int)<=9223372036854775807:=by have:=HL.out;omega
   have y0:(0:Int)<=(y:Int):=by omega
   have y1:(y:Int)<256:=by omega
   have xq:=xor64 SL b1
   obtain⟨Y,hY⟩:=aB (X ^^^ y)
   rw[hY]at xq
   have mq:=mul64 Y
   have ST:Hid (smN F (k+1)=Y*1099511628211%18446744073709551616):=by
    show(smN F k ^^^ F k)*1099511628211%18446744073709551616=_
    rw[hX,hy,hY]
   obtain⟨Z,hZ⟩:=aB (Y*1099511628211%18446744073709551616)
   rw[hZ]at mq ST
   clear hy hX hY hZ b1 SL hkl hk
   go_wp2
   exact⟨⟨k+1,by have:=HK.out;omega,by simp,by rw[ST.out],by first | trivial | rfl⟩,by have:=HK.out;simp[intOf];omega⟩
  ·have e6:l=k:=by omega
   subst e6
   go_wp2
   go_ret
   exact⟨rfl,rfl⟩
end Sv
end
section
open Go.RowKit Go.Deep Tf Cu
attribute [local go_sem] aF aG aI aJ aK aL aM aC
namespace Sv
theorem renc_no(side:Int)(pb:Option Addr)(lb cb:Nat)(B:Nat->Nat)(pw:Option Addr)(lw cw:Nat)(W:Nat->Int)(pt:Option Addr)(lt ct:Nat)(T:Nat->Int)(ps:Option Addr)(ls cs:Nat)(S:Nat->Nat)(sky st:Int)(w:World)(i1:IsFl w pb lb B)(i2:Sh.IsI w pw lw W)(i3:Sh.IsI w pt lt T)(i4:IsFl w ps ls S)(hl48:lb<=281474976710656/\lw<=281474976710656/\lt<=281474976710656/\ls<=281474976710656)(hc:(Ss.chk side lb lw lt ls B W T S sky st).2≠0):
  Calls prog 7 #[.int .i64 side,.agg #[.slice pb lb cb,.slice pw lw cw,.slice pt lt ct,.slice ps ls cs,.int .i64 sky,.int .i64 st]] w fun e w'=>e=.returned (.tuple #[.slice none 0 0,.int .i64 (Ss.chk side lb lw lt ls B W T S sky st).2])/\Ab w w':=by
 have I1:=hid i1
 have I2:=hid i2
 have I3:=hid i3
 have I4:=hid i4
 have CK:=hid (fun v (a:Ab w v)=>Ss.kU side pb lb cb B pw lw cw W pt lt ct T ps ls cs S sky st v hl48 (i1.below a) (i2.below a) (i3.below a) (i4.below a))
 obtain⟨A0,R0⟩:=aN w (.cells #[.slice pb lb cb,.slice pw lw cw,.slice pt lt ct,.slice ps ls cs,.int .i64 sky,.int .i64 st] 25)
 obtain⟨x1,hx1⟩:=aB ((Ss.chk side lb lw lt ls B W T S sky st).1)
 obtain⟨x2,hx2⟩:=aB ((Ss.chk side lb lw lt ls B W T S sky st).2)
 rw[hx1,hx2]at CK
 rw[hx2]at hc
 rw[hx2]
 have n2:(x2 != 0)=true:=by simpa using hc
 clear hx1 hx2 i1 i2 i3 i4 hl48
 go_enter func7,ntmps7
 go_upto_region 1 with fail
 generalize hV:World.alloc w _=v0 at*
 obtain⟨s,hs⟩:=aB w.heap.size
 rw[hs]at R0 ⊢
 clear hV hs
 have y0:=aD R0.out
 go_wp2_with fail
 refine(CK.out v0 A0.out).mono ?_
 rintro e9 v1 ⟨rfl,b1⟩
 have A1:Hid (Ab w v1):=A0.out.trans b1
 have R1:=hid (Ab.heap b1 R0.out)
 clear b1 A0 R0 y0 CK
 go_wp2_with fail
 (try simp only[Exit.inBlock,Exit.then])
 exact bodyPost_ret (results_tmp2 rfl _ _ _) rfl ⟨rfl,A1.out⟩
theorem renc_yes(side:Int)(pb:Option Addr)(lb cb:Nat)(B:Nat->Nat)(pw:Option Addr)(lw cw:Nat)(W:Nat->Int)(pt:Option Addr)(lt ct:Nat)(T:Nat->Int)(ps:Option Addr)(ls cs:Nat)(S:Nat->Nat)(sky st:Int)(w:World)(i1:IsFl w pb lb B)(i2:Sh.IsI w pw lw W)(i3:Sh.IsI w pt lt T)(i4:IsFl w ps ls S)(hl48:lb<=281474976710656/\lw<=281474976710656/\lt<=281474976710656/\ls<=281474976710656)(n N M L:Nat)(hs:side=(n:Nat))(hc:(Ss.chk side lb lw lt ls B W T S sky st).2=0)(hn:1<=n/\n<=32)(hN:6*n*n=N)(hM:2*N=M)(hL:29+40*N=L)(hl:lb=N/\lw=N/\lt=N/\ls=M):
  Calls prog 7 #[.int .i64 side,.agg #[.slice pb lb cb,.slice pw lw cw,.slice pt lt ct,.slice ps ls cs,.int .i64 sky,.int .i64 st]] w fun e w'=> ∃g cp,e=.returned (.tuple #[.slice (some ⟨g,0,none⟩) L cp,.int .i64 0])/\Ab w w'/\T8.Own w.heap.size (.slice (some ⟨g,0,none⟩) L cp) ((List.range L).map (enc n N B W T S sky st)) w':=by
 have I1:=hid i1
 have I2:=hid i2
 have I3:=hid i3
 have I4:=hid i4
 have CK:=hid (fun v (a:Ab w v)=>Ss.kU side pb lb cb B pw lw cw W pt lt ct T ps ls cs S sky st v hl48 (i1.below a) (i2.below a) (i3.below a) (i4.below a))
 obtain⟨A0,R0⟩:=aN w (.cells #[.slice pb lb cb,.slice pw lw cw,.slice pt lt ct,.slice ps ls cs,.int .i64 sky,.int .i64 st] 25)
 obtain⟨x1,hx1⟩:=aB ((Ss.chk side lb lw lt ls B W T S sky st).1)
 obtain⟨x2,hx2⟩:=aB ((Ss.chk side lb lw lt ls B W T S sky st).2)
 rw[hx1,hx2]at CK
 rw[hx2]at hc
 subst hc
 obtain⟨l1,l2,l3,l4⟩:=hl
 have l1:=l1.symm
 have l2:=l2.symm
 have l3:=l3.symm
 have l4:=l4.symm
 subst l1 l2 l3 l4
 subst hs
 have NB:Hid (1<=n/\n<=32/\N<=6144/\2*N=M/\29+40*N=L):=by
  have q5:N<=192*32:=by rw[<- hN];exact Nat.mul_le_mul (by omega) (by omega)
  exact⟨hn.1,hn.2,by omega,hM,hL⟩
 have n0:(0:Int)<=(n:Int):=by omega
 have n1:(n:Int)<256:=by omega
 have e1:=cH st
 have e2:=cH sky
 obtain⟨z1,hz1⟩:=aB (u64 st)
 obtain⟨z2,hz2⟩:=aB (u64 sky)
 rw[hz1]at e1
 rw[hz2]at e2
 have HZ:=hid (show u64 st=z1/\u64 sky=z2 from⟨hz1,hz2⟩)
 clear hx1 hx2 i1 i2 i3 i4 hn hN hM hL hz1 hz2 hl48
 go_enter func7,ntmps7
 go_upto_region 1 with fail
 generalize hV:World.alloc w _=v0 at*
 obtain⟨s,hs⟩:=aB w.heap.size
 rw[hs]at R0 ⊢
 clear hV hs
 have y0:=aD R0.out
 go_wp2_with fail
 refine(CK.out v0 A0.out).mono ?_
 rintro e9 v1 ⟨rfl,b1⟩
 have A1:Hid (Ab w v1):=A0.out.trans b1
 have R1:=hid (Ab.heap b1 R0.out)
 clear b1 A0 R0 y0 CK
 have KC:=fun(w:World) (C:Array Value) (n c:Nat)=>Go.Lib.run_convert_bytes_const (P:=prog) w 27 5 C n c underlying27 underlying5
 obtain⟨A2,H2⟩:=aN v1 (.cells #[.int .u8 84,.int .u8 65,.int .u8 82,.int .u8 78] 5 (4,5))
 go_upto_region 5 with fail
 generalize hV:World.alloc v1 _=v3 at*
 obtain⟨g0,hg0⟩:=aB v1.heap.size
 rw[hg0]at H2 ⊢
 clear hV KC
 have LIT:Hid (∀j u,(([84,65,82,78]:List Nat).map fun x:Nat=>Value.int .u8 (x:Int))[j]? =some u->(v3.alloc (.cells #[.int .u8 ((n:Nat):Int)] 5)).cell? ((⟨g0,0,none⟩:Addr).add j)=some u):=fun j u hu=>by
  have q:=Ab.heap (bl1 v3 (.cells #[.int .u8 ((n:Nat):Int)] 5)) H2.out
  have hj:j<4:=by
   rcases Nat.lt_or_ge j 4 with h1 | h1
   ·exact h1
   ·rw[List.getElem?_eq_none (by simpa using h1)]at hu;cases hu
  rw[Sh.fK,Nat.zero_add]
  refine(cell_of_row _ _ j _ _ _ q).trans ?_
  have c:j=0\/j=1\/j=2\/j=3:=by omega
  rcases c with rfl | rfl | rfl | rfl<;>simpa using hu
 have KB:=hid (show v1.heap.size<=v3.heap.size from Below.size A2.out)
 go_upto_region 6 with(at_builtin;refine mG rfl (.tmp 20) (.tmp 23) rfl v1.heap.size g0 4 [84,65,82,78] rfl rfl LIT.out ⟨v3.heap.size,0,none⟩ 1 1 [n] rfl rfl (dR v3 n _ rfl) (by decide) (by decide) (by have:=KB.out;simp;omega) 5 rfl ?_;intro c4 v4 o4 q4)
 have A4:Hid (Ab v1 v4):=bE (A2.out.trans (bl1 _ _)) q4 (fun b hb=>by cases hb)
 obtain⟨g4,hg4⟩:=aB ((v3.alloc (.cells #[.int .u8 ((n:Nat):Int)] 5)).heap.size)
 rw[hg4]at o4
 first | rw[hg4] | rw[show v3.heap.size+1=g4 by rw[<- hg4,hP]]
 have O4:Hid (T8.Own v1.heap.size (.slice (some ⟨g4,0,none⟩) 5 c4) [84,65,82,78,n] v4):=o4
 clear o4 q4 A2 H2 LIT KB hg4
 have y:=aA 5 (Ab.heap A4.out R1.out)
 have CP:=hid (fT v1 g4 5 c4 (13) z1 ([84,65,82,78,n]) v4 A4.out O4.out (by simp) rfl (by decide) (by rw[<- HZ.out.1];exact eJ _))
 go_upto_region 7 with(go_at_call 23;refine CP.out.mono ?_;rintro e9 v5 ⟨g5,c5,rfl,a5,o5⟩)
 have A5:=hid a5
 have O5:=hid o5
 clear a5 o5 CP A4 O4 y
 have y:=aA 4 (Ab.heap A5.out R1.out)
 have CP:=hid (fT v1 g5 13 c5 (21) z2 ([84,65,82,78,n]++by8 z1 8) v5 A5.out O5.out (by simp[aP]) rfl (by decide) (by rw[<- HZ.out.2];exact eJ _))
 go_upto_region 8 with(go_at_call 23;refine CP.out.mono ?_;rintro e9 v6 ⟨g6,c6,rfl,a6,o6⟩)
 have A6:=hid a6
 have O6:=hid o6
 clear a6 o6 CP A5 O5 y
 have y:=aA 0 (Ab.heap A6.out R1.out)
 have CP:=hid (rlf_at v1 g6 (21) c6 (21+8*N) N ([84,65,82,78,n]++by8 z1 8++by8 z2 8) pb cb B v6 A6.out O6.out (by simp[aP]) (by have:=NB.out;omega) (by have:=NB.out;omega) (I1.out.below A1.out))
 go_upto_region 9 with(go_at_call 24;refine CP.out.mono ?_;rintro e9 v7 ⟨g7,c7,rfl,a7,o7⟩)
 have A7:=hid a7
 have O7:=hid o7
 clear a7 o7 CP A6 O6 y
 have y:=aA 1 (Ab.heap A7.out R1.out)
 have CP:=hid (rli_at v1 g7 (21+8*N) c7 (21+16*N) N ([84,65,82,78,n]++by8 z1 8++by8 z2 8++flat B N) pw cw W v7 A7.out O7.out (by simp[aP,bG];have:=NB.out;omega) (by have:=NB.out;omega) (by have:=NB.out;omega) (I2.out.below A1.out))
 go_upto_region 10 with(go_at_call 25;refine CP.out.mono ?_;rintro e9 v8 ⟨g8,c8,rfl,a8,o8⟩)
 have A8:=hid a8
 have O8:=hid o8
 clear a8 o8 CP A7 O7 y
 have y:=aA 2 (Ab.heap A8.out R1.out)
 have CP:=hid (rli_at v1 g8 (21+16*N) c8 (21+24*N) N ([84,65,82,78,n]++by8 z1 8++by8 z2 8++flat B N++flat (fun i=>u64 (W i)) N) pt ct T v8 A8.out O8.out (by simp[aP,bG];have:=NB.out;omega) (by have:=NB.out;omega) (by have:=NB.out;omega) (I3.out.below A1.out))
 go_upto_region 11 with(go_at_call 25;refine CP.out.mono ?_;rintro e9 v9 ⟨g9,c9,rfl,a9,o9⟩)
 have A9:=hid a9
 have O9:=hid o9
 clear a9 o9 CP A8 O8 y
 have y:=aA 3 (Ab.heap A9.out R1.out)
 have CP:=hid (rlf_at v1 g9 (21+24*N) c9 (21+40*N) M ([84,65,82,78,n]++by8 z1 8++by8 z2 8++flat B N++flat (fun i=>u64 (W i)) N++flat (fun i=>u64 (T i)) N) ps cs S v9 A9.out O9.out (by simp[aP,bG];have:=NB.out;omega) (by have:=NB.out;omega) (by have:=NB.out;omega) (I4.out.below A1.out))
 go_upto_region 12 with(go_at_call 24;refine CP.out.mono ?_;rintro e9 v10 ⟨g10,c10,rfl,a10,o10⟩)
 have A10:=hid a10
 have O10:=hid o10
 clear a10 o10 CP A9 O9 y
 have EL:Hid ([84,65,82,78,n]++by8 z1 8++by8 z2 8++flat B N++flat (fun i=>u64 (W i)) N++flat (fun i=>u64 (T i)) N++flat S M=(List.range (21+40*N)).map (pre n (wdA n N B W T S sky st))):=by
  have q:=oS n N B W T S sky st
  rw[HZ.out.1,HZ.out.2,NB.out.2.2.2.1]at q
  exact q
 rw[EL.out]at O10
 obtain⟨XL,hXL⟩:=aB ((List.range (21+40*N)).map (pre n (wdA n N B W T S sky st)))
 rw[hXL]at O10
 have XP:Hid (XL.length=21+40*N/\(∀x ∈ XL,x<256)/\ ∀i,i<21+40*N->XL.getD i 0=pre n (wdA n N B W T S sky st) i):=by
  subst hXL
  refine⟨by simp,fun x hx=> ?_,fun i hi=>fS _ _ _ hi⟩
  obtain⟨i,_,rfl⟩:=List.mem_map.1 hx
  exact pS (by have:=NB.out;omega)
 have CSM:=hid (rsum_at (some ⟨g10,0,none⟩) (21+40*N) c10 _ v10 (by have:=NB.out;omega) (own_w O10.out XP.out.1 XP.out.2.1))
 have SE:Hid (smN (fun j=>XL.getD j 0) (21+40*N)=smN (pre n (wdA n N B W T S sky st)) (21+40*N)):=cW _ XP.out.2.2
 have sl:=lX (fun j=>XL.getD j 0) (21+40*N)
 obtain⟨sm,hsm⟩:=aB (smN (fun j=>XL.getD j 0) (21+40*N))
 rw[hsm]at CSM SE sl
 obtain⟨q,hq⟩:=aB (21+40*N)
 have CP:=hid (fT v1 g10 (21+40*N) c10 L sm XL v10 A10.out O10.out XP.out.1 (by have:=NB.out;omega) (by have:=NB.out;omega) sl)
 have HX:=hid hXL
 rw[hq]at CSM CP ⊢
 clear EL hXL hsm O10 sl
 go_wp2_with (first
  | (go_at_call 12;refine CSM.out.mono ?_;rintro e9 z9 ⟨rfl,hz⟩;have hz2:=hz.symm;subst hz2)
  | (go_at_call 23;refine CP.out.mono ?_;rintro e9 v11 ⟨g11,c11,rfl,a11,o11⟩))
 (try simp only[Exit.inBlock,Exit.then])
 refine bodyPost_ret (results_tmp2 rfl _ _ _) rfl ⟨g11,c11,rfl,A1.out.trans a11,?_⟩
 rw[<- HX.out,rJ n N sm B W T S sky st SE.out,NB.out.2.2.2.2]at o11
 exact oQ o11 (Below.size A1.out)
end Sv
end
section
open Go.RowKit Tf Cu Go.Deep
namespace Sv
theorem chk_0{side:Int}{lb lw lt ls:Nat}{B:Nat->Nat}{W T:Nat->Int}{S:Nat->Nat}{sky st:Int}(h:(Ss.chk side lb lw lt ls B W T S sky st).2=0): ∃n N:Nat,side=(n:Nat)/\(1<=n/\n<=32)/\6*n*n=N/\(lb=N/\lw=N/\lt=N/\ls=2*N)/\(Ss.chN N N N N (2*N) B W T S sky st).2=0:=by
 unfold Ss.chk at h
 split at h
 ·rename_i hs
  have e:side=(side.toNat:Nat):=by omega
  obtain⟨l,_⟩:=Ss.chN_ok.1 h
  refine⟨side.toNat,_,e,⟨by omega,by omega⟩,rfl,l,?_⟩
  obtain⟨l1,l2,l3,l4⟩:=l
  rw[l1,l2,l3,l4]at h
  exact h
 ·cases h
end Sv
end
end Go.Proofs.YtlmfpikhlcnjjaaGreatDoor
