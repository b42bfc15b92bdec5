/-
  Some of the texts of this proof, one behind the other.
-/
import Derived.ProofKit
import Derived.OpenShut
import Derived.WalkLawsBesides
import Derived.Stop.Joined
import Derived.Carry
import Derived.Lib.SmallJoins
import Derived.Deep.SlicePairs
import Derived.Deep.Slices
import Derived.SizedLaws
import Derived.Test.YtmjldplhhgfnaaaKe10
set_option maxRecDepth 100000
set_option maxHeartbeats 400000000
namespace Go.Proofs.Ytmjldplhhgfnaaa
open _root_.Go.Proofs.Try
section
open Go.RowKit Go.Deep Tf Cu
namespace Ti
theorem oQ(w:World):
  Calls prog 9 #[.agg #[.int .i64 0,.int .u32 0,.int .u32 0,.slice none 0 0],.agg #[.int .i64 0,.int .u32 0,.int .u32 0,.slice none 0 0]] w fun e w'=>e=.returned (.bool true)/\Below w.heap.size w w':=by
 have h:=gD 0 0 0 0 0 0 none none 0 0 0 0 (fun _=>0) (fun _=>0) w (by decide) (IsW.nil _ _ _ _ _) (IsW.nil _ _ _ _ _)
 rw[show eqT 0 0 0 0 0 0 0 0 (fun _=>0) (fun _=>0)=true from decide_eq_true ⟨rfl,rfl,rfl,rfl,fun _ _=>rfl⟩]at h
 exact h
theorem bytes_11(fa:Int)(ls ms:Nat)(pt:Option Addr)(mt ct:Nat)(F:Nat->Nat)(pb:Option Addr)(L cb:Nat)(f:Nat->Nat)(w:World)(hls:ls<4294967296)(hms:ms<4294967296)(hct:mt<=ct/\ct<=35184372088832)(hF:IsW .u32 4294967296 w pt mt F)(hL:L<=cb/\cb<=140737488355328)(hf:IsW .u8 256 w pb L f)(hfb: ∀i,f i<256)(ho:okT fa mt F ls ms=true)(he:dErr L f=0):
  Calls prog 3 #[.agg #[.int .i64 fa,.int .u32 ((ls:Nat):Int),.int .u32 ((ms:Nat):Int),.slice pt mt ct],.slice pb L cb] w fun e w'=>e=.returned (.bool true)/\Below w.heap.size w w':=by
 have HF:=hid hF
 have Hf:=hid hf
 have HB:=hid (show ls<4294967296/\ms<4294967296/\mt<=ct/\ct<=35184372088832/\L<=cb/\cb<=140737488355328 from⟨hls,hms,hct.1,hct.2,hL.1,hL.2⟩)
 have HO:=hid ho
 have HE:=hid he
 have HFB:=hid hfb
 clear hF hf hls hms hct hL ho he hfb
 obtain⟨A0,R0⟩:=aD w (.cells #[.int .i64 fa,.int .u32 ((ls:Nat):Int),.int .u32 ((ms:Nat):Int),.slice pt mt ct] 25)
 go_enter func3,ntmps3
 go_upto_region 1 with fail
 generalize hW:World.alloc w _=V0 at*
 obtain⟨gw,hgw⟩:=aB w.heap.size
 rw[hgw]at R0 ⊢
 clear hgw hW
 go_wp2_with fail
 refine(dC V0).mono ?_
 rintro e9 v1 ⟨rfl,b1⟩
 have A1:Hid (Ab w v1):=A0.out.trans b1
 have R1:=hid (Ab.heap b1 R0.out)
 clear b1 A0 R0
 have y0:=aA 0 R1.out
 have y1:=aA 1 R1.out
 have y2:=aA 2 R1.out
 have y3:=aA 3 R1.out
 obtain⟨N,hN⟩:=aB (14+4*mt)
 have CE:=hid (dX fa ls ms pt mt ct F v1 HB.out.1 HB.out.2.1 (by have:=HB.out;omega) (HF.out.below A1.out) HO.out)
 have CR:=hid (fun v (a:Ab w v)=>fS fa ls ms pt mt ct F v HB.out.1 HB.out.2.1 (by have:=HB.out;omega) (HF.out.below a) HO.out)
 have T1:=fJ HO.out
 obtain⟨E,hE⟩:=aB (enc fa.toNat (sideN mt) ls ms F)
 have EB: ∀i,E i<256:=by rw[<- hE];exact fun i=>kC (by omega) (by omega)
 rw[hE,hN]at CE
 rw[hE,hN]at CR
 have HEB:=hid EB
 clear T1 hE EB hN
 go_wp2_with fail
 refine CE.out.mono ?_
 rintro e9 v2 ⟨gb,rfl,b2,l2,r2⟩
 have A2:Hid (Ab w v2):=A1.out.trans b2
 have R2:=hid (Ab.heap b2 R1.out)
 have E2:=hid r2
 clear b2 l2 r2 CE A1 R1 y0 y1 y2 y3
 have y0:=aA 0 R2.out
 have y1:=aA 1 R2.out
 have y2:=aA 2 R2.out
 have y3:=aA 3 R2.out
 go_wp2_with fail
 refine(CR.out v2 A2.out).mono ?_
 rintro e9 vx ⟨gd,cd,rfl,b3,o3⟩
 have AX:Hid (Ab w vx):=A2.out.trans b3
 have E3:=hid (Sh.aV E2.out b3)
 have D3:Hid (IsW .u8 256 vx (some ⟨gd,0,none⟩) N E):=by
  obtain⟨a0,cp0,e0,i0,-⟩:=T8.Own.at o3 (fun x hx=>by
   obtain⟨j,hj,rfl⟩:=List.mem_map.1 hx
   exact HEB.out j)
  rw[List.length_map,List.length_range]at e0 i0
  injection e0 with e1 e2 e3
  subst e1
  exact i0.congr (fun j hj=>by simp[List.getD,hj])
 clear b3 o3 CR A2 R2 E2 y0 y1 y2 y3
 have CV1:=aJ (w:=vx) (a:=some ⟨gb,0,none⟩) (n:=N) (cap:=N) (f:=E) underlying26 underlying5 underlying9 (dE E3.out (fun i _=>HEB.out i)) (fun e=>by cases e)
 have CV2:=aJ (w:=vx) (a:=some ⟨gd,0,none⟩) (n:=N) (cap:=cd) (f:=E) underlying26 underlying5 underlying9 D3.out (fun e=>by cases e)
 have SS:=lN (f:=E) (g:=E) (n:=N) (m:=N) (fun i _=>HEB.out i) (fun i _=>HEB.out i) rfl (fun _ _=>rfl)
 have DK:=dec_ok HFB.out HE.out
 have CB:=hid (dY pb L cb f vx (by have:=HB.out;omega) (Hf.out.below AX.out) HE.out)
 have CD:=hid (fun v (a:Ab w v)=>fT pb L cb f v (by have:=HB.out;omega) (Hf.out.below a) HE.out)
 obtain⟨f4,h4⟩:=aB (f 4)
 obtain⟨n6,h6⟩:=aB (num f 6)
 obtain⟨n10,h10⟩:=aB (num f 10)
 obtain⟨m5,h5⟩:=aB (f 5*f 5)
 rw[h4,h6,h10,h5]at CB
 rw[h4,h6,h10,h5]at CD
 rw[h4,h6,h10,h5]at DK
 have TL:=hid (fJ DK.1).2.2
 clear DK h4 h6 h10 h5
 go_wp2_with fail
 refine CB.out.mono ?_
 rintro e9 v6 ⟨gu,rfl,b6,l6,r6⟩
 have A6:Hid (Ab w v6):=AX.out.trans b6
 have U6:=hid r6
 clear b6 l6 r6 CB AX
 obtain⟨X7,T7⟩:=aD v6 (.cells #[.int .i64 ((f4:Nat):Int),.int .u32 ((n6:Nat):Int),.int .u32 ((n10:Nat):Int),.slice (some ⟨gu,0,none⟩) m5 m5] 25)
 go_upto_region 8 with fail
 generalize hV:World.alloc v6 _=v7 at*
 obtain⟨gt7,hgu⟩:=aB v6.heap.size
 rw[hgu]at T7 ⊢
 clear hV hgu
 have A7:Hid (Ab w v7):=A6.out.trans X7.out
 have U7:=hid (Sh.aV U6.out X7.out)
 clear A6 U6 X7
 go_wp2_with fail
 refine(CD.out v7 A7.out).mono ?_
 rintro e9 v8 ⟨gv,cv,rfl,b8,i8⟩
 have A8:Hid (Ab w v8):=A7.out.trans b8
 have U8:=hid (Sh.aV U7.out b8)
 have T8x:=hid (Ab.heap b8 T7.out)
 have I8:=hid i8
 clear b8 i8 CD A7 U7 T7
 obtain⟨X9,T9⟩:=aD v8 (.cells #[.int .i64 ((f4:Nat):Int),.int .u32 ((n6:Nat):Int),.int .u32 ((n10:Nat):Int),.slice (some ⟨gv,0,none⟩) m5 cv] 25)
 go_upto_region 9 with fail
 generalize hV:World.alloc v8 _=v9 at*
 obtain⟨gt9,hgu⟩:=aB v8.heap.size
 rw[hgu]at T9 ⊢
 clear hV hgu
 have A9:Hid (Ab w v9):=A8.out.trans X9.out
 have TU9:=hid (X9.out.heap T8x.out)
 have CS:=hid (gD ((f4:Nat):Int) ((f4:Nat):Int) n6 n6 n10 n10 (some ⟨gu,0,none⟩) (some ⟨gv,0,none⟩) m5 m5 m5 cv (dec f) (dec f) v9 (by have:=TL.out;omega) (dE (Sh.aV U8.out X9.out) (fun i _=>jU HFB.out i)) (I8.out.below X9.out))
 rw[show eqT ((f4:Nat):Int) ((f4:Nat):Int) n6 n6 n10 n10 m5 m5 (dec f) (dec f)=true from decide_eq_true ⟨rfl,rfl,rfl,rfl,fun _ _=>rfl⟩]at CS
 clear A8 U8 T8x I8 X9
 have t0:=aA 0 TU9.out
 have t1:=aA 1 TU9.out
 have t2:=aA 2 TU9.out
 have t3:=aA 3 TU9.out
 have z0:=aA 0 T9.out
 have z1:=aA 1 T9.out
 have z2:=aA 2 T9.out
 have z3:=aA 3 T9.out
 go_wp2_with fail
 refine CS.out.mono ?_
 rintro e9 va ⟨rfl,ba⟩
 have AA:Hid (Ab w va):=A9.out.trans ba
 clear ba CS
 go_wp2
 go_ret
 exact⟨rfl,AA.out⟩
theorem bytes_10(fa:Int)(ls ms:Nat)(pt:Option Addr)(mt ct:Nat)(F:Nat->Nat)(pb:Option Addr)(L cb:Nat)(f:Nat->Nat)(w:World)(hls:ls<4294967296)(hms:ms<4294967296)(hct:mt<=ct/\ct<=35184372088832)(hF:IsW .u32 4294967296 w pt mt F)(hL:L<=cb/\cb<=140737488355328)(hf:IsW .u8 256 w pb L f)(hfb: ∀i,f i<256)(ho:okT fa mt F ls ms=true)(he:dErr L f≠0):
  Calls prog 3 #[.agg #[.int .i64 fa,.int .u32 ((ls:Nat):Int),.int .u32 ((ms:Nat):Int),.slice pt mt ct],.slice pb L cb] w fun e w'=>e=.returned (.bool true)/\Below w.heap.size w w':=by
 have HF:=hid hF
 have Hf:=hid hf
 have HB:=hid (show ls<4294967296/\ms<4294967296/\mt<=ct/\ct<=35184372088832/\L<=cb/\cb<=140737488355328 from⟨hls,hms,hct.1,hct.2,hL.1,hL.2⟩)
 have HO:=hid ho
 have HE:=hid he
 have HFB:=hid hfb
 clear hF hf hls hms hct hL ho he hfb
 obtain⟨A0,R0⟩:=aD w (.cells #[.int .i64 fa,.int .u32 ((ls:Nat):Int),.int .u32 ((ms:Nat):Int),.slice pt mt ct] 25)
 go_enter func3,ntmps3
 go_upto_region 1 with fail
 generalize hW:World.alloc w _=V0 at*
 obtain⟨gw,hgw⟩:=aB w.heap.size
 rw[hgw]at R0 ⊢
 clear hgw hW
 go_wp2_with fail
 refine(dC V0).mono ?_
 rintro e9 v1 ⟨rfl,b1⟩
 have A1:Hid (Ab w v1):=A0.out.trans b1
 have R1:=hid (Ab.heap b1 R0.out)
 clear b1 A0 R0
 have y0:=aA 0 R1.out
 have y1:=aA 1 R1.out
 have y2:=aA 2 R1.out
 have y3:=aA 3 R1.out
 obtain⟨N,hN⟩:=aB (14+4*mt)
 have CE:=hid (dX fa ls ms pt mt ct F v1 HB.out.1 HB.out.2.1 (by have:=HB.out;omega) (HF.out.below A1.out) HO.out)
 have CR:=hid (fun v (a:Ab w v)=>fS fa ls ms pt mt ct F v HB.out.1 HB.out.2.1 (by have:=HB.out;omega) (HF.out.below a) HO.out)
 have T1:=fJ HO.out
 obtain⟨E,hE⟩:=aB (enc fa.toNat (sideN mt) ls ms F)
 have EB: ∀i,E i<256:=by rw[<- hE];exact fun i=>kC (by omega) (by omega)
 rw[hE,hN]at CE
 rw[hE,hN]at CR
 have HEB:=hid EB
 clear T1 hE EB hN
 go_wp2_with fail
 refine CE.out.mono ?_
 rintro e9 v2 ⟨gb,rfl,b2,l2,r2⟩
 have A2:Hid (Ab w v2):=A1.out.trans b2
 have R2:=hid (Ab.heap b2 R1.out)
 have E2:=hid r2
 clear b2 l2 r2 CE A1 R1 y0 y1 y2 y3
 have y0:=aA 0 R2.out
 have y1:=aA 1 R2.out
 have y2:=aA 2 R2.out
 have y3:=aA 3 R2.out
 go_wp2_with fail
 refine(CR.out v2 A2.out).mono ?_
 rintro e9 vx ⟨gd,cd,rfl,b3,o3⟩
 have AX:Hid (Ab w vx):=A2.out.trans b3
 have E3:=hid (Sh.aV E2.out b3)
 have D3:Hid (IsW .u8 256 vx (some ⟨gd,0,none⟩) N E):=by
  obtain⟨a0,cp0,e0,i0,-⟩:=T8.Own.at o3 (fun x hx=>by
   obtain⟨j,hj,rfl⟩:=List.mem_map.1 hx
   exact HEB.out j)
  rw[List.length_map,List.length_range]at e0 i0
  injection e0 with e1 e2 e3
  subst e1
  exact i0.congr (fun j hj=>by simp[List.getD,hj])
 clear b3 o3 CR A2 R2 E2 y0 y1 y2 y3
 have CV1:=aJ (w:=vx) (a:=some ⟨gb,0,none⟩) (n:=N) (cap:=N) (f:=E) underlying26 underlying5 underlying9 (dE E3.out (fun i _=>HEB.out i)) (fun e=>by cases e)
 have CV2:=aJ (w:=vx) (a:=some ⟨gd,0,none⟩) (n:=N) (cap:=cd) (f:=E) underlying26 underlying5 underlying9 D3.out (fun e=>by cases e)
 have SS:=lN (f:=E) (g:=E) (n:=N) (m:=N) (fun i _=>HEB.out i) (fun i _=>HEB.out i) rfl (fun _ _=>rfl)
 have CB:=hid (fK pb L cb f vx (by have:=HB.out;omega) (Hf.out.below AX.out) HE.out)
 have CD:=hid (fun v (a:Ab w v)=>iK pb L cb f v (by have:=HB.out;omega) (Hf.out.below a) HE.out)
 obtain⟨er,hr⟩:=aB (dErr L f)
 rw[hr]at CB
 rw[hr]at CD
 clear hr
 go_wp2_with fail
 refine CB.out.mono ?_
 rintro e9 v6 ⟨rfl,b6⟩
 have A6:Hid (Ab w v6):=AX.out.trans b6
 clear b6 CB AX
 obtain⟨X7,T7⟩:=aD v6 (.cells #[.int .i64 0,.int .u32 0,.int .u32 0,.slice none 0 0] 25)
 go_upto_region 8 with fail
 generalize hV:World.alloc v6 _=v7 at*
 obtain⟨gt7,hgu⟩:=aB v6.heap.size
 rw[hgu]at T7 ⊢
 clear hV hgu
 have A7:Hid (Ab w v7):=A6.out.trans X7.out
 clear A6 X7
 go_wp2_with fail
 refine(CD.out v7 A7.out).mono ?_
 rintro e9 v8 ⟨rfl,b8⟩
 have A8:Hid (Ab w v8):=A7.out.trans b8
 have T8x:=hid (Ab.heap b8 T7.out)
 clear b8 CD A7 T7
 obtain⟨X9,T9⟩:=aD v8 (.cells #[.int .i64 0,.int .u32 0,.int .u32 0,.slice none 0 0] 25)
 go_upto_region 9 with fail
 generalize hV:World.alloc v8 _=v9 at*
 obtain⟨gt9,hgu⟩:=aB v8.heap.size
 rw[hgu]at T9 ⊢
 clear hV hgu
 have A9:Hid (Ab w v9):=A8.out.trans X9.out
 have TU9:=hid (X9.out.heap T8x.out)
 have CS:=hid (oQ v9)
 clear A8 T8x X9
 have t0:=aA 0 TU9.out
 have t1:=aA 1 TU9.out
 have t2:=aA 2 TU9.out
 have t3:=aA 3 TU9.out
 have z0:=aA 0 T9.out
 have z1:=aA 1 T9.out
 have z2:=aA 2 T9.out
 have z3:=aA 3 T9.out
 go_wp2_with fail
 refine CS.out.mono ?_
 rintro e9 va ⟨rfl,ba⟩
 have AA:Hid (Ab w va):=A9.out.trans ba
 clear ba CS
 go_wp2
 go_ret
 exact⟨rfl,AA.out⟩
theorem bytes_01(fa:Int)(ls ms:Nat)(pt:Option Addr)(mt ct:Nat)(F:Nat->Nat)(pb:Option Addr)(L cb:Nat)(f:Nat->Nat)(w:World)(hls:ls<4294967296)(hms:ms<4294967296)(hct:mt<=ct/\ct<=35184372088832)(hF:IsW .u32 4294967296 w pt mt F)(hL:L<=cb/\cb<=140737488355328)(hf:IsW .u8 256 w pb L f)(hfb: ∀i,f i<256)(ho:okT fa mt F ls ms=false)(he:dErr L f=0):
  Calls prog 3 #[.agg #[.int .i64 fa,.int .u32 ((ls:Nat):Int),.int .u32 ((ms:Nat):Int),.slice pt mt ct],.slice pb L cb] w fun e w'=>e=.returned (.bool true)/\Below w.heap.size w w':=by
 have HF:=hid hF
 have Hf:=hid hf
 have HB:=hid (show ls<4294967296/\ms<4294967296/\mt<=ct/\ct<=35184372088832/\L<=cb/\cb<=140737488355328 from⟨hls,hms,hct.1,hct.2,hL.1,hL.2⟩)
 have HO:=hid ho
 have HE:=hid he
 have HFB:=hid hfb
 clear hF hf hls hms hct hL ho he hfb
 obtain⟨A0,R0⟩:=aD w (.cells #[.int .i64 fa,.int .u32 ((ls:Nat):Int),.int .u32 ((ms:Nat):Int),.slice pt mt ct] 25)
 go_enter func3,ntmps3
 go_upto_region 1 with fail
 generalize hW:World.alloc w _=V0 at*
 obtain⟨gw,hgw⟩:=aB w.heap.size
 rw[hgw]at R0 ⊢
 clear hgw hW
 go_wp2_with fail
 refine(dC V0).mono ?_
 rintro e9 v1 ⟨rfl,b1⟩
 have A1:Hid (Ab w v1):=A0.out.trans b1
 have R1:=hid (Ab.heap b1 R0.out)
 clear b1 A0 R0
 have y0:=aA 0 R1.out
 have y1:=aA 1 R1.out
 have y2:=aA 2 R1.out
 have y3:=aA 3 R1.out
 have CE:=hid (jC fa ls ms pt mt ct F v1 (by have:=HB.out;omega) (HF.out.below A1.out) HO.out)
 have CR:=hid (fun v (a:Ab w v)=>iJ fa ls ms pt mt ct F v (by have:=HB.out;omega) (HF.out.below a) HO.out)
 go_wp2_with fail
 refine CE.out.mono ?_
 rintro e9 v2 ⟨rfl,b2⟩
 have A2:Hid (Ab w v2):=A1.out.trans b2
 have R2:=hid (Ab.heap b2 R1.out)
 clear b2 CE A1 R1 y0 y1 y2 y3
 have y0:=aA 0 R2.out
 have y1:=aA 1 R2.out
 have y2:=aA 2 R2.out
 have y3:=aA 3 R2.out
 go_wp2_with fail
 refine(CR.out v2 A2.out).mono ?_
 rintro e9 vx ⟨rfl,b3⟩
 have AX:Hid (Ab w vx):=A2.out.trans b3
 clear b3 CR A2 R2 y0 y1 y2 y3
 have CV1:=aJ (w:=vx) (a:=none) (n:=0) (cap:=0) (f:=fun _=>0) underlying26 underlying5 underlying9 (IsW.nil _ _ _ _ _) (fun _=>rfl)
 have DK:=dec_ok HFB.out HE.out
 have CB:=hid (dY pb L cb f vx (by have:=HB.out;omega) (Hf.out.below AX.out) HE.out)
 have CD:=hid (fun v (a:Ab w v)=>fT pb L cb f v (by have:=HB.out;omega) (Hf.out.below a) HE.out)
 obtain⟨f4,h4⟩:=aB (f 4)
 obtain⟨n6,h6⟩:=aB (num f 6)
 obtain⟨n10,h10⟩:=aB (num f 10)
 obtain⟨m5,h5⟩:=aB (f 5*f 5)
 rw[h4,h6,h10,h5]at CB
 rw[h4,h6,h10,h5]at CD
 rw[h4,h6,h10,h5]at DK
 have TL:=hid (fJ DK.1).2.2
 clear DK h4 h6 h10 h5
 go_wp2_with fail
 refine CB.out.mono ?_
 rintro e9 v6 ⟨gu,rfl,b6,l6,r6⟩
 have A6:Hid (Ab w v6):=AX.out.trans b6
 have U6:=hid r6
 clear b6 l6 r6 CB AX
 obtain⟨X7,T7⟩:=aD v6 (.cells #[.int .i64 ((f4:Nat):Int),.int .u32 ((n6:Nat):Int),.int .u32 ((n10:Nat):Int),.slice (some ⟨gu,0,none⟩) m5 m5] 25)
 go_upto_region 8 with fail
 generalize hV:World.alloc v6 _=v7 at*
 obtain⟨gt7,hgu⟩:=aB v6.heap.size
 rw[hgu]at T7 ⊢
 clear hV hgu
 have A7:Hid (Ab w v7):=A6.out.trans X7.out
 have U7:=hid (Sh.aV U6.out X7.out)
 clear A6 U6 X7
 go_wp2_with fail
 refine(CD.out v7 A7.out).mono ?_
 rintro e9 v8 ⟨gv,cv,rfl,b8,i8⟩
 have A8:Hid (Ab w v8):=A7.out.trans b8
 have U8:=hid (Sh.aV U7.out b8)
 have T8x:=hid (Ab.heap b8 T7.out)
 have I8:=hid i8
 clear b8 i8 CD A7 U7 T7
 obtain⟨X9,T9⟩:=aD v8 (.cells #[.int .i64 ((f4:Nat):Int),.int .u32 ((n6:Nat):Int),.int .u32 ((n10:Nat):Int),.slice (some ⟨gv,0,none⟩) m5 cv] 25)
 go_upto_region 9 with fail
 generalize hV:World.alloc v8 _=v9 at*
 obtain⟨gt9,hgu⟩:=aB v8.heap.size
 rw[hgu]at T9 ⊢
 clear hV hgu
 have A9:Hid (Ab w v9):=A8.out.trans X9.out
 have TU9:=hid (X9.out.heap T8x.out)
 have CS:=hid (gD ((f4:Nat):Int) ((f4:Nat):Int) n6 n6 n10 n10 (some ⟨gu,0,none⟩) (some ⟨gv,0,none⟩) m5 m5 m5 cv (dec f) (dec f) v9 (by have:=TL.out;omega) (dE (Sh.aV U8.out X9.out) (fun i _=>jU HFB.out i)) (I8.out.below X9.out))
 rw[show eqT ((f4:Nat):Int) ((f4:Nat):Int) n6 n6 n10 n10 m5 m5 (dec f) (dec f)=true from decide_eq_true ⟨rfl,rfl,rfl,rfl,fun _ _=>rfl⟩]at CS
 clear A8 U8 T8x I8 X9
 have t0:=aA 0 TU9.out
 have t1:=aA 1 TU9.out
 have t2:=aA 2 TU9.out
 have t3:=aA 3 TU9.out
 have z0:=aA 0 T9.out
 have z1:=aA 1 T9.out
 have z2:=aA 2 T9.out
 have z3:=aA 3 T9.out
 go_wp2_with fail
 refine CS.out.mono ?_
 rintro e9 va ⟨rfl,ba⟩
 have AA:Hid (Ab w va):=A9.out.trans ba
 clear ba CS
 go_wp2
 go_ret
 exact⟨rfl,AA.out⟩
theorem bytes_00(fa:Int)(ls ms:Nat)(pt:Option Addr)(mt ct:Nat)(F:Nat->Nat)(pb:Option Addr)(L cb:Nat)(f:Nat->Nat)(w:World)(hls:ls<4294967296)(hms:ms<4294967296)(hct:mt<=ct/\ct<=35184372088832)(hF:IsW .u32 4294967296 w pt mt F)(hL:L<=cb/\cb<=140737488355328)(hf:IsW .u8 256 w pb L f)(hfb: ∀i,f i<256)(ho:okT fa mt F ls ms=false)(he:dErr L f≠0):
  Calls prog 3 #[.agg #[.int .i64 fa,.int .u32 ((ls:Nat):Int),.int .u32 ((ms:Nat):Int),.slice pt mt ct],.slice pb L cb] w fun e w'=>e=.returned (.bool true)/\Below w.heap.size w w':=by
 have HF:=hid hF
 have Hf:=hid hf
 have HB:=hid (show ls<4294967296/\ms<4294967296/\mt<=ct/\ct<=35184372088832/\L<=cb/\cb<=140737488355328 from⟨hls,hms,hct.1,hct.2,hL.1,hL.2⟩)
 have HO:=hid ho
 have HE:=hid he
 have HFB:=hid hfb
 clear hF hf hls hms hct hL ho he hfb
 obtain⟨A0,R0⟩:=aD w (.cells #[.int .i64 fa,.int .u32 ((ls:Nat):Int),.int .u32 ((ms:Nat):Int),.slice pt mt ct] 25)
 go_enter func3,ntmps3
 go_upto_region 1 with fail
 generalize hW:World.alloc w _=V0 at*
 obtain⟨gw,hgw⟩:=aB w.heap.size
 rw[hgw]at R0 ⊢
 clear hgw hW
 go_wp2_with fail
 refine(dC V0).mono ?_
 rintro e9 v1 ⟨rfl,b1⟩
 have A1:Hid (Ab w v1):=A0.out.trans b1
 have R1:=hid (Ab.heap b1 R0.out)
 clear b1 A0 R0
 have y0:=aA 0 R1.out
 have y1:=aA 1 R1.out
 have y2:=aA 2 R1.out
 have y3:=aA 3 R1.out
 have CE:=hid (jC fa ls ms pt mt ct F v1 (by have:=HB.out;omega) (HF.out.below A1.out) HO.out)
 have CR:=hid (fun v (a:Ab w v)=>iJ fa ls ms pt mt ct F v (by have:=HB.out;omega) (HF.out.below a) HO.out)
 go_wp2_with fail
 refine CE.out.mono ?_
 rintro e9 v2 ⟨rfl,b2⟩
 have A2:Hid (Ab w v2):=A1.out.trans b2
 have R2:=hid (Ab.heap b2 R1.out)
 clear b2 CE A1 R1 y0 y1 y2 y3
 have y0:=aA 0 R2.out
 have y1:=aA 1 R2.out
 have y2:=aA 2 R2.out
 have y3:=aA 3 R2.out
 go_wp2_with fail
 refine(CR.out v2 A2.out).mono ?_
 rintro e9 vx ⟨rfl,b3⟩
 have AX:Hid (Ab w vx):=A2.out.trans b3
 clear b3 CR A2 R2 y0 y1 y2 y3
 have CV1:=aJ (w:=vx) (a:=none) (n:=0) (cap:=0) (f:=fun _=>0) underlying26 underlying5 underlying9 (IsW.nil _ _ _ _ _) (fun _=>rfl)
 have CB:=hid (fK pb L cb f vx (by have:=HB.out;omega) (Hf.out.below AX.out) HE.out)
 have CD:=hid (fun v (a:Ab w v)=>iK pb L cb f v (by have:=HB.out;omega) (Hf.out.below a) HE.out)
 obtain⟨er,hr⟩:=aB (dErr L f)
 rw[hr]at CB
 rw[hr]at CD
 clear hr
 go_wp2_with fail
 refine CB.out.mono ?_
 rintro e9 v6 ⟨rfl,b6⟩
 have A6:Hid (Ab w v6):=AX.out.trans b6
 clear b6 CB AX
 obtain⟨X7,T7⟩:=aD v6 (.cells #[.int .i64 0,.int .u32 0,.int .u32 0,.slice none 0 0] 25)
 go_upto_region 8 with fail
 generalize hV:World.alloc v6 _=v7 at*
 obtain⟨gt7,hgu⟩:=aB v6.heap.size
 rw[hgu]at T7 ⊢
 clear hV hgu
 have A7:Hid (Ab w v7):=A6.out.trans X7.out
 clear A6 X7
 go_wp2_with fail
 refine(CD.out v7 A7.out).mono ?_
 rintro e9 v8 ⟨rfl,b8⟩
 have A8:Hid (Ab w v8):=A7.out.trans b8
 have T8x:=hid (Ab.heap b8 T7.out)
 clear b8 CD A7 T7
 obtain⟨X9,T9⟩:=aD v8 (.cells #[.int .i64 0,.int .u32 0,.int .u32 0,.slice none 0 0] 25)
 go_upto_region 9 with fail
 generalize hV:World.alloc v8 _=v9 at*
 obtain⟨gt9,hgu⟩:=aB v8.heap.size
 rw[hgu]at T9 ⊢
 clear hV hgu
 have A9:Hid (Ab w v9):=A8.out.trans X9.out
 have TU9:=hid (X9.out.heap T8x.out)
 have CS:=hid (oQ v9)
 clear A8 T8x X9
 have t0:=aA 0 TU9.out
 have t1:=aA 1 TU9.out
 have t2:=aA 2 TU9.out
 have t3:=aA 3 TU9.out
 have z0:=aA 0 T9.out
 have z1:=aA 1 T9.out
 have z2:=aA 2 T9.out
 have z3:=aA 3 T9.out
 go_wp2_with fail
 refine CS.out.mono ?_
 rintro e9 va ⟨rfl,ba⟩
 have AA:Hid (Ab w va):=A9.out.trans ba
 clear ba CS
 go_wp2
 go_ret
 exact⟨rfl,AA.out⟩
theorem qC(fa:Int)(ls ms:Nat)(pt:Option Addr)(mt ct:Nat)(F:Nat->Nat)(pb:Option Addr)(L cb:Nat)(f:Nat->Nat)(w:World)(hls:ls<4294967296)(hms:ms<4294967296)(hct:mt<=ct/\ct<=35184372088832)(hF:IsW .u32 4294967296 w pt mt F)(hL:L<=cb/\cb<=140737488355328)(hf:IsW .u8 256 w pb L f):
  Calls prog 3 #[.agg #[.int .i64 fa,.int .u32 ((ls:Nat):Int),.int .u32 ((ms:Nat):Int),.slice pt mt ct],.slice pb L cb] w fun e w'=>e=.returned (.bool true)/\Below w.heap.size w w':=by
 have h2:=hf.cutN
 have h3:=cutN_lt (L:=L) (by decide) hf.lt
 cases ho:okT fa mt F ls ms with
 | true=>
  by_cases he:dErr L (cutN L f)=0
  ·exact bytes_11 fa ls ms pt mt ct F pb L cb _ w hls hms hct hF hL h2 h3 ho he
  ·exact bytes_10 fa ls ms pt mt ct F pb L cb _ w hls hms hct hF hL h2 h3 ho he
 | false=>
  by_cases he:dErr L (cutN L f)=0
  ·exact bytes_01 fa ls ms pt mt ct F pb L cb _ w hls hms hct hF hL h2 h3 ho he
  ·exact bytes_00 fa ls ms pt mt ct F pb L cb _ w hls hms hct hF hL h2 h3 ho he
end Ti
end
section
open Go.ChangeShapes Go.WideShapes Go.ChangeAt Go.WideMaps Go.WideElems Go.RowKit Go.Deep
namespace Sh
theorem trod_int{H:Type}{enc:TypeId × Value->H}{P:Program}{w:World}{base:Nat}{spare:Nat->Bool}{held:Bool}{t:TypeId}{fuel:Nat}{v:Value}{x:DataW H × List MemPlace}(ht:P.underlying t=some (.int .i64))(h:DataW.trod enc P w base spare held fuel t [v]=some x):
  ∃b,v=.int .i64 b/\(-9223372036854775808<=b/\b<=9223372036854775807):=by
 obtain⟨k,e,_,wf⟩:=DataW.trod_int ht h
 simp at e
 simp only[Lit.wf,Bool.and_eq_true,decide_eq_true_eq]at wf
 have q1:IntKind.i64.min= -9223372036854775808:=by decide
 have q2:IntKind.i64.max=9223372036854775807:=by decide
 rw[q1,q2]at wf
 exact⟨k,e,wf⟩
theorem iL{w:World}{a:Addr}{v:Value}(h:w.cell? a=some v):a.block<w.heap.size:=by
 by_cases c:a.block<w.heap.size
 ·exact c
 ·exfalso
  have:w.heap[a.block]? =none:=by simp;omega
  simp[World.cell?,this]at h
theorem oS{α:Type}{n:Nat}{R:Nat->α->Prop}(d:α)(h: ∀i,i<n-> ∃x,R i x): ∃f:Nat->α,∀i,i<n->R i (f i):=by
 have: ∀i,∃x,i<n->R i x:=fun i=>by
  by_cases c:i<n
  ·obtain⟨x,h1⟩:=h i c
   exact⟨x,fun _=>h1⟩
  ·exact⟨d,fun h=>absurd h c⟩
 exact⟨fun i=>(this i).choose,fun i hi=>(this i).choose_spec hi⟩
end Sh
end
section
open Go.ChangeShapes Go.WideShapes Go.ChangeAt Go.WideMaps Go.WideElems Go.RowKit Go.Deep
namespace Ti
theorem trod_u8{H:Type}{enc:TypeId × Value->H}{P:Program}{w:World}{base:Nat}{spare:Nat->Bool}{held:Bool}{t:TypeId}{fuel:Nat}{v:Value}{x:DataW H × List MemPlace}(ht:P.underlying t=some (.int .u8))(h:DataW.trod enc P w base spare held fuel t [v]=some x):
  ∃b:Nat,v=.int .u8 (b:Int)/\b<256:=by
 obtain⟨k,e,_,wf⟩:=DataW.trod_int ht h
 simp at e
 simp only[Lit.wf,Bool.and_eq_true,decide_eq_true_eq]at wf
 have q1:IntKind.u8.min=0:=by decide
 have q2:IntKind.u8.max=255:=by decide
 rw[q1,q2]at wf
 exact⟨k.toNat,by rw[Int.toNat_of_nonneg wf.1];exact e,by omega⟩
theorem iM{H:Type}{enc:TypeId × Value->H}{P:Program}{w:World}{base:Nat}{spare:Nat->Bool}{held:Bool}{t:TypeId}{fuel:Nat}{v:Value}{x:DataW H × List MemPlace}(ht:P.underlying t=some (.int .u32))(h:DataW.trod enc P w base spare held fuel t [v]=some x):
  ∃b:Nat,v=.int .u32 (b:Int)/\b<4294967296:=by
 obtain⟨k,e,_,wf⟩:=DataW.trod_int ht h
 simp at e
 simp only[Lit.wf,Bool.and_eq_true,decide_eq_true_eq]at wf
 have q1:IntKind.u32.min=0:=by decide
 have q2:IntKind.u32.max=4294967295:=by decide
 rw[q1,q2]at wf
 exact⟨k.toNat,by rw[Int.toNat_of_nonneg wf.1];exact e,by omega⟩
theorem nK{H:Type}{enc:TypeId × Value->H}{W:World}{cs:List Value}{fuel:Nat}{x:DataW H × List MemPlace}
  (hf:DataW.trod enc prog W 0 (fun _=>true) true fuel 26 cs=some x) (hs: ∀elems spare,x.1=.slice elems spare->(elems.length+spare.length)*1<=reachBytes): ∃a0 len cap xs,cs=[.slice a0 len cap]/\IsW .u8 256 W a0 len xs/\len<=cap/\cap<=140737488355328/\(a0=none->len=0):=by
 rcases open_slice1 underlying26 (by kernel_rfl) hf with⟨hcs,_⟩ | ⟨a,l,c,m,n,V,D,Pl,hcs,_,hl,hm,hmm,hx0,hx⟩
 ·exact⟨none,0,0,fun _=>0,hcs,fun k hk=>by omega,Nat.le_refl _,Nat.zero_le _,fun _=>rfl⟩
 ·simp only[if_true]at hmm
  have sz:=hs _ _ (by rw[hx0])
  simp only[List.length_map,List.length_range]at sz
  have each: ∀i,i<l-> ∃x:Nat,W.cell? (a.add i)=some (.int .u8 (x:Int))/\x<256:=by
   intro i hi
   obtain⟨h1,h2⟩:=hx i (by omega)
   obtain⟨x,e,wx⟩:=trod_u8 underlying5 h2
   rw[e]at h1
   exact⟨x,h1,wx⟩
  obtain⟨f,hf⟩:=Sh.oS 0 each
  refine⟨some a,l,c,f,hcs,fun k hk=>⟨(hf k hk).2,?_⟩,hl,by unfold reachBytes at sz;omega,fun e=>by cases e⟩
  have h0:=(hf k hk).1
  have z:=(hf 0 (by omega)).1
  obtain⟨b,off,spot⟩:=a
  have hspot:spot=none:=by simpa [Addr.add]using World.cell?_spot z
  subst hspot
  rw[Sh.eU]at h0
  exact⟨b,off,rfl,Sh.iL h0,h0⟩
theorem mA{H:Type}{enc:TypeId × Value->H}{W:World}{cs:List Value}{fuel:Nat}{x:DataW H × List MemPlace}
  (hf:DataW.trod enc prog W 0 (fun _=>true) true fuel 23 cs=some x) (hs: ∀elems spare,x.1=.slice elems spare->(elems.length+spare.length)*4<=reachBytes): ∃a0 len cap xs,cs=[.slice a0 len cap]/\IsW .u32 4294967296 W a0 len xs/\len<=cap/\cap<=35184372088832:=by
 rcases open_slice1 underlying23 (by kernel_rfl) hf with⟨hcs,_⟩ | ⟨a,l,c,m,n,V,D,Pl,hcs,_,hl,hm,hmm,hx0,hx⟩
 ·exact⟨none,0,0,fun _=>0,hcs,fun k hk=>by omega,Nat.le_refl _,Nat.zero_le _⟩
 ·simp only[if_true]at hmm
  have sz:=hs _ _ (by rw[hx0])
  simp only[List.length_map,List.length_range]at sz
  have each: ∀i,i<l-> ∃x:Nat,W.cell? (a.add i)=some (.int .u32 (x:Int))/\x<4294967296:=by
   intro i hi
   obtain⟨h1,h2⟩:=hx i (by omega)
   obtain⟨x,e,wx⟩:=iM underlying22 h2
   rw[e]at h1
   exact⟨x,h1,wx⟩
  obtain⟨f,hf⟩:=Sh.oS 0 each
  refine⟨some a,l,c,f,hcs,fun k hk=>⟨(hf k hk).2,?_⟩,hl,by unfold reachBytes at sz;omega⟩
  have h0:=(hf k hk).1
  have z:=(hf 0 (by omega)).1
  obtain⟨b,off,spot⟩:=a
  have hspot:spot=none:=by simpa [Addr.add]using World.cell?_spot z
  subst hspot
  rw[Sh.eU]at h0
  exact⟨b,off,rfl,Sh.iL h0,h0⟩
theorem array4t{c:Array Value}(h:c.size=4): ∃v0 v1 v2 v3,c= #[v0,v1,v2,v3]:=by
 rcases c with⟨l⟩
 match l,h with
 | [v0,v1,v2,v3],_=>exact⟨v0,v1,v2,v3,rfl⟩
theorem bytes8:Try.prog.bytesOf 5=1:=by kernel_rfl
theorem bytes32:Try.prog.bytesOf 22=4:=by kernel_rfl
theorem qD{H:Type}{enc:TypeId × Value->H}{W:World}{r:Reach}{b0:Nat}{v:Value}{d:DataW H}{p:List MemPlace}(hv:Value.okWide prog W r b0 25 v)(h:DataW.Trod enc prog W 0 (fun _=>true) true 25 v d p)
  (hz: ∀parts,d=.agg parts->(DataW.weightsEach prog [3,22,22,23] parts).all (· <=reachBytes)=true):
  ∃fa ls ms pt mt ct F,v=.agg #[.int .i64 fa,.int .u32 ((ls:Nat):Int),.int .u32 ((ms:Nat):Int),.slice pt mt ct]/\(-9223372036854775808<=fa/\fa<=9223372036854775807)/\ls<4294967296/\ms<4294967296/\IsW .u32 4294967296 W pt mt F/\mt<=ct/\ct<=35184372088832:=by
 have hC:Try.prog.cellsOf 25=4:=by kernel_rfl
 have k0:Try.prog.cellsOf 3=1:=by kernel_rfl
 have k1:Try.prog.cellsOf 22=1:=by kernel_rfl
 have k2:Try.prog.cellsOf 23=1:=by kernel_rfl
 obtain⟨cs,rfl,hsz⟩:=okWide_struct underlying25 hv
 obtain⟨v0,v1,v2,v3,rfl⟩:=array4t (hsz.trans hC)
 obtain⟨fuel,hf⟩:=h
 have hf':DataW.trod enc prog W 0 (fun _=>true) true fuel 25 [v0,v1,v2,v3]=some (d,p):=by simpa [Value.cells]using hf
 obtain⟨xs,m,_,hx,hlen,hn,hel⟩:=DataW.trod_struct underlying25 hf'
 match xs,hn with
 | [x0,x1,x2,x3],_=>
  have h0:=hel 0 _ rfl
  have h1:=hel 1 _ rfl
  have h2:=hel 2 _ rfl
  have h3:=hel 3 _ rfl
  simp[k0,k1,k2]at h0 h1 h2 h3
  obtain⟨fa,rfl,i0⟩:=Sh.trod_int underlying3 h0
  obtain⟨ls,rfl,i1⟩:=iM underlying22 h1
  obtain⟨ms,rfl,i2⟩:=iM underlying22 h2
  have hzz:=hz _ (congrArg Prod.fst hx)
  obtain⟨pt,mt,ct,F,e3,i3,j3,l3⟩:=mA h3 (fun elems spare e=>by have q:=sized_slice hzz (j:=3) (t:=23) (e:=22) (elems:=elems) (spare:=spare) rfl (by rw[<- e];rfl) underlying23;rw[bytes32]at q;exact q)
  simp at e3
  subst e3
  exact⟨fa,ls,ms,pt,mt,ct,F,rfl,i0,i1,i2,i3,j3,l3⟩
theorem qE{H:Type}{P:Program}{ts:List TypeId}{ds:List (DataW H)}(h:(DataW.weightsEach P ts ds).all (· <=reachBytes)=true){j:Nat}{t:TypeId}{fs:Array Field}{parts:List (DataW H)}(ht:ts[j]? =some t)(hd:ds[j]? =some (.agg parts))(hu:P.underlying t=some (.struct fs)):
  (DataW.weightsEach P (fs.toList.map (·.type)) parts).all (· <=reachBytes)=true:=by
 refine List.all_eq_true.2 (fun n hn=> ?_)
 exact List.all_eq_true.1 h _ (DataW.weights_mem_each ht hd n (by simpa [DataW.weights,hu]using hn))
end Ti
end
end Go.Proofs.Ytmjldplhhgfnaaa
