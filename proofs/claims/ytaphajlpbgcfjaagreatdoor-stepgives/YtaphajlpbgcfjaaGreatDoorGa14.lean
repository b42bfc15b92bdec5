/-
  Some of the texts of this proof, one behind the other.
-/
import Derived.Test.YtaphajlpbgcfjaaGreatDoorGa13
set_option maxRecDepth 100000
set_option maxHeartbeats 400000000
namespace Go.Proofs.YtaphajlpbgcfjaaGreatDoor
open _root_.Go.Proofs.Tryz
section
open Go.RowKit Tf Cu Go.Deep
attribute [local go_sem] aK aL aP aQ aR aV aW aE
namespace St
open Ss Fc
theorem Dk(sd:Int)(dt gr dr:Nat)(lim:Int)(rv:Bool)(pr:Option Addr)(lr cr:Nat)(pb:Option Addr)(lb cb:Nat)(pw:Option Addr)(lw cw:Nat)(pt:Option Addr)(lt ct:Nat)(ps:Option Addr)(ls cs:Nat)(sky st:Int)(w:World)
  (LV:Hid (∀v,Ab w v->Calls prog 9 #[] v fun e w'=>e=.returned (.bool true)/\Below v.heap.size v w'))
  (GD:Hid (∀v,Ab w v->Calls prog 10 #[.agg #[.int .i64 sd,.float .f64 dt,.float .f64 gr,.float .f64 dr,.int .i64 lim,.bool rv,.slice pr lr cr],.agg #[.slice pb lb cb,.slice pw lw cw,.slice pt lt ct,.slice ps ls cs,.int .i64 sky,.int .i64 st]] v fun e w'=>e=.returned (.tuple #[.pointer none,.bool false])/\Below v.heap.size v w')):
  Calls prog 7 #[.agg #[.int .i64 sd,.float .f64 dt,.float .f64 gr,.float .f64 dr,.int .i64 lim,.bool rv,.slice pr lr cr],.agg #[.slice pb lb cb,.slice pw lw cw,.slice pt lt ct,.slice ps ls cs,.int .i64 sky,.int .i64 st]] w fun e w'=>e=.returned (.bool true)/\Below w.heap.size w w':=by
 obtain⟨A0,R0,Q0⟩:=bV w (.cells #[.int .i64 sd,.float .f64 dt,.float .f64 gr,.float .f64 dr,.int .i64 lim,.bool rv,.slice pr lr cr] 25) (.cells #[.slice pb lb cb,.slice pw lw cw,.slice pt lt ct,.slice ps ls cs,.int .i64 sky,.int .i64 st] 29)
 go_enter func7,ntmps7
 go_upto_region 1 with fail
 generalize hW:World.alloc (World.alloc w _) _=V0 at*
 obtain⟨ga,hga⟩:=aD w.heap.size
 obtain⟨gq,hgq⟩:=aD (w.heap.size+1)
 have HGQ:Hid (w.heap.size<=ga/\w.heap.size<=gq):=by show _/\_;omega
 rw[hgq]at Q0 ⊢
 rw[hga]at R0 ⊢
 clear hga hgq hW
 go_wp2_with fail
 refine(LV.out V0 A0.out).mono ?_
 rintro e9 v1 ⟨rfl,b1⟩
 have A1:Hid (Ab w v1):=A0.out.trans b1
 have R1:=hid (Ab.heap b1 R0.out)
 have Q1:=hid (Ab.heap b1 Q0.out)
 clear b1 A0 R0 Q0 LV
 have x0:=aN R1.out
 have y0:=aF Q1.out
 go_wp2_with fail
 refine(GD.out v1 A1.out).mono ?_
 rintro e9 v2 ⟨rfl,b2⟩
 have A2:Hid (Ab w v2):=A1.out.trans b2
 have R2:=hid (Ab.heap b2 R1.out)
 have Q2:=hid (Ab.heap b2 Q1.out)
 clear b2 A1 R1 Q1 GD x0 y0
 go_wp2
 go_ret
 exact⟨rfl,A2.out⟩
theorem Dl(n N M:Nat)(sd:Int)(dt gr dr:Nat)(lim:Int)(rv:Bool)(pr:Option Addr)(lr cr:Nat)(pb:Option Addr)(lb cb qw ow cw qt ot ct:Nat)(ps:Option Addr)(ls cs:Nat)(sky st:Int)(B sp:Nat->Nat)(W T U2 U3 wa tr O K sg:Nat->Int)(E:Nat->Nat)(sk1 st1:Int)(w:World)(hl:N<=6144/\M<=12288/\0<M)
  (LV:Hid (∀v,Ab w v->Calls prog 9 #[] v fun e w'=>e=.returned (.bool true)/\Below v.heap.size v w'))
  (GD:Hid (∀v,Ab w v->Calls prog 10 #[.agg #[.int .i64 sd,.float .f64 dt,.float .f64 gr,.float .f64 dr,.int .i64 lim,.bool rv,.slice pr lr cr],.agg #[.slice pb lb cb,.slice (some ⟨qw,ow,none⟩) N cw,.slice (some ⟨qt,ot,none⟩) N ct,.slice ps ls cs,.int .i64 sky,.int .i64 st]] v fun e w'=> ∃gb,e=.returned (.tuple #[.pointer (some ⟨gb,0,none⟩),.bool true])/\Below v.heap.size v w'/\GridOf n gb w'))
  (ON:Hid (∀v gb,Ab w v->GridOf n gb v->Calls prog 14 #[.pointer (some ⟨gb,0,none⟩),.agg #[.int .i64 sd,.float .f64 dt,.float .f64 gr,.float .f64 dr,.int .i64 lim,.bool rv,.slice pr lr cr],.agg #[.slice pb lb cb,.slice (some ⟨qw,ow,none⟩) N cw,.slice (some ⟨qt,ot,none⟩) N ct,.slice ps ls cs,.int .i64 sky,.int .i64 st]] v fun e w'=> ∃vv,e=.returned (.tuple #[vv,.int .i64 0])/\Below v.heap.size v w'/\OwnS v.heap.size vv lb N N M B U2 U3 sp sk1 st1 w'))
  (FL:Hid (∀v gb,Ab w v->GridOf n gb v->Calls prog 17 #[.pointer (some ⟨gb,0,none⟩),.agg #[.int .i64 sd,.float .f64 dt,.float .f64 gr,.float .f64 dr,.int .i64 lim,.bool rv,.slice pr lr cr],.agg #[.slice pb lb cb,.slice (some ⟨qw,ow,none⟩) N cw,.slice (some ⟨qt,ot,none⟩) N ct,.slice ps ls cs,.int .i64 sky,.int .i64 st]] v fun e w'=> ∃fb fo fc hb ho hc,e=.returned (.tuple #[.agg #[.slice (some ⟨fb,fo,none⟩) M fc,.slice (some ⟨hb,ho,none⟩) M hc],.int .i64 0])/\Below v.heap.size v w'/\Sh.IsI w' (some ⟨fb,fo,none⟩) M wa/\Sh.IsI w' (some ⟨hb,ho,none⟩) M tr))
  (CC:Hid (∀gb v,GridOf n gb v->Calls prog 28 #[.pointer (some ⟨gb,0,none⟩)] v fun e w'=>e=.returned (.int .i64 (N:Nat))/\w'=v))
  (CE:Hid (∀gb v,GridOf n gb v->Calls prog 32 #[.pointer (some ⟨gb,0,none⟩)] v fun e w'=>e=.returned (.int .i64 (M:Nat))/\w'=v))
  (ARD:Hid (∀gb v c s,c<N->s<4->GridOf n gb v->Calls prog 33 #[.pointer (some ⟨gb,0,none⟩),.int .i64 (c:Nat),.int .i64 (s:Nat)] v fun e w'=>e=.returned (.tuple #[.int .i64 (E (4*c+s):Nat),.int .i64 (sg (4*c+s))])/\Below v.heap.size v w'))
  (IW:Hid (Sh.IsI w (some ⟨qw,ow,none⟩) N W)) (IT:Hid (Sh.IsI w (some ⟨qt,ot,none⟩) N T)) (BT:Hid (Bnd lb N N M B U2 U3 sp))
  (TT:Hid (∀c s,c<N->s<4->E (4*c+s)<M/\(-9223372036854775807<=wa (E (4*c+s))*sg (4*c+s)/\wa (E (4*c+s))*sg (4*c+s)<=9223372036854775807)/\(-9223372036854775807<=tr (E (4*c+s))*sg (4*c+s)/\tr (E (4*c+s))*sg (4*c+s)<=9223372036854775807)/\(0<wa (E (4*c+s))*sg (4*c+s)->wa (E (4*c+s))*sg (4*c+s)=O (4*c+s)/\tr (E (4*c+s))*sg (4*c+s)=K (4*c+s)/\0<=K (4*c+s))/\(¬0<wa (E (4*c+s))*sg (4*c+s)->O (4*c+s)=0/\K (4*c+s)=0)/\(wa (E (4*c+s))*sg (4*c+s)<0->tr (E (4*c+s))*sg (4*c+s)<=0)/\(wa (E (4*c+s))*sg (4*c+s)=0->tr (E (4*c+s))*sg (4*c+s)=0)))
  (OB4:Hid (∀c s,c<N->s<=4->(0<=Sh.sumN (fun j=>O (4*c+j)) s/\Sh.sumN (fun j=>O (4*c+j)) s<=W c)/\0<=Sh.sumN (fun j=>K (4*c+j)) s/\Sh.sumN (fun j=>K (4*c+j)) s<=T c))
  (WB:Hid ((∀c,c<N->W c<=9223372036854775807)/\ ∀c,c<N->T c<=9223372036854775807))
  (SG:Hid (∀e,e<M->(0<wa e->fgt (sp e) 0=true)/\(wa e<0->flt (sp e) 0=true))):
  Calls prog 7 #[.agg #[.int .i64 sd,.float .f64 dt,.float .f64 gr,.float .f64 dr,.int .i64 lim,.bool rv,.slice pr lr cr],.agg #[.slice pb lb cb,.slice (some ⟨qw,ow,none⟩) N cw,.slice (some ⟨qt,ot,none⟩) N ct,.slice ps ls cs,.int .i64 sky,.int .i64 st]] w fun e w'=>e=.returned (.bool true)/\Below w.heap.size w w':=by
 have HL:=hid hl
 have NM:(N:Int)<=6144:=by omega
 have MM:(M:Int)<=12288:=by omega
 clear hl
 obtain⟨A0,R0,Q0⟩:=bV w (.cells #[.int .i64 sd,.float .f64 dt,.float .f64 gr,.float .f64 dr,.int .i64 lim,.bool rv,.slice pr lr cr] 25) (.cells #[.slice pb lb cb,.slice (some ⟨qw,ow,none⟩) N cw,.slice (some ⟨qt,ot,none⟩) N ct,.slice ps ls cs,.int .i64 sky,.int .i64 st] 29)
 go_enter func7,ntmps7
 go_upto_region 1 with fail
 generalize hW:World.alloc (World.alloc w _) _=V0 at*
 obtain⟨ga,hga⟩:=aD w.heap.size
 obtain⟨gq,hgq⟩:=aD (w.heap.size+1)
 have HGQ:Hid (w.heap.size<=ga/\w.heap.size<=gq):=by show _/\_;omega
 rw[hgq]at Q0 ⊢
 rw[hga]at R0 ⊢
 clear hga hgq hW
 go_wp2_with fail
 refine(LV.out V0 A0.out).mono ?_
 rintro e9 v1 ⟨rfl,b1⟩
 have A1:Hid (Ab w v1):=A0.out.trans b1
 have R1:=hid (Ab.heap b1 R0.out)
 have Q1:=hid (Ab.heap b1 Q0.out)
 clear b1 A0 R0 Q0 LV
 have x0:=aN R1.out
 obtain⟨y0,y1,y2,y3,y4,y5⟩:=aF Q1.out
 go_wp2_with fail
 refine(GD.out v1 A1.out).mono ?_
 rintro e9 v2 ⟨gb,rfl,b2,g2⟩
 have G2:=hid g2
 clear g2
 have A2:Hid (Ab w v2):=A1.out.trans b2
 have R2:=hid (Ab.heap b2 R1.out)
 have Q2:=hid (Ab.heap b2 Q1.out)
 clear b2 A1 R1 Q1 GD x0 y0 y1 y2 y3 y4 y5
 have x0:=aN R2.out
 obtain⟨y0,y1,y2,y3,y4,y5⟩:=aF Q2.out
 go_wp2_with fail
 refine(FL.out v2 gb A2.out G2.out).mono ?_
 rintro e9 u3 ⟨fb,fo,fc,hb,ho,hc,rfl,b3,i1,i2⟩
 have BB:Hid (Ab v2 (u3.alloc (.cells #[.slice (some ⟨fb,fo,none⟩) M fc,.slice (some ⟨hb,ho,none⟩) M hc] 46))):=(show Ab v2 u3 from b3).trans (bl1 _ _)
 have F3:=hid (heap_alloc_new u3 (.cells #[.slice (some ⟨fb,fo,none⟩) M fc,.slice (some ⟨hb,ho,none⟩) M hc] 46))
 have J3:=hid (i1.below (bl1 u3 (.cells #[.slice (some ⟨fb,fo,none⟩) M fc,.slice (some ⟨hb,ho,none⟩) M hc] 46)))
 have K3:=hid (i2.below (bl1 u3 (.cells #[.slice (some ⟨fb,fo,none⟩) M fc,.slice (some ⟨hb,ho,none⟩) M hc] 46)))
 clear b3 i1 i2 FL x0 y0 y1 y2 y3 y4 y5
 go_upto_region 7 with fail
 generalize hW:World.alloc u3 _=v3 at*
 obtain⟨gf,hg⟩:=aD u3.heap.size
 rw[hg]at F3 ⊢
 clear hg hW
 have A3:Hid (Ab w v3):=A2.out.trans BB.out
 have R3:=hid (Ab.heap BB.out R2.out)
 have Q3:=hid (Ab.heap BB.out Q2.out)
 have G3:=hid (G2.out.to BB.out)
 clear A2 R2 Q2 G2
 clear BB
 have x0:=aN R3.out
 obtain⟨y0,y1,y2,y3,y4,y5⟩:=aF Q3.out
 go_wp2_with fail
 refine(ON.out v3 gb A3.out G3.out).mono ?_
 rintro e9 u4 ⟨vv,rfl,b4,os⟩
 obtain⟨tp1,tc1,tp2,tc2,tp3,tc3,tp4,tc4,rfl,sn⟩:=FD os BT.out
 have BB:Hid (Ab v3 (u4.alloc (.cells #[.slice tp1 lb tc1,.slice tp2 N tc2,.slice tp3 N tc3,.slice tp4 M tc4,.int .i64 sk1,.int .i64 st1] 29))):=(show Ab v3 u4 from b4).trans (bl1 _ _)
 have St4:Hid (SeaP u4.heap.size tp1 tc1 tp2 tc2 tp3 tc3 tp4 tc4 lb N N M B U2 U3 sp sk1 st1 (u4.alloc (.cells #[.slice tp1 lb tc1,.slice tp2 N tc2,.slice tp3 N tc3,.slice tp4 M tc4,.int .i64 sk1,.int .i64 st1] 29))):=⟨sn.1,sn.2.1⟩
 clear os sn b4 x0 y0 y1 y2 y3 y4 y5 ON BT
 go_upto_region 8 with fail
 generalize hW:World.alloc u4 _=v4 at*
 obtain⟨gt,hg⟩:=aD u4.heap.size
 rw[hg]at St4 ⊢
 clear hg hW
 have A4:Hid (Ab w v4):=A3.out.trans BB.out
 have F4:=hid (Ab.heap BB.out F3.out)
 have J4:=hid (J3.out.below BB.out)
 have K4:=hid (K3.out.below BB.out)
 clear F3 J3 K3
 have R4:=hid (Ab.heap BB.out R3.out)
 have Q4:=hid (Ab.heap BB.out Q3.out)
 have G4:=hid (G3.out.to BB.out)
 clear A3 R3 Q3 G3
 clear BB
 obtain⟨UU,E9,hF1,hF2⟩:=cls v4
 have HU:=hid hF2
 have HU1:=hid hF1
 have z0: ∀u,(E9 u).cell? ⟨gf,0,none⟩=some (.slice (some ⟨fb,fo,none⟩) M fc):=fun u=>aA 0 ((hF1 u).heap F4.out)
 have z1: ∀u,(E9 u).cell? ⟨gf,1,none⟩=some (.slice (some ⟨hb,ho,none⟩) M hc):=fun u=>aA 1 ((hF1 u).heap F4.out)
 have D1:Hid (∀u,Calls prog 32 #[.pointer (some ⟨gb,0,none⟩)] (E9 u) fun e w'=>e=.returned (.int .i64 (M:Nat))/\Below (E9 u).heap.size (E9 u) w'):=fun u=>(CE.out gb _ (G4.out.to (hF1 u))).mono fun e w' h=>⟨h.1,by rw[h.2];exact Below.refl _ _⟩
 have mm:((M:Int) != (M:Int))=false:=by simp
 have DD0:=HU.out _ (Ab.refl v4).drew
 clear hF1 hF2
 refine aJ E9 (by kernel_rfl) (by kernel_rfl) DD0 ?_
 repeat(go_big_quiet_step (first
  | (go_at_call 32;exact aH HU HU1 (D1.out _))
  | (with_reducible rfl)))
 refine wpQuiet_nil ?_
 intro v5 hwz
 obtain⟨u0,hu⟩:=hwz
 have Z5:Hid (Ab v4 v5):=by rw[hu];exact HU1.out u0
 clear hu u0
 clear HU HU1 DD0 D1 z0 z1 mm
 clear E9 UU
 have A5:Hid (Ab w v5):=A4.out.trans Z5.out
 have Q5:=hid (Ab.heap Z5.out Q4.out)
 have G5:=hid (G4.out.to Z5.out)
 have S5:=hid (SeaP_to St4.out Z5.out)
 have F5:=hid (Ab.heap Z5.out F4.out)
 have J5:=hid (J4.out.below Z5.out)
 have K5:=hid (K4.out.below Z5.out)
 clear A4 Q4 G4 St4 F4 J4 K4 R4 Z5
 obtain⟨sb,so,eS⟩:=S5.out.2.2.2.2.some0 HL.out.2.2
 subst eS
 go_wp2
 go_loopw [11] (fun iv w6=> ∃c:Nat,c<=N/\iv=.int .i64 (c:Nat)/\Ab v5 w6) (fun iv _=>N - (intOf iv).toNat)
 case atStart=>exact⟨0,by omega,rfl,Ab.refl v5⟩
 case round=>
  obtain⟨c,hc,rfl,ar⟩:=hrel
  have AR:=hid ar
  clear ar
  go_wp2_with fail
  refine(CC.out gb wr (G5.out.to AR.out)).mono ?_
  rintro e9 vq ⟨rfl,hv⟩
  have hv2:=hv.symm
  subst hv2
  by_cases hcM:c<N
  ·have HC:=hid hcM
   have hcI:(c:Int)<N:=by omega
   clear hcM hc
   go_wp2
   go_loopw [12,13,14] (fun uv gv iv w6=> ∃s:Nat,s<=4/\iv=.int .i64 (s:Nat)/\uv=.int .i64 (Sh.sumN (fun j=>O (4*c+j)) s)/\gv=.int .i64 (Sh.sumN (fun j=>K (4*c+j)) s)/\Ab v5 w6) (fun _ _ iv _=>4 - (intOf iv).toNat)
   case atStart=>exact⟨0,by omega,rfl,rfl,rfl,AR.out⟩
   case round=>
    obtain⟨s,hs,rfl,rfl,rfl,ar⟩:=hrel
    have AS:=hid ar
    clear ar AR
    obtain⟨u,hu⟩:=aD (Sh.sumN (fun j=>O (4*c+j)) s)
    obtain⟨g,hg⟩:=aD (Sh.sumN (fun j=>K (4*c+j)) s)
    have UE:=hid hu
    have GE:=hid hg
    rw[hu,hg]
    clear hu hg
    by_cases hs4:s<4
    ·have HS:=hid hs4
     have hsI:(s:Int)<4:=by omega
     obtain⟨t,ht⟩:=aD (4*c+s)
     have TM:=hid (TT.out c s HC.out hs4)
     have ob1:=OB4.out c (s+1) HC.out (by omega)
     have e1:Sh.sumN (fun j=>O (4*c+j)) (s+1)=u+O t:=by
      show Sh.sumN (fun j=>O (4*c+j)) s+O (4*c+s)=_
      rw[UE.out,ht]
     have e2:Sh.sumN (fun j=>K (4*c+j)) (s+1)=g+K t:=by
      show Sh.sumN (fun j=>K (4*c+j)) s+K (4*c+s)=_
      rw[GE.out,ht]
     have wb1:=WB.out.1 c HC.out
     have wb2:=WB.out.2 c HC.out
     have uB:=OB4.out c s HC.out hs
     rw[UE.out,GE.out]at uB
     rw[e1,e2]at ob1
     have E1:=hid e1
     have E2:=hid e2
     rw[ht]at TM
     obtain⟨te,hte⟩:=aD (E t)
     obtain⟨ts,hts⟩:=aD (sg t)
     obtain⟨tq,htq⟩:=aD (O t)
     obtain⟨tt,htt⟩:=aD (K t)
     have BD:=TM.out
     rw[hte,hts,htq,htt]at BD
     rw[htq,htt]at ob1
     rw[htq]at E1
     rw[htt]at E2
     obtain⟨x,hx⟩:=aD (wa te)
     obtain⟨y,hy⟩:=aD (tr te)
     rw[hx,hy]at BD
     have AC:=hid (ARD.out gb wr c s HC.out hs4 (G5.out.to AS.out))
     rw[ht,hte,hts]at AC
     have CX1:Hid (∀v,Ab v5 v->v.cell? ⟨fb,fo+te,none⟩=some (.int .i64 x)):=fun v a=>by rw[<- hx];exact(Below.cell a (J5.out.at0 BD.1).2.1).trans (J5.out.at0 BD.1).2.2
     have CX2:Hid (∀v,Ab v5 v->v.cell? ⟨hb,ho+te,none⟩=some (.int .i64 y)):=fun v a=>by rw[<- hy];exact(Below.cell a (K5.out.at0 BD.1).2.1).trans (K5.out.at0 BD.1).2.2
     have teM:=BD.1
     have teI:(te:Int)<M:=by omega
     obtain⟨-,⟨bd1,bd2⟩,⟨bd3,bd4⟩,bp,bz,bn,b0⟩:=BD
     have BP:=hid (And.intro bp (And.intro bz (And.intro bn b0)))
     have OB:=hid (And.intro ob1 (And.intro uB (And.intro wb1 wb2)))
     clear TM ht hte hts htq htt hx hy hs4 hs bp bz bn b0 ob1 uB wb1 wb2 e1 e2
     go_wp2_with fail
     refine AC.out.mono ?_
     rintro e9 v8 ⟨rfl,b8⟩
     have A8:Hid (Ab v5 v8):=AS.out.trans b8
     clear b8
     have ya:=CX1.out _ A8.out
     have yb:=CX2.out _ A8.out
     have za:=aA 0 (Ab.heap A8.out F5.out)
     have zb:=aA 1 (Ab.heap A8.out F5.out)
     by_cases p1:0<x*ts
     ·have q:=BP.out.1 p1
      have OE:Hid (tq=x*ts):=q.1.symm
      have KE:Hid (tt=y*ts):=q.2.1.symm
      have d1:decide (0<x*ts)=true:=decide_eq_true p1
      have d2:decide (y*ts<0)=false:=decide_eq_false (by omega)
      have d3:decide (x*ts<0)=false:=decide_eq_false (by omega)
      have d4:(x*ts==0)=false:=by rw[beq_eq_false_iff_ne];omega
      have o:=OB.out
      rw[OE.out,KE.out]at o
      have u1: -9223372036854775808<=u+x*ts:=by omega
      have u2:u+x*ts<=9223372036854775807:=by omega
      have u3: -9223372036854775808<=g+y*ts:=by omega
      have u4:g+y*ts<=9223372036854775807:=by omega
      clear q o p1
      go_wp2
      refine⟨⟨s+1,by have:=HS.out;omega,by simp,?_,?_,A8.out⟩,by have:=HS.out;simp[intOf];omega⟩
      ·show Value.int .i64 _=_
       rw[E1.out,OE.out]
      ·show Value.int .i64 _=_
       rw[E2.out,KE.out]
     ·have q:=BP.out.2.1 (by omega)
      have OE:Hid (tq=0):=q.1
      have KE:Hid (tt=0):=q.2
      have d1:decide (0<x*ts)=false:=decide_eq_false p1
      by_cases p2:x*ts<0
      ·have d3:decide (x*ts<0)=true:=decide_eq_true p2
       have d2:decide (0<y*ts)=false:=decide_eq_false (by have:=BP.out.2.2.1 p2;omega)
       have d4:(x*ts==0)=false:=by rw[beq_eq_false_iff_ne];omega
       clear q p1 p2
       go_wp2
       refine⟨⟨s+1,by have:=HS.out;omega,by simp,?_,?_,A8.out⟩,by have:=HS.out;simp[intOf];omega⟩
       ·show Value.int .i64 _=_
        rw[E1.out,OE.out];simp
       ·show Value.int .i64 _=_
        rw[E2.out,KE.out];simp
      ·have z:x*ts=0:=by omega
       have d3:decide (x*ts<0)=false:=decide_eq_false p2
       have d4:(x*ts==0)=true:=by rw[z];rfl
       have d5:(y*ts != 0)=false:=by rw[BP.out.2.2.2 z];rfl
       clear q p1 p2 z
       go_wp2
       refine⟨⟨s+1,by have:=HS.out;omega,by simp,?_,?_,A8.out⟩,by have:=HS.out;simp[intOf];omega⟩
       ·show Value.int .i64 _=_
        rw[E1.out,OE.out];simp
       ·show Value.int .i64 _=_
        rw[E2.out,KE.out];simp
    ·obtain rfl:s=4:=by omega
     have ob:=OB4.out c 4 HC.out (by omega)
     rw[UE.out,GE.out]at ob
     obtain⟨x,hx⟩:=aD (W c)
     obtain⟨h,hh⟩:=aD (T c)
     rw[hx,hh]at ob
     have ya:wr.cell? ⟨qw,ow+c,none⟩=some (.int .i64 x):=by rw[<- hx];exact((IW.out.below (A5.out.trans AS.out)).at0 HC.out).2.2
     have yb:wr.cell? ⟨qt,ot+c,none⟩=some (.int .i64 h):=by rw[<- hh];exact((IT.out.below (A5.out.trans AS.out)).at0 HC.out).2.2
     have y1:=aA 1 (Ab.heap AS.out Q5.out)
     have y2:=aA 2 (Ab.heap AS.out Q5.out)
     have d1:decide (x<u)=false:=decide_eq_false (by omega)
     have d2:decide (h<g)=false:=decide_eq_false (by omega)
     clear ob hx hh hs hs4
     go_wp2
     exact⟨⟨c+1,by have:=HC.out;omega,by simp,AS.out⟩,by have:=HC.out;simp[intOf];omega⟩
  ·have e6:N=c:=by omega
   subst e6
   clear hcM
   go_wp2
   go_loopw [19] (fun iv w6=> ∃c:Nat,c<=M/\iv=.int .i64 (c:Nat)/\Ab v5 w6) (fun iv _=>M - (intOf iv).toNat)
   case atStart=>exact⟨0,by omega,rfl,AR.out⟩
   case round=>
    obtain⟨k,hk,rfl,ar⟩:=hrel
    clear AR
    have AR:=hid ar
    clear ar
    go_wp2_with fail
    refine(CE.out gb wr (G5.out.to AR.out)).mono ?_
    rintro e9 vq ⟨rfl,hv⟩
    have hv2:=hv.symm
    subst hv2
    by_cases hkM:k<M
    ·have HK:=hid hkM
     have hkI:(k:Int)<M:=by omega
     have sgn:=SG.out k hkM
     obtain⟨x,hx⟩:=aD (wa k)
     obtain⟨z,hz⟩:=aD (sp k)
     rw[hx,hz]at sgn
     have ya:wr.cell? ⟨fb,fo+k,none⟩=some (.int .i64 x):=by rw[<- hx];exact((J5.out.below AR.out).at0 hkM).2.2
     have yb:wr.cell? ⟨sb,so+k,none⟩=some (.float .f64 z):=by rw[<- hz];exact((S5.out.2.2.2.2.below AR.out).at0 hkM).2.2
     have za:=aA 0 (Ab.heap AR.out F5.out)
     have zb:=aA 3 (Ab.heap AR.out S5.out.1)
     clear hx hz hkM hk
     by_cases p1:0<x
     ·have d1:decide (0<x)=true:=decide_eq_true p1
      have d3:decide (x<0)=false:=decide_eq_false (by omega)
      have d2:=sgn.1 p1
      clear sgn p1
      go_wp2
      exact⟨⟨k+1,by have:=HK.out;omega,by simp,AR.out⟩,by have:=HK.out;simp[intOf];omega⟩
     ·have d1:decide (0<x)=false:=decide_eq_false p1
      by_cases p2:x<0
      ·have d3:decide (x<0)=true:=decide_eq_true p2
       have d2:=sgn.2 p2
       clear sgn p1 p2
       go_wp2
       exact⟨⟨k+1,by have:=HK.out;omega,by simp,AR.out⟩,by have:=HK.out;simp[intOf];omega⟩
      ·have d3:decide (x<0)=false:=decide_eq_false p2
       clear sgn p1 p2
       go_wp2
       exact⟨⟨k+1,by have:=HK.out;omega,by simp,AR.out⟩,by have:=HK.out;simp[intOf];omega⟩
    ·have e6:M=k:=by omega
     subst e6
     go_wp2
     go_ret
     exact⟨rfl,A5.out.trans AR.out⟩
theorem dt_pos{sd:Int}{dt gr dr:Nat}{lim:Int}{lr:Nat}{R:Nat->Int × Int × Int × Int}(h:plE sd dt gr dr lim lr R=0):fgt dt 0=true:=by
 unfold plE at h
 split at h
 ·exact absurd h (by decide)
 ·split at h
  ·exact absurd h (by decide)
  ·rename_i q
   have q2:=Classical.not_not.1 q
   have b:=q2.1
   unfold btw at b
   rw[q2.2.1]at b
   simp only[Bool.or_false,Bool.and_eq_true]at b
   exact b.1.1
theorem AJ(n:Nat)(F:Nat->Int)(t:Nat):(if F (eE n t)*eS n t<0 then 0 else F (eE n t)*eS n t)=Sh.og n F t:=by
 unfold Sh.og
 split<;>split<;>omega
theorem sum_le{f:Nat->Int}{m s:Nat}(h: ∀i,i<m->0<=f i)(hs:s<=m):0<=Sh.sumN f s/\Sh.sumN f s<=Sh.sumN f m:=⟨Sh.fN (fun i hi=>h i (by omega)),Sh.eI h hs⟩
theorem sign21{n G dt D lr:Nat}{lim:Int}{R:Nat->Int × Int × Int × Int}{B:Nat->Nat}{W T:Nat->Int}{S:Nat->Nat}{sky st:Int}{w:World}{pb pw:Option Addr}(hp:okP n G dt D lr R)(h:okS n B W T S sky st)(pd:fgt dt 0=true)(i1:IsFl w pb (6*n*n) B)(i2:Sh.IsI w pw (6*n*n) W){e:Nat}(he:e<12*n*n):
  (0<waF n lim G dt D B W S e->fgt (spE n G dt D B W S e) 0=true)/\(waF n lim G dt D B W S e<0->flt (spE n G dt D B W S e) 0=true):=by
 have s:=mY n G dt D B W S e
 have k:=Sh.vU (W:=W) (F:=wtF n lim G dt D B W S) (m:=4503599627370496) hp.1.1 he h.1.2.2.1.1 ⟨by omega,by omega⟩ (fun _ he=>vW hp h he)
 have e0:wtF n lim G dt D B W S e=flB n lim B W (spE n G dt D B W S) dt e:=rfl
 have e1:waF n lim G dt D B W S e=Sh.allF n W (wtF n lim G dt D B W S) e:=rfl
 rw[e1]
 rcases sign_fl (lim:=lim) hp.1 i1 i2 hp.2.1.2.1 pd he s.1 with q | q | q | q
 ·have d:=of_decide_eq_false q.2.2.2
  rw[<- e0]at d
  exact⟨fun _=>q.1,fun z=>absurd (k.1 (by omega)).1 (by omega)⟩
 ·have d:=of_decide_eq_false q.2.2.2
  rw[<- e0]at d
  exact⟨fun z=>absurd (k.2 (by omega)).2 (by omega),fun _=>q.2.1⟩
 ·have d:=q.2.2.2
  rw[<- e0]at d
  exact⟨fun z=>absurd (k.2 (by omega)).2 (by omega),fun z=>absurd (k.1 (by omega)).1 (by omega)⟩
 ·exfalso
  have n0:=s.2.2.1
  obtain⟨q1,q2,q3⟩:=q
  have z0:isN 0=false:=by decide
  rw[eM _ _ s.1 (by decide),n0,z0]at q1
  rw[jR _ _ s.1 (by decide),n0,z0]at q2
  rw[fH _ _ s.1 (by decide),n0,z0]at q3
  have a1:=of_decide_eq_false (show decide (rk 0<rk (spE n G dt D B W S e))=false from q1)
  have a2:=of_decide_eq_false (show decide (rk (spE n G dt D B W S e)<rk 0)=false from q2)
  have a3:=of_decide_eq_false (show decide (rk (spE n G dt D B W S e)=rk 0)=false from q3)
  generalize rk (spE n G dt D B W S e)=r at*
  generalize rk 0=r0 at*
  omega
theorem AK(OC:OneC)(FC:FlowC)(PB:PlanB)(CB:CheckB){sd:Int}{dt gr dr:Nat}{lim:Int}{rv:Bool}{pr:Option Addr}{lr cr:Nat}{R:Nat->Int × Int × Int × Int}{pb:Option Addr}{lb cb:Nat}{B:Nat->Nat}{pw:Option Addr}{lw cw:Nat}{W:Nat->Int}{pt:Option Addr}{lt ct:Nat}{T:Nat->Int}{ps:Option Addr}{ls cs:Nat}{S:Nat->Nat}{sky st:Int}(w:World)(hF:Fr w)(h64:Sh.W64 sd/\Sh.W64 lim/\Sh.W64 sky/\Sh.W64 st)(hf:dt<18446744073709551616/\gr<18446744073709551616/\dr<18446744073709551616)(hlr:lr<=281474976710656)(hl:(lb<=281474976710656/\lw<=281474976710656/\lt<=281474976710656/\ls<=281474976710656))(ir:Rn.IsRn w pr lr R)(i1:IsFl w pb lb B)(i2:Sh.IsI w pw lw W)(i3:Sh.IsI w pt lt T)(i4:IsFl w ps ls S):
  Calls prog 7 #[.agg #[.int .i64 sd,.float .f64 dt,.float .f64 gr,.float .f64 dr,.int .i64 lim,.bool rv,.slice pr lr cr],.agg #[.slice pb lb cb,.slice pw lw cw,.slice pt lt ct,.slice ps ls cs,.int .i64 sky,.int .i64 st]] w fun e w'=>e=.returned (.bool true)/\Below w.heap.size w w':=by
 have LV:=fun v (a:Ab w v)=>Di (oneF_of OC) FC v (hF.to a)
 have GD:=fun v (a:Ab w v)=>H7 PB CB sd dt gr dr lim rv pr lr cr R pb lb cb B pw lw cw W pt lt ct T ps ls cs S sky st v (hF.to a) h64 hf hlr hl (ir.below a) (i1.below a) (i2.below a) (i3.below a) (i4.below a)
 by_cases q:er2 sd dt gr dr lim lr R lb lw lt ls B W T S sky st=0
 ·have hlp:=hl
  obtain⟨sd32,pl0,ck0⟩:=er2_side q
  obtain⟨n,rfl⟩: ∃n:Nat,sd=(n:Nat):=⟨sd.toNat,by omega⟩
  have hn:1<=n/\n<=32:=by omega
  have er0:=FF (n:=n) (sd:=(n:Nat)) rfl pl0 ck0
  obtain⟨-,-,-,⟨l1,l2,l3,l4⟩,oP,oS⟩:=er_ok er0 hf (fun i hi=>(i1 i hi).1) (fun i hi=>(i4 i hi).1)
  have p1:n*n<=32*32:=Nat.mul_le_mul hn.2 hn.2
  have p0:0<n*n:=Nat.mul_pos (by omega) (by omega)
  have q6:6*n*n=6*(n*n):=Nat.mul_assoc _ _ _
  have q12:12*n*n=12*(n*n):=Nat.mul_assoc _ _ _
  have GY:=fun v (a:Ab w v)=>(GD v a).1 q
  simp only[Int.toNat_natCast]at GY
  have ON:=fun v gb (a:Ab w v) (g:GridOf n gb v)=>(OC n gb n dt gr dr lim rv pr lr cr R pb lb cb B pw lw cw W pt lt ct T ps ls cs S sky st v hn g (hF.to a) h64 hf hlr hl (ir.below a) (i1.below a) (i2.below a) (i3.below a) (i4.below a)).1 er0
  have o1:=Dd (lim:=lim) (rv:=rv) oP oS
  have bt:=yD o1
  have FN:=fun v gb (a:Ab w v) (g:GridOf n gb v)=>(FC n gb n dt gr dr lim rv pr lr cr R pb lb cb B pw lw cw W pt lt ct T ps ls cs S sky st v hn g (hF.to a) h64 hf hlr hl (ir.below a) (i1.below a) (i2.below a) (i3.below a) (i4.below a)).1 er0
  have dp:=dt_pos pl0
  subst l1
  subst l2
  subst l3
  subst l4
  have W0:=oS.1.2.2.1.1
  have HH: ∀c,c<6*n*n->0<=T c/\T c<=9223372036854775807:=fun c hc=>okT oS hc
  have O0: ∀c,c<6*n*n->Sh.oS n (waF n lim gr dt dr B W S) c<=W c:=fun c hc=>Ax oP oS hc
  have wi: ∀e,e<12*n*n->Sh.W64 (waF n lim gr dt dr B W S e):=fun e he=>by have:=Aw (lim:=lim) oP oS he;unfold Sh.W64;omega
  have ti: ∀e,e<12*n*n->Sh.W64 (trF n lim gr dt dr B W T S e):=fun e he=>by have:=tr_in (lim:=lim) oP oS he;unfold Sh.W64;omega
  have wc: ∀c,c<6*n*n->W c<=9223372036854775807:=fun c hc=>by
   have:=mZ W0 hc
   have:=oS.1.2.2.1.2
   have:=oS.1.2.1
   omega
  obtain⟨qw,ow,e2⟩:=i2.some0 (by omega)
  obtain⟨qt,ot,e3⟩:=i3.some0 (by omega)
  subst e2 e3
  refine Dl n (6*n*n) (12*n*n) n dt gr dr lim rv pr lr cr pb _ cb qw ow cw qt ot ct ps _ cs sky st B (spE n gr dt dr B W S) W T _ _ (waF n lim gr dt dr B W S) (trF n lim gr dt dr B W T S) (Sh.og n (waF n lim gr dt dr B W S)) (Tr.tks n W T (waF n lim gr dt dr B W S)) (eS n) (eE n) _ _ w (by omega) LV GY ON (fun v gb a g=>(FN v gb a g).mono fun e w' k=> ?_) (fun gb v g=>cY g) (fun gb v g=>cM g) ?_ i2 i3 bt ?_ ?_ ⟨wc,fun c hc=>(HH c hc).2⟩ (fun e he=>sign21 oP oS dp i1 i2 he)
  ·obtain⟨v1,v2,rfl,k1,k2,k3,-⟩:=k
   obtain⟨q1,c1,rfl,j1,-⟩:=oL k2 wi
   obtain⟨q2,c2,rfl,j2,-⟩:=oL k3 ti
   obtain⟨a1,a2,z1⟩:=j1.some0 (by omega)
   obtain⟨a3,a4,z2⟩:=j2.some0 (by omega)
   subst z1 z2
   exact⟨a1,a2,c1,a3,a4,c2,rfl,k1,j1,j2⟩
  ·intro gb v c s hc hs g
   have e:gT n (24*n*n) (c:Nat) (s:Nat)=(((eE n (4*c+s):Nat):Int),eS n (4*c+s)):=by
    have ht:=eU hc hs
    have hm:=cQ hn.1 ht
    rw[jP,if_pos ⟨hc,hs⟩]
    unfold gN eE eS
    by_cases q:isL n (4*c+s)=true
    ·simp[q,ht]
    ·simp[q,hm]
   have h:=jV (n:=n) (gb:=gb) (c:=(c:Nat)) (s:=(s:Nat)) (w:=v) ⟨by omega,by omega⟩ ⟨by omega,by omega⟩ g
   rwa [e]at h
  ·intro c s hc hs
   have ht:=eU hc hs
   have hm:=cQ hn.1 ht
   have eb:=fF hn.1 ht
   have a1:=Aw (lim:=lim) oP oS eb
   have a2:=tr_in (lim:=lim) oP oS eb
   have f1:trF n lim gr dt dr B W T S (eE n (4*c+s))*eS n (4*c+s)=_:=Tr.Av (W:=W) (H:=T) (F:=waF n lim gr dt dr B W S) hn.1 ht
   have k1:=Tr.lH (t:=4*c+s) (HH _ (aX ht)).1 (HH _ (aX ht)).2 (O0 _ (aX ht))
   have k2:=Tr.lH (t:=mt n (4*c+s)) (HH _ (aX hm)).1 (HH _ (aX hm)).2 (O0 _ (aX hm))
   have z1:=fun h=>Tr.fO (n:=n) (W:=W) (H:=T) (F:=waF n lim gr dt dr B W S) (t:=4*c+s) h
   have z2:=fun h=>Tr.fO (n:=n) (W:=W) (H:=T) (F:=waF n lim gr dt dr B W S) (t:=mt n (4*c+s)) h
   have m1:=AJ n (waF n lim gr dt dr B W S) (4*c+s)
   have m2:=AJ n (waF n lim gr dt dr B W S) (mt n (4*c+s))
   rw[Sh.tG hn.1 ht,Sh.Ap hn.1 ht,Int.mul_neg]at m2
   have s1:eS n (4*c+s)=1\/eS n (4*c+s)= -1:=by unfold eS;split<;>simp
   have p1: -9223372036854775807<=waF n lim gr dt dr B W S (eE n (4*c+s))*eS n (4*c+s)/\waF n lim gr dt dr B W S (eE n (4*c+s))*eS n (4*c+s)<=9223372036854775807:=by rcases s1 with h | h<;>rw[h]<;>omega
   have p2: -9223372036854775807<=trF n lim gr dt dr B W T S (eE n (4*c+s))*eS n (4*c+s)/\trF n lim gr dt dr B W T S (eE n (4*c+s))*eS n (4*c+s)<=9223372036854775807:=by rcases s1 with h | h<;>rw[h]<;>omega
   refine⟨eb,p1,p2,?_⟩
   rw[f1]
   clear p2 f1 s1 a1 a2
   generalize waF n lim gr dt dr B W S (eE n (4*c+s))*eS n (4*c+s)=X at*
   generalize Sh.og n (waF n lim gr dt dr B W S) (4*c+s)=O1 at*
   generalize Sh.og n (waF n lim gr dt dr B W S) (mt n (4*c+s))=O2 at*
   generalize Tr.tks n W T (waF n lim gr dt dr B W S) (4*c+s)=K1 at*
   generalize Tr.tks n W T (waF n lim gr dt dr B W S) (mt n (4*c+s))=K2 at*
   refine⟨fun h=> ?_,fun h=> ?_,fun h=> ?_,fun h=> ?_⟩
   ·rw[if_neg (by omega)]at m1
    rw[if_pos (by omega)]at m2
    have:=z2 m2.symm
    omega
   ·have:O1=0:=by split at m1<;>omega
    exact⟨this,z1 this⟩
   ·have:=z1 (by split at m1<;>omega)
    omega
   ·have:=z1 (by split at m1<;>omega)
    have:=z2 (by split at m2<;>omega)
    omega
  ·intro c s hc hs
   have a:=sum_le (f:=fun j=>Sh.og n (waF n lim gr dt dr B W S) (4*c+j)) (m:=4) (fun j _=>Sh.vT _ _ _) hs
   have b:=sum_le (f:=fun j=>Tr.tks n W T (waF n lim gr dt dr B W S) (4*c+j)) (m:=4) (fun j hj=>by
    have ht:=eU hc hj
    exact Tr.lH (t:=4*c+j) (HH _ (aX ht)).1 (HH _ (aX ht)).2 (O0 _ (aX ht))) hs
   have e1:=Tr.tK n W T (waF n lim gr dt dr B W S) c
   have m:=Tr.tL (n:=n) (F:=waF n lim gr dt dr B W S) (HH c hc).1 (HH c hc).2 (O0 c hc)
   have o:=O0 c hc
   rw[e1]at b
   exact⟨⟨a.1,Int.le_trans a.2 o⟩,b.1,Int.le_trans b.2 m.1⟩
 ·exact Dk sd dt gr dr lim rv pr lr cr pb lb cb pw lw cw pt lt ct ps ls cs sky st w LV (fun v a=>(GD v a).2 q)
end St
end
section
open Go.RowKit
namespace Cg
abbrev Ix:=Option Nat × Nat
abbrev Sp:=Nat->Option ((Ix->World->Prop) × (Ix->Value))
def Stable(sp:Sp):Prop:= ∀i R mk,sp i=some (R,mk)-> ∀x w w',R x w->Ab w w'->R x w'
def Fresh(W:World)(S:Nat->Option Ix)(x:Ix):Prop:= ∀b,x.1=some b->W.heap.size<=b/\ ∀i y,S i=some y->y.1≠some b
def putL(S:Nat->Option Ix)(i:Nat)(x:Ix):Nat->Option Ix:=fun k=>if k=i then some x else S k
def Has(W:World)(sp:Sp)(S:Nat->Option Ix)(w:World):Prop:=Ab W w/\ ∀i x,S i=some x->(∀b,x.1=some b->W.heap.size<=b/\b<w.heap.size)/\ ∃R mk,sp i=some (R,mk)/\R x w
theorem pZ(S:Nat->Option Ix){i j:Nat}(b c:Ix)(h:i≠j):putL (putL S i b) j c=putL (putL S j c) i b:=by
 funext k
 unfold putL
 by_cases e:k=j
 ·subst e;simp[Ne.symm h]
 ·by_cases e2:k=i
  ·subst e2;simp[e]
  ·simp[e,e2]
theorem Fresh.put{W:World}{S:Nat->Option Ix}{i:Nat}{x y:Ix}(h:Fresh W S y)(n: ∀b,y.1=some b->x.1≠some b):Fresh W (putL S i x) y:=
 fun b hb=>⟨(h b hb).1,fun k z e=>by
  unfold putL at e
  by_cases q:k=i
  ·rw[if_pos q]at e;injection e with e;rw[<- e];exact n b hb
  ·rw[if_neg q]at e;exact(h b hb).2 k z e⟩
theorem Fresh.of_put{W:World}{S:Nat->Option Ix}{i:Nat}{x y:Ix}(h:Fresh W (putL S i x) y)(hi:S i=none):Fresh W S y/\ ∀b,y.1=some b->x.1≠some b:=by
 refine⟨fun b hb=>⟨(h b hb).1,fun k z e=>(h b hb).2 k z ?_⟩,fun b hb=>(h b hb).2 i x (by simp[putL])⟩
 unfold putL
 by_cases q:k=i
 ·subst q;rw[hi]at e;cases e
 ·rw[if_neg q];exact e
theorem Has.lay{W:World}{sp:Sp}(st:Stable sp){S:Nat->Option Ix}{w w1:World}(h:Has W sp S w){i:Nat}{x:Ix}{R:Ix->World->Prop}{mk:Ix->Value}(e:sp i=some (R,mk))(a:Ab w w1)(hb: ∀b,x.1=some b->w.heap.size<=b/\b<w1.heap.size)(ho:R x w1):Has W sp (putL S i x) w1:=
 ⟨h.1.trans a,fun k c q=>by
  unfold putL at q
  by_cases z:k=i
  ·subst z
   rw[if_pos rfl]at q
   injection q with q
   subst q
   exact⟨fun b e2=>⟨Nat.le_trans h.1.size (hb b e2).1,(hb b e2).2⟩,R,mk,e,ho⟩
  ·rw[if_neg z]at q
   obtain⟨h1,R',mk',h2,h3⟩:=h.2 k c q
   exact⟨fun b e2=>⟨(h1 b e2).1,Nat.lt_of_lt_of_le (h1 b e2).2 a.size⟩,R',mk',h2,st k R' mk' h2 c w w1 h3 a⟩⟩
theorem Has.freshb{W:World}{sp:Sp}{S:Nat->Option Ix}{w:World}(h:Has W sp S w){x:Ix}(hb: ∀b,x.1=some b->w.heap.size<=b):Fresh W S x:=
 fun b e=>⟨Nat.le_trans h.1.size (hb b e),fun i y e2 e3=>by
  have h1:=((h.2 i y e2).1 b e3).2
  have h2:=hb b e
  omega⟩
section
variable {P:Program} {ops:Array Oper} {md:Region.Mode} {W:World} {sp:Sp}
def YF(P:Program)(ops:Array Oper)(W:World)(o:Oper)(v:Value)(a:Act):Prop:=
 (Region.wanted o (yielded ops a.tmps)=true/\ ∀w,Ab W w->(execOp a.eval o).run P w=.ok (.value v) w)\/(Region.wanted o (yielded ops a.tmps)=false/\v=undef)
def LayR(P:Program)(w:World)(ob:Ix->World->Prop)(mk:Ix->Value):Result Next->Prop
 | .ok (.value u) w1=> ∃x,u=mk x/\Ab w w1/\(∀b,x.1=some b->w.heap.size<=b/\b<w1.heap.size)/\ob x w1
 | .ok (.enter f args) w1=>w1=w/\Calls P f args w (fun e w2=> ∃x,e=.returned (mk x)/\Ab w w2/\(∀b,x.1=some b->w.heap.size<=b/\b<w2.heap.size)/\ob x w2)
 | _=>False
def LF(P:Program)(ops:Array Oper)(W:World)(o:Oper)(ob:Ix->World->Prop)(mk:Ix->Value)(a:Act):Prop:=
 Region.wanted o (yielded ops a.tmps)=true/\ ∀w,Ab W w->LayR P w ob mk ((execOp a.eval o).run P w)
theorem YF.same{o:Oper}{v:Value}{a a':Act}(h:YF P ops W o v a)(he:execOp a'.eval o=execOp a.eval o)(hw:Region.wanted o (yielded ops a'.tmps)=Region.wanted o (yielded ops a.tmps)):YF P ops W o v a':=by
 unfold YF at*
 rw[he,hw]
 exact h
theorem LF.same{o:Oper}{ob:Ix->World->Prop}{mk:Ix->Value}{a a':Act}(h:LF P ops W o ob mk a)(he:execOp a'.eval o=execOp a.eval o)(hw:Region.wanted o (yielded ops a'.tmps)=Region.wanted o (yielded ops a.tmps)):LF P ops W o ob mk a':=by
 unfold LF at*
 rw[he,hw]
 exact h
theorem YF.one{o:Oper}{v u:Value}{a:Act}(h:YF P ops W o v a)(k:YF P ops W o u a):v=u:=by
 rcases h with⟨w1,h⟩ | ⟨w1,rfl⟩
 ·rcases k with⟨_,k⟩ | ⟨w2,_⟩
  ·have:=(h W (Ab.refl W)).symm.trans (k W (Ab.refl W))
   injection this with e
   injection e
  ·rw[w1]at w2;cases w2
 ·rcases k with⟨w2,_⟩ | ⟨_,rfl⟩
  ·rw[w1]at w2;cases w2
  ·rfl
def fOp(P:Program)(ops:Array Oper)(W:World)(sp:Sp)(i:Nat)(K:Act->(Nat->Option Ix)->Prop)(a:Act)(S:Nat->Option Ix):Prop:=
 match ops[i]? with
 | none=>K a S
 | some o=>
  match sp i with
  | none=> ∃v,YF P ops W o v a/\K (a.put o.dst v) S
  | some (ob,mk)=>LF P ops W o ob mk a/\ ∀b,Fresh W S b->K (a.put o.dst (mk b)) (putL S i b)
theorem lJ{i:Nat}{K K':Act->(Nat->Option Ix)->Prop}{a:Act}{S:Nat->Option Ix}(h: ∀a S,K a S->K' a S)(hh:fOp P ops W sp i K a S):fOp P ops W sp i K' a S:=by
 unfold fOp at*
 cases ho:ops[i]? with
 | none=>simp only[ho]at hh ⊢;exact h _ _ hh
 | some o=>
  cases hs:sp i with
  | none=>
   simp only[ho,hs]at hh ⊢
   obtain⟨v,h1,h2⟩:=hh
   exact⟨v,h1,h _ _ h2⟩
  | some x=>
   simp only[ho,hs]at hh ⊢
   exact⟨hh.1,fun b hb=>h _ _ (hh.2 b hb)⟩
def wpAnyF(P:Program)(md:Region.Mode)(ops:Array Oper)(W:World)(sp:Sp)(Q:Act->(Nat->Option Ix)->Prop):Nat->Array Bool->Act->(Nat->Option Ix)->Prop
 | 0,listed,a,S=>Region.ready md ops listed=[]/\Q a S
 | fuel+1,listed,a,S=>
  (Region.ready md ops listed=[]->Q a S)/\
  ∀i ∈ Region.ready md ops listed,fOp P ops W sp i (wpAnyF P md ops W sp Q fuel (listed.setIfInBounds i true)) a S
def Tidy(listed:Array Bool)(S:Nat->Option Ix):Prop:= ∀k,listed.getD k true=false->S k=none
theorem vX(W:World)(S:Nat->Option Ix): ∃x,Fresh W S x:=⟨(none,0),fun b e=>by cases e⟩
theorem Tidy.set{listed:Array Bool}{S:Nat->Option Ix}(h:Tidy listed S)(j:Nat):Tidy (listed.setIfInBounds j true) S:=
 fun k hk=>by
  by_cases e:j=k
  ·subst e
   by_cases l:j<listed.size
   ·simp[l]at hk
   ·exact h j (by rw[Array.setIfInBounds_eq_of_size_le (by omega)]at hk;exact hk)
  ·rw[getD_set_ne true e]at hk;exact h k hk
theorem Tidy.lay{listed:Array Bool}{S:Nat->Option Ix}(h:Tidy listed S){j:Nat}(hj:listed.getD j true=false)(b:Ix):Tidy (listed.setIfInBounds j true) (putL S j b):=by
 refine fun k hk=> ?_
 by_cases e:j=k
 ·subst e
  by_cases l:j<listed.size
  ·simp[l]at hk
  ·simp[l]at hj
 ·rw[getD_set_ne true e]at hk
  unfold putL
  rw[if_neg (Ne.symm e)]
  exact h k hk
theorem tP{j:Nat}{oi oj:Oper}{v:Value}(hj:ops[j]? =some oj)(hap:oi.apart ops oj=true)(hsi: ∀cs b,oi.op≠ .select cs b)(hsj: ∀cs b,oj.op≠ .select cs b)
  {K:Act->(Nat->Option Ix)->Prop} {a:Act} {S:Nat->Option Ix} (hy:YF P ops W oi v a) (h:fOp P ops W sp j K (a.put oi.dst v) S):
  fOp P ops W sp j (fun a' S'=>YF P ops W oi v a'/\K (a'.put oi.dst v) S') a S:=by
 obtain⟨h1,h2,h3⟩:=Oper.apart_spec hap
 have keep: ∀u,YF P ops W oi v (a.put oj.dst u):=fun u=>hy.same (execOp_put oi hsi a oj.dst u h3) (wanted_put oi a oj.dst u h3)
 unfold fOp at*
 cases hs:sp j with
 | none=>
  simp only[hj,hs]at h ⊢
  obtain⟨u,hu,hk⟩:=h
  exact⟨u,hu.same (execOp_put oj hsj a oi.dst v h1).symm (wanted_put oj a oi.dst v h1).symm,keep u,by rw[<- Act.put_comm a v u h2];exact hk⟩
 | some x=>
  simp only[hj,hs]at h ⊢
  exact⟨h.1.same (execOp_put oj hsj a oi.dst v h1).symm (wanted_put oj a oi.dst v h1).symm,fun b hb=>⟨keep _,by rw[<- Act.put_comm a v _ h2];exact h.2 b hb⟩⟩
theorem tQ{i j:Nat}{oi oj:Oper}{ob:Ix->World->Prop}{mk:Ix->Value}(hij:i≠j)(hj:ops[j]? =some oj)(hap:oi.apart ops oj=true)(hsi: ∀cs b,oi.op≠ .select cs b)(hsj: ∀cs b,oj.op≠ .select cs b)
  {K:Act->(Nat->Option Ix)->Prop} {a:Act} {S:Nat->Option Ix} (hSj:S j=none) (hy:LF P ops W oi ob mk a) (h: ∀b,Fresh W S b->fOp P ops W sp j K (a.put oi.dst (mk b)) (putL S i b)):
  fOp P ops W sp j (fun a' S'=>LF P ops W oi ob mk a'/\ ∀b,Fresh W S' b->K (a'.put oi.dst (mk b)) (putL S' i b)) a S:=by
 obtain⟨h1,h2,h3⟩:=Oper.apart_spec hap
 have keep: ∀u,LF P ops W oi ob mk (a.put oj.dst u):=fun u=>hy.same (execOp_put oi hsi a oj.dst u h3) (wanted_put oi a oj.dst u h3)
 obtain⟨b0,hb0⟩:=vX W S
 unfold fOp at*
 cases hs:sp j with
 | none=>
  simp only[hj,hs]at h ⊢
  obtain⟨u,hu,_⟩:=h b0 hb0
  have hu':YF P ops W oj u a:=hu.same (execOp_put oj hsj a oi.dst _ h1).symm (wanted_put oj a oi.dst _ h1).symm
  refine⟨u,hu',keep u,fun b hb=> ?_⟩
  obtain⟨u2,hu2,hk⟩:=h b hb
  have e:u2=u:=YF.one (hu2.same (execOp_put oj hsj a oi.dst _ h1).symm (wanted_put oj a oi.dst _ h1).symm) hu'
  subst e
  rw[<- Act.put_comm a (mk b) u2 h2]
  exact hk
 | some x=>
  simp only[hj,hs]at h ⊢
  refine⟨(h b0 hb0).1.same (execOp_put oj hsj a oi.dst _ h1).symm (wanted_put oj a oi.dst _ h1).symm,fun c hc=>⟨keep _,fun b hb=> ?_⟩⟩
  obtain⟨q1,q2⟩:=hb.of_put hSj
  have:=(h b q1).2 c (hc.put (fun d e e2=>q2 d e2 e))
  rw[pZ S b c hij,Act.put_comm a (mk b) _ h2]at this
  exact this
theorem firstY{Q:Act->(Nat->Option Ix)->Prop}{i:Nat}{oi:Oper}{v:Value}(hi:ops[i]? =some oi)(hsp:sp i=none)(hsel: ∀(j:Nat) (o:Oper) cs b,ops[j]? =some o->o.op≠ .select cs b):
  ∀(fuel:Nat) (listed:Array Bool) (a:Act) (S:Nat->Option Ix),
   (∀j oj,ops[j]? =some oj->j≠i->listed.getD j true=false->(∀e ∈ oj.after,Region.binds md e=true->e.on≠i)->oi.apart ops oj=true)->
   i ∈ Region.ready md ops listed->YF P ops W oi v a->
   wpAnyF P md ops W sp Q fuel (listed.setIfInBounds i true) (a.put oi.dst v) S->wpAnyF P md ops W sp Q (fuel+1) listed a S:=by
 have go: ∀(K:Act->(Nat->Option Ix)->Prop) (a:Act) (S:Nat->Option Ix),YF P ops W oi v a->K (a.put oi.dst v) S->fOp P ops W sp i K a S:=fun K a S hy h=>by
  unfold fOp;simp only[hi,hsp];exact⟨v,hy,h⟩
 intro fuel
 induction fuel with
 | zero=>
  intro listed a S _ hr hy H
  refine⟨fun h=>(by rw[h]at hr;cases hr),fun j hj=> ?_⟩
  by_cases hji:j=i
  ·subst hji;exact go _ _ _ hy H
  ·have:=ready_mono hj hji
   rw[H.1]at this
   cases this
 | succ fuel ih=>
  intro listed a S hfree hr hy H
  refine⟨fun h=>(by rw[h]at hr;cases hr),fun j hj=> ?_⟩
  by_cases hji:j=i
  ·subst hji;exact go _ _ _ hy H
  ·have h1:=H.2 j (ready_mono hj hji)
   obtain⟨hjun,oj,hoj,hall⟩:=mem_ready.1 hj
   have hnot: ∀e ∈ oj.after,Region.binds md e=true->e.on≠i:=fun e he hb heq=>by
    have h1:=hall e he hb
    have h0:=(mem_ready.1 hr).1
    rw[heq]at h1
    rcases Nat.lt_or_ge i listed.size with h' | h'
    ·simp[h']at h0 h1;rw[h0]at h1;cases h1
    ·simp[Array.getElem?_eq_none h']at h1
   have h2:=tP hoj (hfree j oj hoj hji hjun hnot) (fun cs b=>hsel i oi cs b hi) (fun cs b=>hsel j oj cs b hoj) hy h1
   have hfree': ∀k ok,ops[k]? =some ok->k≠i->(listed.setIfInBounds j true).getD k true=false->
     (∀e ∈ ok.after,Region.binds md e=true->e.on≠i)->oi.apart ops ok=true:=fun k ok hk hki hun hno=>by
    refine hfree k ok hk hki ?_ hno
    by_cases hjk:j=k
    ·subst hjk;exact hjun
    ·rw[getD_set_ne true hjk]at hun;exact hun
   refine lJ (fun a' S' h3=>ih (listed.setIfInBounds j true) a' S' hfree' (ready_mono hr (Ne.symm hji)) h3.1 ?_) h2
   rw[Array.setIfInBounds_comm _ _ hji]
   exact h3.2
theorem firstL{Q:Act->(Nat->Option Ix)->Prop}{i:Nat}{oi:Oper}{ob:Ix->World->Prop}{mk:Ix->Value}(hi:ops[i]? =some oi)(hsp:sp i=some (ob,mk))(hsel: ∀(j:Nat) (o:Oper) cs b,ops[j]? =some o->o.op≠ .select cs b):
  ∀(fuel:Nat) (listed:Array Bool) (a:Act) (S:Nat->Option Ix),Tidy listed S->
   (∀j oj,ops[j]? =some oj->j≠i->listed.getD j true=false->(∀e ∈ oj.after,Region.binds md e=true->e.on≠i)->oi.apart ops oj=true)->
   i ∈ Region.ready md ops listed->LF P ops W oi ob mk a->
   (∀b,Fresh W S b->wpAnyF P md ops W sp Q fuel (listed.setIfInBounds i true) (a.put oi.dst (mk b)) (putL S i b))->wpAnyF P md ops W sp Q (fuel+1) listed a S:=by
 have go: ∀(K:Act->(Nat->Option Ix)->Prop) (a:Act) (S:Nat->Option Ix),LF P ops W oi ob mk a->(∀b,Fresh W S b->K (a.put oi.dst (mk b)) (putL S i b))->fOp P ops W sp i K a S:=fun K a S hy h=>by
  unfold fOp;simp only[hi,hsp];exact⟨hy,h⟩
 intro fuel
 induction fuel with
 | zero=>
  intro listed a S ty _ hr hy H
  refine⟨fun h=>(by rw[h]at hr;cases hr),fun j hj=> ?_⟩
  by_cases hji:j=i
  ·subst hji;exact go _ _ _ hy H
  ·obtain⟨b,hb⟩:=vX W S
   have:=ready_mono hj hji
   rw[(H b hb).1]at this
   cases this
 | succ fuel ih=>
  intro listed a S ty hfree hr hy H
  refine⟨fun h=>(by rw[h]at hr;cases hr),fun j hj=> ?_⟩
  by_cases hji:j=i
  ·subst hji;exact go _ _ _ hy H
  ·have h1:=fun b hb=>(H b hb).2 j (ready_mono hj hji)
   obtain⟨hjun,oj,hoj,hall⟩:=mem_ready.1 hj
   have hnot: ∀e ∈ oj.after,Region.binds md e=true->e.on≠i:=fun e he hb heq=>by
    have h1:=hall e he hb
    have h0:=(mem_ready.1 hr).1
    rw[heq]at h1
    rcases Nat.lt_or_ge i listed.size with h' | h'
    ·simp[h']at h0 h1;rw[h0]at h1;cases h1
    ·simp[Array.getElem?_eq_none h']at h1
   have hap:=hfree j oj hoj hji hjun hnot
   have hfree': ∀k ok,ops[k]? =some ok->k≠i->(listed.setIfInBounds j true).getD k true=false->
     (∀e ∈ ok.after,Region.binds md e=true->e.on≠i)->oi.apart ops ok=true:=fun k ok hk hki hun hno=>by
    refine hfree k ok hk hki ?_ hno
    by_cases hjk:j=k
    ·subst hjk;exact hjun
    ·rw[getD_set_ne true hjk]at hun;exact hun
   have h2:=tQ (Ne.symm hji) hoj hap (fun cs b=>hsel i oi cs b hi) (fun cs b=>hsel j oj cs b hoj) (ty j hjun) hy h1
   -- what j leaves is tidy
   have h4:fOp P ops W sp j (fun a' S'=>Tidy (listed.setIfInBounds j true) S'/\LF P ops W oi ob mk a'/\ ∀b,Fresh W S' b->wpAnyF P md ops W sp Q fuel ((listed.setIfInBounds i true).setIfInBounds j true) (a'.put oi.dst (mk b)) (putL S' i b)) a S:=by
    unfold fOp at h2 ⊢
    cases hs:sp j with
    | none=>
     simp only[hoj,hs]at h2 ⊢
     obtain⟨u,hu,hk⟩:=h2
     exact⟨u,hu,ty.set j,hk⟩
    | some x=>
     simp only[hoj,hs]at h2 ⊢
     exact⟨h2.1,fun b hb=>⟨ty.lay hjun b,h2.2 b hb⟩⟩
   refine lJ (fun a' S' h3=>ih (listed.setIfInBounds j true) a' S' h3.1 hfree' (ready_mono hr (Ne.symm hji)) h3.2.1 (fun b hb=> ?_)) h4
   rw[Array.setIfInBounds_comm _ _ hji]
   exact h3.2.2 b hb
def wpFree(P:Program)(ops:Array Oper)(W:World)(sp:Sp)(Q:Act->(Nat->Option Ix)->Prop):List Oper->Nat->Act->(Nat->Option Ix)->Prop
 | [],_,a,S=>Q a S
 | o :: rest,k,a,S=>
  match sp k with
  | none=> ∃v,YF P ops W o v a/\wpFree P ops W sp Q rest (k+1) (a.put o.dst v) S
  | some (ob,mk)=>LF P ops W o ob mk a/\ ∀b,Fresh W S b->wpFree P ops W sp Q rest (k+1) (a.put o.dst (mk b)) (putL S k b)
theorem fA{Q:Act->(Nat->Option Ix)->Prop}(hs:Region.noSelect ops=true): ∀(l:List Oper) (k:Nat) (listed:Array Bool) (a:Act) (S:Nat->Option Ix),(∀j,l[j]? =ops[k+j]?)->Tidy listed S->
  Region.lexFrom md ops l.length k listed=true->wpFree P ops W sp Q l k a S->wpAnyF P md ops W sp Q l.length listed a S
 | [],_,_,_,_,_,_,hB,h=>⟨by simpa [Region.lexFrom]using hB,h⟩
 | o :: l,k,listed,a,S,hl,ty,hB,h=>by
  have h0:ops[k]? =some o:=by simpa using(hl 0).symm
  simp only[List.length_cons,Region.lexFrom,Bool.and_eq_true]at hB
  obtain⟨⟨hr,hf⟩,hB'⟩:=hB
  have hr':k ∈ Region.ready md ops listed:=by simpa using hr
  have hl': ∀j,l[j]? =ops[k+1+j]? :=fun j=>by have:=hl (j+1);simpa [Nat.add_assoc,Nat.add_comm 1 j]using this
  cases hsp:sp k with
  | none=>
   simp only[wpFree,hsp]at h
   obtain⟨v,hy,hK⟩:=h
   exact firstY h0 hsp (Region.noSelect_spec hs) l.length listed a S (Region.free_spec h0 hf) hr' hy
    (fA hs l (k+1) _ _ _ hl' (ty.set k) hB' hK)
  | some x=>
   obtain⟨ob,mk⟩:=x
   simp only[wpFree,hsp]at h
   exact firstL h0 hsp (Region.noSelect_spec hs) l.length listed a S ty (Region.free_spec h0 hf) hr' h.1
    (fun b hb=>fA hs l (k+1) _ _ _ hl' (ty.lay (mem_ready.1 hr').1 b) hB' (h.2 b hb))
theorem lK(stb:Stable sp){i:Nat}{a:Act}{S:Nat->Option Ix}{K:Act->(Nat->Option Ix)->Prop}{K':Act->World->Prop}{Q':Exit->Act->World->Prop}{w:World}(hC:Has W sp S w)(h: ∀a S w',Has W sp S w'->K a S->K' a w')(hh:fOp P ops W sp i K a S):wpOp P ops Q' i K' a w:=by
 unfold fOp at hh
 unfold wpOp
 cases ho:ops[i]? with
 | none=>simp only[ho]at hh ⊢;exact h _ _ _ hC hh
 | some o=>
  cases hs:sp i with
  | none=>
   simp only[ho,hs]at hh ⊢
   obtain⟨v,hy,hk⟩:=hh
   rcases hy with⟨w1,hv⟩ | ⟨w1,rfl⟩
   ·rw[if_pos w1]
    refine .inl ?_
    unfold Oper.wp
    rw[hv w hC.1]
    exact h _ _ _ hC hk
   ·rw[if_neg (by rw[w1];exact Bool.false_ne_true)]
    exact h _ _ _ hC hk
  | some x=>
   obtain⟨ob,mk⟩:=x
   simp only[ho,hs]at hh ⊢
   obtain⟨⟨w1,hv⟩,hk⟩:=hh
   rw[if_pos w1]
   refine .inl ?_
   unfold Oper.wp
   have q:=hv w hC.1
   generalize(execOp a.eval o).run P w=r at q
   match r,q with
   | .ok (.value u) w2,⟨b,hu,ha,hb,ho2⟩=>
    subst hu
    exact h _ _ _ (hC.lay stb hs ha hb ho2) (hk b (hC.freshb (fun d e=>(hb d e).1)))
   | .ok (.enter f args) w2,⟨e,hc⟩=>
    subst e
    refine Calls.mono hc ?_
    rintro e2 w3 ⟨b,rfl,ha,hb,ho2⟩
    exact h _ _ _ (hC.lay stb hs ha hb ho2) (hk b (hC.freshb (fun d e=>(hb d e).1)))
end
theorem tR{P:Program}{md:Region.Mode}{ops hd:Array Oper}{W:World}{sp:Sp}{n:Nat}(hhd: ∀i,i<n->hd[i]? =ops[i]?)(hb:backB md ops n=true){i:Nat}(hi:i<n){K:Act->(Nat->Option Ix)->Prop}{a:Act}{S:Nat->Option Ix}(h:fOp P hd W sp i K a S):fOp P ops W sp i K a S:=by
 unfold fOp at*
 rw[hhd i hi]at h
 cases ho:ops[i]? with
 | none=>rw[ho]at h;exact h
 | some o=>
  have e:Region.wanted o (yielded hd a.tmps)=Region.wanted o (yielded ops a.tmps):=by
   unfold Region.wanted
   cases hg:o.guard with
   | none=>rfl
   | some jb=>
    obtain⟨j,b⟩:=jb
    have lt:=(jM hb hi ho).2 j b hg
    show(yielded hd a.tmps j==some b)=(yielded ops a.tmps j==some b)
    unfold yielded
    rw[hhd j lt]
  simp only[ho]at h ⊢
  cases hs:sp i with
  | none=>
   simp only[hs]at h ⊢
   unfold YF at*
   rw[e]at h
   exact h
  | some x=>
   simp only[hs]at h ⊢
   unfold LF at*
   rw[e]at h
   exact h
theorem iJ{P:Program}{md:Region.Mode}{ops hd:Array Oper}{W:World}{sp:Sp}(stb:Stable sp){n:Nat}{g:Nat}{Q1:Act->(Nat->Option Ix)->Prop}{Q':Exit->Act->World->Prop}(hhd: ∀i,i<n->hd[i]? =ops[i]?)(hsz:hd.size=n)(hn:n<ops.size)(hb:backB md ops n=true)(hs:Region.sinkB md ops n=true)(hc:Region.chainB md ops n=true)
  (hL: ∀a S w,Has W sp S w->Q1 a S->wpAny P md ops Q' g (finA ops.size n) a w):
  ∀(fuel:Nat) (listed lh:Array Bool) (a:Act) (S:Nat->Option Ix) (w:World),Has W sp S w->HeadInv md ops n listed->lh.size=n->(∀i,i<n->lh.getD i true=listed.getD i true)->
   wpAnyF P md hd W sp Q1 fuel lh a S->wpAny P md ops Q' (fuel+g) listed a w:=by
 intro fuel
 induction fuel with
 | zero=>
  intro listed lh a S w hC inv hl he h
  have hls:n<=listed.size:=by rw[inv.size];omega
  rcases eW (by omega) hb hls with all | ⟨i,hi,hr⟩
  ·rw[Nat.zero_add,pS hn inv all]
   exact hL a S w hC h.2
  ·have:=(fY hhd hb hl hls he hi).2 hr
   rw[h.1]at this
   cases this
 | succ fuel ih=>
  intro listed lh a S w hC inv hl he h
  have hls:n<=listed.size:=by rw[inv.size];omega
  rcases eW (by omega) hb hls with all | ⟨i0,hi0,hr0⟩
  ·have no:Region.ready md hd lh=[]:=by
    rw[List.eq_nil_iff_forall_not_mem]
    intro i hi
    obtain⟨u,o,ho,_⟩:=mem_ready.1 hi
    have lt:i<n:=by rw[<- hsz];exact(Array.getElem?_eq_some_iff.1 ho).1
    rw[he i lt,all i lt]at u
    cases u
   rw[Nat.add_comm (fuel+1) g,pS hn inv all]
   exact kA g (fuel+1) _ a w (hL a S w hC (h.1 no))
  ·rw[show fuel+1+g=(fuel+g)+1 by omega]
   refine⟨fun h0=>(by rw[h0]at hr0;cases hr0),fun i hi=> ?_⟩
   have lt:i<n:=by
    by_cases c:i<n
    ·exact c
    ·exact absurd hi (tail_waits hs hc hn inv _ i0 rfl hi0 (mem_ready.1 hr0).1 i (by omega))
   have hq:=tR hhd hb lt (h.2 i ((fY hhd hb hl hls he lt).2 hi))
   refine lK stb hC (fun a' S' w' hC' h'=>ih _ _ a' S' w' hC' (inv.set hi lt) (by simp[hl]) (fun j hj=> ?_) h') hq
   by_cases e:i=j
   ·subst e
    simp[hl,lt,show i<listed.size by omega]
   ·rw[getD_set_ne true e,getD_set_ne true e,he j hj]
theorem lM{P:Program}{id:Nat}{Q:Exit->Act->World->Prop}{a:Act}{w:World}{l:List Oper}(n:Nat)(sp:Sp)(stb:Stable sp)(hm:P.follows .mixedOrders=true)(hB:Region.lexB .any (l.take n).toArray=true)(hT:tailB l.toArray n=true)
  (h:wpFree P (l.take n).toArray w.drew sp (fun a' S=> ∀w',Has w.drew sp S w'->wpList P l.toArray Q (l.drop n) a' w') (l.take n) 0 a (fun _=>none)):(Code.region id l.toArray true).wp P Q a w:=by
 simp only[tailB,Bool.and_eq_true,decide_eq_true_eq]at hT
 obtain⟨⟨⟨⟨hn,hb⟩,hs⟩,hc⟩,hq⟩:=hT
 have hn':n<l.length:=by simpa using hn
 have htl:(l.take n).toArray.size=n:=by simp;omega
 have hdl:(l.drop n).length=l.toArray.size - n:=by simp
 refine wp_region_any hm ?_
 simp only[Region.lexB,Bool.and_eq_true]at hB
 have H:=fA (P:=P) (W:=w.drew) (sp:=sp) (md:=.any) hB.1 (l.take n) 0 (Array.replicate (l.take n).toArray.size false) a (fun _=>none) (by simp) (fun _ _=>rfl) (by simpa using hB.2) h
 have inv0:HeadInv .any l.toArray n (Array.replicate l.toArray.size false):=
  ⟨by simp,fun j oj _ hl=>(by rw[getD_replicate_false]at hl;cases hl),fun t _ ht=>getD_in (by simpa using ht) (getD_replicate_false _ _)⟩
 have:=iJ stb (P:=P) (Q':=Q) (g:=l.toArray.size - n) (hd:=(l.take n).toArray) (ops:=l.toArray) (fun i hi=>by simp[hi]) htl hn hb hs hc
  (fun a' S' w' hC' h'=>by
   have:=wpAny_of_seq (P:=P) (md:=.any) (ops:=l.toArray) (Q':=Q) (l.drop n) n (finA l.toArray.size n) a' w' (fun j=>by simp) (by rw[hdl];exact hq) (h' w' hC')
   rwa [hdl]at this)
  (l.take n).length _ _ a (fun _=>none) w.drew ⟨Ab.refl _,fun i b e=>by cases e⟩ inv0 (by simpa using htl) (fun i hi=>by
   rw[getD_in (listed:=Array.replicate l.toArray.size false) (by simp;omega) (getD_replicate_false _ _)]
   exact getD_in (by rw[Array.size_replicate];omega) (getD_replicate_false _ _)) H
 have e:(l.take n).length+(l.toArray.size - n)=l.toArray.size:=by simp;omega
 rw[e]at this
 exact this
section
variable {P:Program} {ops:Array Oper} {W:World} {sp:Sp} {Q:Act->(Nat->Option Ix)->Prop} {o:Oper} {rest:List Oper} {k:Nat} {a:Act} {S:Nat->Option Ix}
theorem dX{U:Type}{F:U->World}(HF:Hid (∀w',Ab W w'-> ∃u,w'=F u))(hs:sp k=none)(hp:plainB o.op=true)(h:wpQuiet P ops (fun w'=> ∃u,w'=F u) (fun a'=>wpFree P ops W sp Q rest (k+1) a' S) [o] a):wpFree P ops W sp Q (o :: rest) k a S:=by
 simp only[wpFree,hs]
 simp only[wpQuiet]at h
 by_cases c:Region.wanted o (yielded ops a.tmps)=true
 ·rw[if_pos c]at h
  obtain⟨v,h1,h2⟩:=h
  refine⟨v,.inl ⟨c,fun w hw=> ?_⟩,h2⟩
  have q:=h1 w (HF.out w hw)
  unfold Oper.quietAt at q
  cases e:(execOp a.eval o).run P w with
  | ok n w'=>
   obtain⟨x,rfl⟩:=qO hp e
   rw[e]at q
   obtain⟨q1,q2⟩:=q
   rw[q1,q2]
  | halt x w'=>rw[e]at q;exact absurd q (by simp[Oper.quietUpon])
 ·rw[if_neg c]at h
  exact⟨undef,.inr ⟨by simpa using c,rfl⟩,h⟩
theorem eB{ob:Ix->World->Prop}{mk:Ix->Value}(hs:sp k=some (ob,mk))(hw:Region.wanted o (yielded ops a.tmps)=true)(hr: ∀w,Ab W w->LayR P w ob mk ((execOp a.eval o).run P w))
  (h: ∀b,Fresh W S b->wpFree P ops W sp Q rest (k+1) (a.put o.dst (mk b)) (putL S k b)):wpFree P ops W sp Q (o :: rest) k a S:=by
 simp only[wpFree,hs]
 exact⟨⟨hw,hr⟩,h⟩
theorem kJ{ob:Ix->World->Prop}{mk:Ix->Value}{O:Obj}{c:Nat}(h: ∀w,Ab W w->(execOp a.eval o).run P w=.ok (.value (mk (some w.heap.size,c))) (w.alloc O))(hR: ∀w,Ab W w->ob (some w.heap.size,c) (w.alloc O)): ∀w,Ab W w->LayR P w ob mk ((execOp a.eval o).run P w):=fun w hw=>by
 rw[h w hw]
 refine⟨(some w.heap.size,c),rfl,bl1 _ _,fun b e=> ?_,hR w hw⟩
 injection e with e
 subst e
 refine⟨Nat.le_refl _,?_⟩
 show _<(w.heap.push O).size
 simp
theorem lay_call{ob:Ix->World->Prop}{mk:Ix->Value}{f:FuncId}{args:Array Value}(h1: ∀w,(execOp a.eval o).run P w=.ok (.enter f args) w)(h2: ∀w,Ab W w->Calls P f args w (fun e w2=> ∃x,e=.returned (mk x)/\Ab w w2/\(∀b,x.1=some b->w.heap.size<=b/\b<w2.heap.size)/\ob x w2)): ∀w,Ab W w->LayR P w ob mk ((execOp a.eval o).run P w):=fun w hw=>by
 rw[h1 w]
 exact⟨rfl,h2 w hw⟩
theorem rH{s:Sem Value}{w w':World}{x:Value}(h:s.run P w=.ok x w'):(do pure (Next.value (<- s)):Sem Next).run P w=.ok (.value x) w':=by
 rw[Sem.run_bind,h]
 rfl
theorem H8{t:TypeId}{u:Value}{w w':World}(ho:o.op=.alloc t)(M:(Instr.alloc t true (.tuple #[])).run P w=.ok u w'):(execOp a.eval o).run P w=.ok (.value u) w':=by
 unfold execOp
 rw[ho]
 exact rH M
theorem Dm(v:Value)(hs:sp k=none)(hw:Region.wanted o (yielded ops a.tmps)=true)(hr: ∀w,(execOp a.eval o).run P w=.ok (.value v) w)
  (h:wpFree P ops W sp Q rest (k+1) (a.put o.dst v) S):wpFree P ops W sp Q (o :: rest) k a S:=by
 simp only[wpFree,hs]
 exact⟨v,.inl ⟨hw,fun w _=>hr w⟩,h⟩
theorem nC(h:Q a S):wpFree P ops W sp Q [] k a S:=h
end
theorem Has.at{W:World}{sp:Sp}{S:Nat->Option Ix}{w:World}(h:Has W sp S w){i:Nat}{x:Ix}{R:Ix->World->Prop}{mk:Ix->Value}(e:S i=some x)(s:sp i=some (R,mk)):R x w/\ ∀b,x.1=some b->W.heap.size<=b/\b<w.heap.size:=by
 obtain⟨h1,o,m,h2,h3⟩:=h.2 i x e
 rw[s]at h2
 injection h2 with h2
 injection h2 with h2
 subst h2
 exact⟨h3,h1⟩
end Cg
end
end Go.Proofs.YtaphajlpbgcfjaaGreatDoor
