/-
  Some of the texts of this proof, one behind the other.
-/
import Derived.Deep.QuietTactic
import Derived.Test.YtjheiemgfibgpaaDoorUf06
set_option maxRecDepth 100000
set_option maxHeartbeats 400000000
namespace Go.Proofs.YtjheiemgfibgpaaDoor
open _root_.Go.Proofs.Tryd
section
open Go.RowKit Tf Cu Go.Deep
attribute [local go_sem] aK aL aM aN aO aP aR aE
namespace Spl
theorem lv_0:lsP 1 6 0=[0]:=by decide+kernel
theorem lv_1:lsP 1 6 1=[0,1,2,3]:=by decide+kernel
theorem lv_15:lsP 1 6 15=[5]:=by decide+kernel
theorem lv_16:lsP 1 6 16=[]:=by decide+kernel
theorem lv_17:lsP 1 6 17=[]:=by decide+kernel
theorem one_in22(v:World):Sh.IsI (v.alloc (.cells #[.int .i64 0] 3)) (some ⟨v.heap.size,0,none⟩) 1 (rd [0]):=by
 have h:=heap_alloc_new v (.cells #[.int .i64 0] 3)
 intro k hk
 match k,hk with
 | 0,_=>exact⟨by decide,_,0,rfl,lt_of_block h,aA 0 h⟩
theorem tJ(v:World):Sh.IsI (v.alloc (.cells #[.int .i64 0,.int .i64 1,.int .i64 2,.int .i64 3] 3)) (some ⟨v.heap.size,0,none⟩) 4 (rd [0,1,2,3]):=by
 have h:=heap_alloc_new v (.cells #[.int .i64 0,.int .i64 1,.int .i64 2,.int .i64 3] 3)
 intro k hk
 match k,hk with
 | 0,_=>exact⟨by decide,_,0,rfl,lt_of_block h,aA 0 h⟩
 | 1,_=>exact⟨by decide,_,0,rfl,lt_of_block h,aA 1 h⟩
 | 2,_=>exact⟨by decide,_,0,rfl,lt_of_block h,aA 2 h⟩
 | 3,_=>exact⟨by decide,_,0,rfl,lt_of_block h,aA 3 h⟩
theorem lk_in: ∀k,k<6-> -9223372036854775808<=lkW k/\lkW k<=9223372036854775807:=by decide+kernel
theorem lv_w0:shW (mk2 1 0 (rd [5]) (rd [])) lkW 0=0:=by decide+kernel
theorem lv_w5:shW (mk2 1 0 (rd [5]) (rd [])) lkW 5=1431655765:=by decide+kernel
theorem lv_fit:fit22 1 1 0 0 (rd [5]) (rd []) (rd []) 6 6 6 12:=by
 refine⟨⟨rfl,rfl,rfl,rfl⟩,fun i hi=> ?_,fun i hi=>absurd hi (by omega),fun i hi=>absurd hi (by omega)⟩
 match i,hi with
 | 0,_=>exact⟨by decide,by decide⟩
theorem lv_bnd:Bnd 6 6 6 12 (shB (mk2 1 0 (rd [5]) (rd [])) (fun _=>0)) (shW (mk2 1 0 (rd [5]) (rd [])) lkW) (shW (mk2 1 0 (rd [5]) (rd [])) (fun _=>0)) (shB (hs 0 (rd [])) (fun _=>0)):=by
 refine⟨fun i _=> ?_,fun i hi=> ?_,fun i _=> ?_,fun i _=> ?_⟩
 ·unfold shB;split<;>exact(by decide:0<18446744073709551616)
 ·unfold shW;split
  ·exact lk_in i hi
  ·unfold W64;decide
 ·unfold shW;split<;>exact(by unfold W64;decide:W64 0)
 ·unfold shB;split<;>exact(by decide:0<18446744073709551616)
theorem qM(SC:SplitC)(LC:LocalC)(w:World)(hF:Fr w):Calls prog 6 #[] w fun e w'=>e=.returned (.bool true)/\Below w.heap.size w w':=by
 have NW:=hid (new_at 1 w (by omega) hF)
 have HS:=hid SC
 have HL:=hid LC
 clear hF SC LC
 go_enter func6,ntmps6
 go_wp2_with fail
 refine NW.out.mono ?_
 rintro e v1 ⟨gb,rfl,a1,-,g1⟩
 have A1:Hid (Ab w v1):=a1
 have G1:Hid (GridOf 1 gb v1):=g1
 clear a1 g1 NW
 go_wp2_with fail
 refine((HS.out 1 gb 6 v1 (by omega) G1.out (by unfold W64;omega)).1 (by omega)).mono ?_
 rintro e v2 ⟨gl,gc,ge,X,rfl,b2,os⟩
 obtain⟨p,c,-,ps⟩:=kR (P:=6) (by omega) os
 have P2:Hid (PsAt 1 6 gl p c v2):=ps
 have A2:Hid (Ab w v2):=A1.out.trans b2
 have G2:=hid (G1.out.to b2)
 clear os ps b2 A1 G1
 have e6:(6:Int).toNat=6:=rfl
 rw[e6]
 have c0:v2.cell? ⟨gl,0,none⟩=some (.slice (p 0) 1 (c 0)):=by have h:=(P2.out.2 0 (by decide)).1;rw[lv_0]at h;exact h
 go_wp2_with fail
 have N1:=hid (gD (p 0) (some ⟨v2.heap.size,0,none⟩) 1 (c 0) 1 (rd [0]) (v2.alloc (.cells #[.int .i64 0] 3)) (by omega) (by have h:=(P2.out.2 0 (by decide)).2;rw[lv_0]at h;exact h.below (bl1 _ _)) (one_in22 v2))
 refine N1.out.mono ?_
 rintro e v3 ⟨rfl,b3⟩
 have B3:Hid (Ab v2 v3):=Ab.trans (bl1 v2 (.cells #[.int .i64 0] 3)) b3
 have A3:Hid (Ab w v3):=A2.out.trans B3.out
 have P3:=hid (P2.out.to B3.out)
 have G3:=hid (G2.out.to B3.out)
 clear N1 b3 A2 P2 G2 B3 c0
 have c1:v3.cell? ⟨gl,1,none⟩=some (.slice (p 1) 4 (c 1)):=by have h:=(P3.out.2 1 (by decide)).1;rw[lv_1]at h;exact h
 go_wp2_with fail
 have N1:=hid (gD (p 1) (some ⟨v3.heap.size,0,none⟩) 4 (c 1) 4 (rd [0,1,2,3]) (v3.alloc (.cells #[.int .i64 0,.int .i64 1,.int .i64 2,.int .i64 3] 3)) (by omega) (by have h:=(P3.out.2 1 (by decide)).2;rw[lv_1]at h;exact h.below (bl1 _ _)) (tJ v3))
 refine N1.out.mono ?_
 rintro e v4 ⟨rfl,b4⟩
 have B4:Hid (Ab v3 v4):=Ab.trans (bl1 v3 (.cells #[.int .i64 0,.int .i64 1,.int .i64 2,.int .i64 3] 3)) b4
 have A4:Hid (Ab w v4):=A3.out.trans B4.out
 have P4:=hid (P3.out.to B4.out)
 have G4:=hid (G3.out.to B4.out)
 clear N1 b4 A3 P3 G3 B4 c1
 have c16:v4.cell? ⟨gl,16,none⟩=some (.slice (p 16) 0 (c 16)):=by have h:=(P4.out.2 16 (by decide)).1;rw[lv_16]at h;exact h
 go_wp2_with fail
 have LK:=hid (tI v4 G4.out)
 refine LK.out.mono ?_
 rintro e v5 ⟨b1,b2,b3,b4,rfl,k5,r1,r2,r3,r4,nb⟩
 have AV:Hid (Ab v4 (v5.alloc (.cells #[.slice (some ⟨b1,0,none⟩) 6 6,.slice (some ⟨b2,0,none⟩) 6 6,.slice (some ⟨b3,0,none⟩) 6 6,.slice (some ⟨b4,0,none⟩) 12 12,.int .i64 0,.int .i64 0] 41))):=Ab.alloc (show Ab v4 v5 from k5) _
 have SR:=hid (heap_alloc_new v5 (.cells #[.slice (some ⟨b1,0,none⟩) 6 6,.slice (some ⟨b2,0,none⟩) 6 6,.slice (some ⟨b3,0,none⟩) 6 6,.slice (some ⟨b4,0,none⟩) 12 12,.int .i64 0,.int .i64 0] 41))
 have I1:Hid (IsFl (v5.alloc (.cells #[.slice (some ⟨b1,0,none⟩) 6 6,.slice (some ⟨b2,0,none⟩) 6 6,.slice (some ⟨b3,0,none⟩) 6 6,.slice (some ⟨b4,0,none⟩) 12 12,.int .i64 0,.int .i64 0] 41)) (some ⟨b1,0,none⟩) 6 (fun _=>0)):=rowIs.fl (r1.alloc _) (fun _ _=>by decide)
 have I2:Hid (Sh.IsI (v5.alloc (.cells #[.slice (some ⟨b1,0,none⟩) 6 6,.slice (some ⟨b2,0,none⟩) 6 6,.slice (some ⟨b3,0,none⟩) 6 6,.slice (some ⟨b4,0,none⟩) 12 12,.int .i64 0,.int .i64 0] 41)) (some ⟨b2,0,none⟩) 6 lkW):=Sh.row_in (r2.alloc _) lk_in
 have I3:Hid (Sh.IsI (v5.alloc (.cells #[.slice (some ⟨b1,0,none⟩) 6 6,.slice (some ⟨b2,0,none⟩) 6 6,.slice (some ⟨b3,0,none⟩) 6 6,.slice (some ⟨b4,0,none⟩) 12 12,.int .i64 0,.int .i64 0] 41)) (some ⟨b3,0,none⟩) 6 (fun _=>0)):=Sh.row_in (r3.alloc _) (fun _ _=>by decide)
 have I4:Hid (IsFl (v5.alloc (.cells #[.slice (some ⟨b1,0,none⟩) 6 6,.slice (some ⟨b2,0,none⟩) 6 6,.slice (some ⟨b3,0,none⟩) 6 6,.slice (some ⟨b4,0,none⟩) 12 12,.int .i64 0,.int .i64 0] 41)) (some ⟨b4,0,none⟩) 12 (fun _=>0)):=rowIs.fl (r4.alloc _) (fun _ _=>by decide)
 have NB:Hid (v5.heap.size≠b1/\v5.heap.size≠b2/\v5.heap.size≠b3/\v5.heap.size≠b4/\v4.heap.size<=v5.heap.size):=⟨by have:=r1.lt;omega,by have:=r2.lt;omega,by have:=r3.lt;omega,by have:=r4.lt;omega,Ab.size (show Ab v4 v5 from k5)⟩
 clear k5 r1 r2 r3 r4 nb LK c16
 go_upto_region 8 with fail
 generalize hW:World.alloc v5 _=V6 at*
 obtain⟨gs,hgs⟩:=aB v5.heap.size
 rw[hgs]at SR NB ⊢
 clear hW hgs
 have x4:=aA 4 SR.out
 have x5:=aA 5 SR.out
 have f4:=aC SR.out 4
 have SR2:Hid ((V6.setCell ⟨gs,4,none⟩ (.int .i64 9)).heap[gs]? =some (.cells #[.slice (some ⟨b1,0,none⟩) 6 6,.slice (some ⟨b2,0,none⟩) 6 6,.slice (some ⟨b3,0,none⟩) 6 6,.slice (some ⟨b4,0,none⟩) 12 12,.int .i64 9,.int .i64 0] 41)):=aI SR.out
 have y5:=aA 5 SR2.out
 have f5:=aC SR2.out 5
 have SR3:Hid (((V6.setCell ⟨gs,4,none⟩ (.int .i64 9)).setCell ⟨gs,5,none⟩ (.int .i64 8)).heap[gs]? =some (.cells #[.slice (some ⟨b1,0,none⟩) 6 6,.slice (some ⟨b2,0,none⟩) 6 6,.slice (some ⟨b3,0,none⟩) 6 6,.slice (some ⟨b4,0,none⟩) 12 12,.int .i64 9,.int .i64 8] 41)):=aI SR2.out
 have ne: ∀b:Nat,gs≠b-> ∀c o,(some ⟨b,0,none⟩:Option Addr)=some ⟨c,o,none⟩->c≠gs:=fun b h c o e=>by injection e with e;injection e with e1 e2;subst e1;exact fun q=>h q.symm
 have J1:=hid (bT (g:=gs) (k:=5) (.int .i64 8) (bT (g:=gs) (k:=4) (.int .i64 9) I1.out (ne _ NB.out.1)) (ne _ NB.out.1))
 have J2:=hid (dK (g:=gs) (k:=5) (.int .i64 8) (dK (g:=gs) (k:=4) (.int .i64 9) I2.out (ne _ NB.out.2.1)) (ne _ NB.out.2.1))
 have J3:=hid (dK (g:=gs) (k:=5) (.int .i64 8) (dK (g:=gs) (k:=4) (.int .i64 9) I3.out (ne _ NB.out.2.2.1)) (ne _ NB.out.2.2.1))
 have J4:=hid (bT (g:=gs) (k:=5) (.int .i64 8) (bT (g:=gs) (k:=4) (.int .i64 9) I4.out (ne _ NB.out.2.2.2.1)) (ne _ NB.out.2.2.2.1))
 have A7:Hid (Ab v4 ((V6.setCell ⟨gs,4,none⟩ (.int .i64 9)).setCell ⟨gs,5,none⟩ (.int .i64 8))):=(AV.out.setk NB.out.2.2.2.2 _).setk NB.out.2.2.2.2 _
 go_upto_region 10 with fail
 generalize hW:(V6.setCell ⟨gs,4,none⟩ (.int .i64 9)).setCell ⟨gs,5,none⟩ (.int .i64 8)=v7 at*
 clear hW x4 x5 f4 f5 y5 SR SR2 I1 I2 I3 I4 AV ne
 have P7:=hid (P4.out.to A7.out)
 have G7:=hid (G4.out.to A7.out)
 have B7:Hid (Ab w v7):=A4.out.trans A7.out
 clear P4 G4 A4 A7
 have K15:Hid (v7.cell? ⟨gl,15,none⟩=some (.slice (p 15) 1 (c 15))/\Sh.IsI v7 (p 15) 1 (rd [5])):=by have h:=P7.out.2 15 (by decide);rw[lv_15]at h;exact h
 have K16:Hid (v7.cell? ⟨gl,16,none⟩=some (.slice (p 16) 0 (c 16))/\Sh.IsI v7 (p 16) 0 (rd [])):=by have h:=P7.out.2 16 (by decide);rw[lv_16]at h;exact h
 have K17:Hid (v7.cell? ⟨gl,17,none⟩=some (.slice (p 17) 0 (c 17))/\Sh.IsI v7 (p 17) 0 (rd [])):=by have h:=P7.out.2 17 (by decide);rw[lv_17]at h;exact h
 have CL:Hid (∀v,Ab v7 v->Calls prog 13 #[.pointer (some ⟨gb,0,none⟩),.agg #[.slice (p 15) 1 (c 15),.slice (p 16) 0 (c 16),.slice (p 17) 0 (c 17)],.agg #[.slice (some ⟨b1,0,none⟩) 6 6,.slice (some ⟨b2,0,none⟩) 6 6,.slice (some ⟨b3,0,none⟩) 6 6,.slice (some ⟨b4,0,none⟩) 12 12,.int .i64 9,.int .i64 8]] v fun e w'=> ∃s,e=.returned (.tuple #[s,.int .i64 0])/\Below v.heap.size v w'/\OwnS v.heap.size s 6 6 6 12 (shB (mk2 1 0 (rd [5]) (rd [])) (fun _=>0)) (shW (mk2 1 0 (rd [5]) (rd [])) lkW) (shW (mk2 1 0 (rd [5]) (rd [])) (fun _=>0)) (shB (hs 0 (rd [])) (fun _=>0)) 0 8 w'/\Ab v7 v):=fun v a=>
  ((HL.out 1 gb (p 15) 1 (c 15) (rd [5]) (p 16) 0 (c 16) (rd []) (p 17) 0 (c 17) (rd []) (some ⟨b1,0,none⟩) 6 6 (fun _=>0) (some ⟨b2,0,none⟩) 6 6 lkW (some ⟨b3,0,none⟩) 6 6 (fun _=>0) (some ⟨b4,0,none⟩) 12 12 (fun _=>0) 9 8 v (by omega) (G7.out.to a) (by unfold W64;omega) (by omega) (by omega) (K15.out.2.below a) (K16.out.2.below a) (K17.out.2.below a) (J1.out.below a) (J2.out.below a) (J3.out.below a) (J4.out.below a)).1 lv_fit).mono (fun e w' ⟨s,h1,h2,h3⟩=>⟨s,h1,h2,h3,a⟩)
 have HG:Hid (gl<v7.heap.size):=P7.out.1
 have BF:=hid lv_bnd
 go_cut [2,5]from 54 to 62 (fun s2 s5 wx=> ∃gm mp1 mc1 mp2 mc2 mp3 mc3 mp4 mc4,s2=.int .i64 0/\s5=.pointer (some ⟨gm,0,none⟩)/\Ab v7 wx/\v7.heap.size<=gm/\SeaP gm mp1 mc1 mp2 mc2 mp3 mc3 mp4 mc4 6 6 6 12 (shB (mk2 1 0 (rd [5]) (rd [])) (fun _=>0)) (shW (mk2 1 0 (rd [5]) (rd [])) lkW) (shW (mk2 1 0 (rd [5]) (rd [])) (fun _=>0)) (shB (hs 0 (rd [])) (fun _=>0)) 0 8 wx/\((∀b o,mp1=some ⟨b,o,none⟩->v7.heap.size<=b)/\(∀b o,mp2=some ⟨b,o,none⟩->v7.heap.size<=b)/\(∀b o,mp3=some ⟨b,o,none⟩->v7.heap.size<=b)/\ ∀b o,mp4=some ⟨b,o,none⟩->v7.heap.size<=b))
 case first=>
  have av:Ab v7 v7:=Ab.refl _
  have KS:Hid (∀w',Ab v7 w'->Ab v7 w'/\w'.cell? ⟨gl,15,none⟩=some (.slice (p 15) 1 (c 15))/\w'.cell? ⟨gl,16,none⟩=some (.slice (p 16) 0 (c 16))/\w'.cell? ⟨gl,17,none⟩=some (.slice (p 17) 0 (c 17))/\w'.cell? ⟨gs,0,none⟩=some (.slice (some ⟨b1,0,none⟩) 6 6)/\w'.cell? ⟨gs,1,none⟩=some (.slice (some ⟨b2,0,none⟩) 6 6)/\w'.cell? ⟨gs,2,none⟩=some (.slice (some ⟨b3,0,none⟩) 6 6)/\w'.cell? ⟨gs,3,none⟩=some (.slice (some ⟨b4,0,none⟩) 12 12)/\w'.cell? ⟨gs,4,none⟩=some (.int .i64 9)/\w'.cell? ⟨gs,5,none⟩=some (.int .i64 8)):=fun w' h=>⟨h,(Below.cell h HG.out).trans K15.out.1,(Below.cell h HG.out).trans K16.out.1,(Below.cell h HG.out).trans K17.out.1,aA 0 (h.heap SR3.out),aA 1 (h.heap SR3.out),aA 2 (h.heap SR3.out),aA 3 (h.heap SR3.out),aA 4 (h.heap SR3.out),aA 5 (h.heap SR3.out)⟩
  go_region_held3 (fun w'=>Ab v7 w'/\w'.cell? ⟨gl,15,none⟩=some (.slice (p 15) 1 (c 15))/\w'.cell? ⟨gl,16,none⟩=some (.slice (p 16) 0 (c 16))/\w'.cell? ⟨gl,17,none⟩=some (.slice (p 17) 0 (c 17))/\w'.cell? ⟨gs,0,none⟩=some (.slice (some ⟨b1,0,none⟩) 6 6)/\w'.cell? ⟨gs,1,none⟩=some (.slice (some ⟨b2,0,none⟩) 6 6)/\w'.cell? ⟨gs,2,none⟩=some (.slice (some ⟨b3,0,none⟩) 6 6)/\w'.cell? ⟨gs,3,none⟩=some (.slice (some ⟨b4,0,none⟩) 12 12)/\w'.cell? ⟨gs,4,none⟩=some (.int .i64 9)/\w'.cell? ⟨gs,5,none⟩=some (.int .i64 8)) ((refine KS.out _ ?_;(with_reducible (repeat(first | assumption | apply Ab.drew | apply Ab.alloc | (refine Ab.setk ?_ (by first | assumption | exact Nat.le_refl _) _))));done)) (first
   | (go_at_call 13;refine(CL.out _ (show Ab v7 _ by with_reducible (repeat(first | assumption | apply Ab.drew | apply Ab.alloc)))).mono ?_;rintro e9 z2 ⟨vv,rfl,c2,os,lo⟩;have az2:Ab v7 z2:=Ab.trans lo c2;have LO:=hid (Ab.size lo);clear lo;first
    | (have q0:=Ab.heap c2 (aX _ _);obtain⟨mp1,mc1,mp2,mc2,mp3,mc3,mp4,mc4,rfl,q2,FIN,MM⟩:=eA (aX _ _) c2 os BF.out;have t0:=aA 0 q2;have f0:=aC q2 0;have t1:=aA 1 q2;have f1:=aC q2 1;have t2:=aA 2 q2;have f2:=aC q2 2;have t3:=aA 3 q2;have f3:=aC q2 3;have t4:=aA 4 q2;have f4:=aC q2 4;have t5:=aA 5 q2;have f5:=aC q2 5;skip)
    | (have q0:=Ab.heap c2 (heap_alloc_new _ _);obtain⟨mp1,mc1,mp2,mc2,mp3,mc3,mp4,mc4,rfl,q2,FIN,MM⟩:=eA (heap_alloc_new _ _) c2 os BF.out;have t0:=aA 0 q2;have f0:=aC q2 0;have t1:=aA 1 q2;have f1:=aC q2 1;have t2:=aA 2 q2;have f2:=aC q2 2;have t3:=aA 3 q2;have f3:=aC q2 3;have t4:=aA 4 q2;have f4:=aC q2 4;have t5:=aA 5 q2;have f5:=aC q2 5;skip)
    | (obtain⟨mp1,mc1,mp2,mc2,mp3,mc3,mp4,mc4,rfl,FIN,MM⟩:=iM os BF.out)))
  all_goals(try go_wp2_with fail)
  all_goals(try go_meet)
  all_goals first
   | (have q9:=q2;exact⟨_,_,_,_,_,_,_,_,_,rfl,rfl,(((((az2.setk (Nat.le_refl _) _).setk (Nat.le_refl _) _).setk (Nat.le_refl _) _).setk (Nat.le_refl _) _).setk (Nat.le_refl _) _).setk (Nat.le_refl _) _,Nat.le_refl _,FIN,MM.up LO.out⟩)
   | exact⟨_,_,_,_,_,_,_,_,_,rfl,rfl,az2.alloc _,az2.size,FIN,MM.up LO.out⟩
 case rest=>
  obtain⟨gm,mp1,mc1,mp2,mc2,mp3,mc3,mp4,mc4,rfl,rfl,ac,ltm,spm,mmm⟩:=hcut
  rename World=>v8
  have A8:Hid (Ab v7 v8):=ac
  have S9:=hid spm
  clear ac ltm spm mmm CL K15 K16 K17 J1 J2 J3 J4 SR3 P7 HL HG BF
  go_upto_region 11 with fail
  have G8:=hid (G7.out.to A8.out)
  have B8:Hid (Ab w v8):=B7.out.trans A8.out
  have AR:=hid (fun v (a:Ab v8 v)=>oI (n:=1) (k:=5) (by omega) (by decide) (G8.out.to a))
  have ea:arI (ArC 1 5)=1431655765:=by decide+kernel
  rw[ea]at AR
  obtain⟨q2,o2,e2⟩:=S9.out.2.2.1.some0 (by omega)
  have w0:=(S9.out.2.2.1 0 (by omega)).2
  have w5:=(S9.out.2.2.1 5 (by omega)).2
  subst e2
  obtain⟨_,_,e0,l0,w0⟩:=w0
  cases e0
  obtain⟨_,_,e5,-,w5⟩:=w5
  cases e5
  rw[lv_w0]at w0
  rw[lv_w5]at w5
  have W0:=hid w0
  have W5:=hid w5
  have L0:=hid l0
  clear w0 w5 ea l0
  obtain⟨UU,E,hF1,hF2⟩:=cls v8
  have HU:=hid hF2
  have HU1:=hid hF1
  have s1: ∀u,(E u).cell? ⟨gm,1,none⟩=some (.slice (some ⟨q2,o2,none⟩) 6 mc2):=fun u=>aA 1 ((hF1 u).heap S9.out.1)
  have s3: ∀u,(E u).cell? ⟨gm,3,none⟩=some (.slice mp4 12 mc4):=fun u=>aA 3 ((hF1 u).heap S9.out.1)
  have s4: ∀u,(E u).cell? ⟨gm,4,none⟩=some (.int .i64 0):=fun u=>aA 4 ((hF1 u).heap S9.out.1)
  have s5: ∀u,(E u).cell? ⟨gm,5,none⟩=some (.int .i64 8):=fun u=>aA 5 ((hF1 u).heap S9.out.1)
  have k0: ∀u,(E u).cell? ⟨q2,o2,none⟩=some (.int .i64 0):=fun u=>(Below.cell (hF1 u) L0.out).trans W0.out
  have k5: ∀u,(E u).cell? ⟨q2,o2+5,none⟩=some (.int .i64 1431655765):=fun u=>(Below.cell (hF1 u) L0.out).trans W5.out
  have DD0:=HU.out _ (Ab.refl v8).drew
  clear hF1 hF2
  refine aJ E (by kernel_rfl) (by kernel_rfl) DD0 ?_
  repeat(go_big_quiet_step (first
   | (with_reducible rfl)
   | (go_at_call 21;exact aF HU HU1 (AR.out _ (HU1.out _)))))
  refine wpQuiet_nil ?_
  intro z hwz
  obtain⟨u0,hu⟩:=hwz
  have AZ:Hid (Ab v8 z):=by rw[hu];exact HU1.out u0
  clear hu u0
  clear HU HU1 DD0 s1 s3 s4 s5 k0 k5
  clear E UU
  go_wp2_with fail
  refine((HS.out 1 gb 65 z (by omega) (G8.out.to AZ.out) (by unfold W64;omega)).2 (by omega)).mono ?_
  rintro e v9 ⟨rfl,b9⟩
  go_wp2
  go_ret
  exact⟨rfl,B8.out.trans (AZ.out.trans b9)⟩
end Spl
end
section
open Go.RowKit Tf Cu Go.Deep
theorem fD(pa pb:Option Addr)(len ca cb:Nat)(xs:Nat->Int)(w:World)(hl:len<=281474976710656)(hA:IsIn w pa len xs)(hB:IsIn w pb len xs):
  Calls prog 43 #[.slice pa len ca,.slice pb len cb] w fun e w'=>e=.returned (.bool true)/\Below w.heap.size w w':=by
 have HA:=hid hA
 have HB:=hid hB
 have HL:=hid hl
 clear hA hB hl
 go_enter func43,ntmps43
 go_wp2
 go_loopw [5] (fun iv wr=> ∃c:Nat,c<=len/\iv=.int .i64 (c:Nat)/\Ab w wr) (fun iv _=>len - (intOf iv).toNat)
 case atStart=>exact⟨0,by omega,rfl,Ab.refl w⟩
 case round=>
  obtain⟨c,hc,rfl,ar⟩:=hrel
  have AR:=hid ar
  clear ar
  by_cases h:c<len
  ·have HC:=hid h
   obtain⟨x,hx⟩:=aB (xs c)
   obtain⟨-,b1,o1,e1,l1,c1⟩:=HA.out c h
   obtain⟨-,b2,o2,e2,l2,c2⟩:=HB.out c h
   rw[hx]at c1 c2
   have C1:=hid c1
   have C2:=hid c2
   have L1:=hid l1
   have L2:=hid l2
   have hcI:(c:Int)<len:=by omega
   have hcB:(c:Int)<=281474976710656:=by have:=HL.out;omega
   clear c1 c2 l1 l2 hx h
   subst e1 e2
   go_upto_region 6 with fail
   obtain⟨UU,E,hF1,hF2⟩:=cls wr
   have HU:=hid hF2
   have HU1:=hid hF1
   have x1: ∀u,(E u).cell? ⟨b1,o1+c,none⟩=some (.int .i64 x):=fun u=>(Below.cell (AR.out.trans (hF1 u)) L1.out).trans C1.out
   have x2: ∀u,(E u).cell? ⟨b2,o2+c,none⟩=some (.int .i64 x):=fun u=>(Below.cell (AR.out.trans (hF1 u)) L2.out).trans C2.out
   have DD0:=HU.out _ (Ab.refl wr).drew
   clear hF1 hF2
   refine aJ E (by kernel_rfl) (by kernel_rfl) DD0 ?_
   repeat(go_big_quiet_step (with_reducible rfl))
   refine wpQuiet_nil ?_
   intro z hwz
   obtain⟨u0,hu⟩:=hwz
   have AZ:Hid (Ab w z):=by rw[hu];exact AR.out.trans (HU1.out u0)
   clear hu u0
   clear HU HU1 DD0 x1 x2
   clear E UU
   go_wp2
   go_roundw
   case rel=>exact⟨c+1,by have:=HC.out;omega,by simp,AZ.out⟩
   case measure=>simp[intOf];have:=HC.out;omega
  ·have e:len=c:=by omega
   subst e
   go_wp2
   go_ret
   exact⟨rfl,AR.out⟩
end
section
open Go.RowKit Tf Cu Go.Deep
attribute [local go_sem] aK aL aM aN aO aP aR aE
theorem gF(pa pb:Option Addr)(len ca cb:Nat)(xs:Nat->Nat)(w:World)(hl:len<=281474976710656)(hA:IsFl w pa len xs)(hB:IsFl w pb len xs):
  Calls prog 42 #[.slice pa len ca,.slice pb len cb] w fun e w'=>e=.returned (.bool true)/\Below w.heap.size w w':=by
 have SS:Hid (∀(x:Nat) (v:World),Calls prog 14 #[.float .f64 x,.float .f64 x] v fun e w'=>e=.returned (.bool true)/\Below v.heap.size v w'):=fun x v=>by
  have h:=nN x x v
  rw[show sameB x x=true by unfold sameB;exact decide_eq_true rfl]at h
  exact h.mono fun _ _ ⟨he,hw⟩=>⟨he,by rw[hw];exact Below.refl _ _⟩
 have HA:=hid hA
 have HB:=hid hB
 have HL:=hid hl
 clear hA hB hl
 go_enter func42,ntmps42
 go_wp2
 go_loopw [5] (fun iv wr=> ∃c:Nat,c<=len/\iv=.int .i64 (c:Nat)/\Ab w wr) (fun iv _=>len - (intOf iv).toNat)
 case atStart=>exact⟨0,by omega,rfl,Ab.refl w⟩
 case round=>
  obtain⟨c,hc,rfl,ar⟩:=hrel
  have AR:=hid ar
  clear ar
  by_cases h:c<len
  ·have HC:=hid h
   obtain⟨x,hx⟩:=aB (xs c)
   obtain⟨-,b1,o1,e1,l1,c1⟩:=HA.out c h
   obtain⟨-,b2,o2,e2,l2,c2⟩:=HB.out c h
   rw[hx]at c1 c2
   have C1:=hid c1
   have C2:=hid c2
   have L1:=hid l1
   have L2:=hid l2
   have hcI:(c:Int)<len:=by omega
   have hcB:(c:Int)<=281474976710656:=by have:=HL.out;omega
   clear c1 c2 l1 l2 hx h
   subst e1 e2
   go_upto_region 6 with fail
   obtain⟨UU,E,hF1,hF2⟩:=cls wr
   have HU:=hid hF2
   have HU1:=hid hF1
   have x1: ∀u,(E u).cell? ⟨b1,o1+c,none⟩=some (.float .f64 x):=fun u=>(Below.cell (AR.out.trans (hF1 u)) L1.out).trans C1.out
   have x2: ∀u,(E u).cell? ⟨b2,o2+c,none⟩=some (.float .f64 x):=fun u=>(Below.cell (AR.out.trans (hF1 u)) L2.out).trans C2.out
   have DD0:=HU.out _ (Ab.refl wr).drew
   clear hF1 hF2
   refine aJ E (by kernel_rfl) (by kernel_rfl) DD0 ?_
   repeat(go_big_quiet_step (first
    | (with_reducible rfl)
    | (go_at_call 14;exact aF HU HU1 (SS.out _ _))))
   refine wpQuiet_nil ?_
   intro z hwz
   obtain⟨u0,hu⟩:=hwz
   have AZ:Hid (Ab w z):=by rw[hu];exact AR.out.trans (HU1.out u0)
   clear hu u0
   clear HU HU1 DD0 x1 x2
   clear E UU
   go_wp2
   go_roundw
   case rel=>exact⟨c+1,by have:=HC.out;omega,by simp,AZ.out⟩
   case measure=>simp[intOf];have:=HC.out;omega
  ·have e:len=c:=by omega
   subst e
   go_wp2
   go_ret
   exact⟨rfl,AR.out⟩
end
section
open Go.RowKit Tf Cu Go.Deep
attribute [local go_sem] aK aL aM aN aO aP aR aE
namespace Spl
theorem kS(pb:Option Addr)(lb cb:Nat)(B:Nat->Nat)(pw:Option Addr)(lw cw:Nat)(W:Nat->Int)(pt:Option Addr)(lt ct:Nat)(T:Nat->Int)(ps:Option Addr)(ls cs:Nat)(S:Nat->Nat)(sky st:Int)(pb':Option Addr)(cb':Nat)(pw':Option Addr)(cw':Nat)(pt':Option Addr)(ct':Nat)(ps':Option Addr)(cs':Nat)(w:World)(hl:lb<=281474976710656/\lw<=281474976710656/\lt<=281474976710656/\ls<=281474976710656)(i1:IsFl w pb lb B)(i2:Sh.IsI w pw lw W)(i3:Sh.IsI w pt lt T)(i4:IsFl w ps ls S)(j1:IsFl w pb' lb B)(j2:Sh.IsI w pw' lw W)(j3:Sh.IsI w pt' lt T)(j4:IsFl w ps' ls S):
  Calls prog 15 #[.agg #[.slice pb lb cb,.slice pw lw cw,.slice pt lt ct,.slice ps ls cs,.int .i64 sky,.int .i64 st],.agg #[.slice pb' lb cb',.slice pw' lw cw',.slice pt' lt ct',.slice ps' ls cs',.int .i64 sky,.int .i64 st]] w fun e w'=>e=.returned (.bool true)/\Below w.heap.size w w':=by
 have HL:=hid hl
 have I1:=hid i1
 have I2:=hid i2
 have I3:=hid i3
 have I4:=hid i4
 have J1:=hid j1
 have J2:=hid j2
 have J3:=hid j3
 have J4:=hid j4
 clear hl i1 i2 i3 i4 j1 j2 j3 j4
 obtain⟨A0,R0,Q0⟩:=qY w (.cells #[.slice pb lb cb,.slice pw lw cw,.slice pt lt ct,.slice ps ls cs,.int .i64 sky,.int .i64 st] 41) (.cells #[.slice pb' lb cb',.slice pw' lw cw',.slice pt' lt ct',.slice ps' ls cs',.int .i64 sky,.int .i64 st] 41)
 go_enter func15,ntmps15
 go_upto_region 1 with fail
 generalize hW:World.alloc (World.alloc w _) _=v0 at*
 obtain⟨ga,hga⟩:=aB w.heap.size
 obtain⟨gq,hgq⟩:=aB (w.heap.size+1)
 rw[hgq]at Q0 ⊢
 rw[hga]at R0 ⊢
 clear hga hgq hW
 have x0:=aG R0.out
 have y0:=aG Q0.out
 have CC:=hid (gF pb pb' lb cb cb' B v0 HL.out.1 (I1.out.below A0.out) (J1.out.below A0.out))
 go_wp2_with fail
 refine CC.out.mono ?_
 rintro e9 v1 ⟨rfl,k9⟩
 have B1:Hid (Ab v0 v1):=k9
 have A1:Hid (Ab w v1):=A0.out.trans B1.out
 clear k9 CC x0 y0
 have x0:=aG (B1.out.heap R0.out)
 have y0:=aG (B1.out.heap Q0.out)
 have CC:=hid (gF ps ps' ls cs cs' S v1 HL.out.2.2.2 (I4.out.below A1.out) (J4.out.below A1.out))
 go_wp2_with fail
 refine CC.out.mono ?_
 rintro e9 v2 ⟨rfl,k9⟩
 have B2:Hid (Ab v0 v2):=B1.out.call k9
 have A2:Hid (Ab w v2):=A0.out.trans B2.out
 clear k9 CC x0 y0
 have x0:=aG (B2.out.heap R0.out)
 have y0:=aG (B2.out.heap Q0.out)
 have CC:=hid (fD pw pw' lw cw cw' W v2 HL.out.2.1 (I2.out.below A2.out) (J2.out.below A2.out))
 go_wp2_with fail
 refine CC.out.mono ?_
 rintro e9 v3 ⟨rfl,k9⟩
 have B3:Hid (Ab v0 v3):=B2.out.call k9
 have A3:Hid (Ab w v3):=A0.out.trans B3.out
 clear k9 CC x0 y0
 have x0:=aG (B3.out.heap R0.out)
 have y0:=aG (B3.out.heap Q0.out)
 have CC:=hid (fD pt pt' lt ct ct' T v3 HL.out.2.2.1 (I3.out.below A3.out) (J3.out.below A3.out))
 go_wp2_with fail
 refine CC.out.mono ?_
 rintro e9 v4 ⟨rfl,k9⟩
 have B4:Hid (Ab v0 v4):=B3.out.call k9
 have A4:Hid (Ab w v4):=A0.out.trans B4.out
 clear k9 CC x0 y0
 have x0:=aG (B4.out.heap R0.out)
 have y0:=aG (B4.out.heap Q0.out)
 go_wp2
 go_ret
 exact⟨rfl,A4.out⟩
end Spl
end
section
open Go.RowKit Tf Cu
attribute [local go_sem] aK aL aM aN aO aP aR aE
theorem tK(pb pw pt ps:Option Addr)(lb cb lw cw lt ct ls cs:Nat)(sky st:Int)(q:Bool)(w:World)
  (hq:(decide ((65536:Int)<(lb:Int))=true/\q=true)\/(decide ((65536:Int)<(lb:Int))=false/\decide ((65536:Int)<(lw:Int))=true/\q=true)\/(decide ((65536:Int)<(lb:Int))=false/\decide ((65536:Int)<(lw:Int))=false/\decide ((65536:Int)<(lt:Int))=true/\q=true)\/(decide ((65536:Int)<(lb:Int))=false/\decide ((65536:Int)<(lw:Int))=false/\decide ((65536:Int)<(lt:Int))=false/\decide ((65536:Int)<(ls:Int))=q)):
  Calls prog 12 #[.agg #[.slice pb lb cb,.slice pw lw cw,.slice pt lt ct,.slice ps ls cs,.int .i64 sky,.int .i64 st]] w fun e w'=>e=.returned (.bool q)/\Below w.heap.size w w':=by
 obtain⟨A0,RO⟩:=dT w (.cells #[.slice pb lb cb,.slice pw lw cw,.slice pt lt ct,.slice ps ls cs,.int .i64 sky,.int .i64 st] 41)
 have s0:=aA 0 RO.out
 have s1:=aA 1 RO.out
 have s2:=aA 2 RO.out
 have s3:=aA 3 RO.out
 rcases hq with⟨q1,rfl⟩ | ⟨q1,q2,rfl⟩ | ⟨q1,q2,q3,rfl⟩ | ⟨q1,q2,q3,q4⟩
 ·go_enter func12,ntmps12
  go_wp2
  go_ret
  exact⟨rfl,A0.out⟩
 ·go_enter func12,ntmps12
  go_wp2
  go_ret
  exact⟨rfl,A0.out⟩
 ·go_enter func12,ntmps12
  go_wp2
  go_ret
  exact⟨rfl,A0.out⟩
 ·cases q with
  | true=>
   go_enter func12,ntmps12
   go_wp2
   go_ret
   exact⟨rfl,A0.out⟩
  | false=>
   go_enter func12,ntmps12
   go_wp2
   go_ret
   exact⟨rfl,A0.out⟩
theorem tL(pb pw pt ps:Option Addr)(lb cb lw cw lt ct ls cs:Nat)(sky st:Int)(w:World):Calls prog 12 #[.agg #[.slice pb lb cb,.slice pw lw cw,.slice pt lt ct,.slice ps ls cs,.int .i64 sky,.int .i64 st]] w fun e w'=>e=.returned (.bool (decide (65536<lb\/65536<lw\/65536<lt\/65536<ls)))/\Below w.heap.size w w':=by
 refine tK pb pw pt ps lb cb lw cw lt ct ls cs sky st _ w ?_
 by_cases c1:65536<lb
 ·exact .inl ⟨decide_eq_true (by omega),decide_eq_true (.inl c1)⟩
 ·by_cases c2:65536<lw
  ·exact .inr (.inl ⟨decide_eq_false (by omega),decide_eq_true (by omega),decide_eq_true (.inr (.inl c2))⟩)
  ·by_cases c3:65536<lt
   ·exact .inr (.inr (.inl ⟨decide_eq_false (by omega),decide_eq_false (by omega),decide_eq_true (by omega),decide_eq_true (.inr (.inr (.inl c3)))⟩))
   ·refine .inr (.inr (.inr ⟨decide_eq_false (by omega),decide_eq_false (by omega),decide_eq_false (by omega),?_⟩))
    by_cases c4:65536<ls
    ·rw[decide_eq_true (show(65536:Int)<ls by omega),decide_eq_true (.inr (.inr (.inr c4)))]
    ·rw[decide_eq_false (show¬(65536:Int)<ls by omega),decide_eq_false (by omega)]
end
section
open Go.RowKit
namespace Cf
def Fresh(W:World)(S:Nat->Option Nat)(b:Nat):Prop:=W.heap.size<=b/\ ∀i c,S i=some c->c≠b
def putL(S:Nat->Option Nat)(i b:Nat):Nat->Option Nat:=fun k=>if k=i then some b else S k
def Has(W:World)(sp:Nat->Option (Obj × (Nat->Value)))(S:Nat->Option Nat)(w:World):Prop:=Ab W w/\ ∀i b,S i=some b->W.heap.size<=b/\ ∃o mk,sp i=some (o,mk)/\w.heap[b]? =some o
theorem dR(S:Nat->Option Nat){i j:Nat}(b c:Nat)(h:i≠j):putL (putL S i b) j c=putL (putL S j c) i b:=by
 funext k
 unfold putL
 by_cases e:k=j
 ·subst e;simp[Ne.symm h]
 ·by_cases e2:k=i
  ·subst e2;simp[e]
  ·simp[e,e2]
theorem Fresh.put{W:World}{S:Nat->Option Nat}{i b c:Nat}(h:Fresh W S c)(n:b≠c):Fresh W (putL S i b) c:=
 ⟨h.1,fun k d e=>by
  unfold putL at e
  by_cases q:k=i
  ·rw[if_pos q]at e;injection e with e;exact fun x=>n (e.trans x)
  ·rw[if_neg q]at e;exact h.2 k d e⟩
theorem Fresh.of_put{W:World}{S:Nat->Option Nat}{i b c:Nat}(h:Fresh W (putL S i b) c)(hi:S i=none):Fresh W S c/\b≠c:=by
 refine⟨⟨h.1,fun k d e=>h.2 k d ?_⟩,h.2 i b (by simp[putL])⟩
 unfold putL
 by_cases q:k=i
 ·subst q;rw[hi]at e;cases e
 ·rw[if_neg q];exact e
theorem Has.lt{W:World}{sp:Nat->Option (Obj × (Nat->Value))}{S:Nat->Option Nat}{w:World}(h:Has W sp S w){i b:Nat}(e:S i=some b):b<w.heap.size:=by
 obtain⟨_,o,mk,_,q⟩:=h.2 i b e
 exact lt_of_block q
theorem Has.lay{W:World}{sp:Nat->Option (Obj × (Nat->Value))}{S:Nat->Option Nat}{w w1:World}(h:Has W sp S w){i b:Nat}{o:Obj}{mk:Nat->Value}(e:sp i=some (o,mk))(a:Ab w w1)(hb:w.heap.size<=b)(ho:w1.heap[b]? =some o):Has W sp (putL S i b) w1:=
 ⟨h.1.trans a,fun k c q=>by
  unfold putL at q
  by_cases z:k=i
  ·subst z
   rw[if_pos rfl]at q
   injection q with q
   subst q
   exact⟨Nat.le_trans h.1.size hb,o,mk,e,ho⟩
  ·rw[if_neg z]at q
   obtain⟨h1,o',mk',h2,h3⟩:=h.2 k c q
   exact⟨h1,o',mk',h2,Ab.heap a h3⟩⟩
theorem Has.freshb{W:World}{sp:Nat->Option (Obj × (Nat->Value))}{S:Nat->Option Nat}{w:World}(h:Has W sp S w){b:Nat}(hb:w.heap.size<=b):Fresh W S b:=
 ⟨Nat.le_trans h.1.size hb,fun i c e=>by have:=h.lt e;omega⟩
section
variable {P:Program} {ops:Array Oper} {md:Region.Mode} {W:World} {sp:Nat->Option (Obj × (Nat->Value))}
def YF(P:Program)(ops:Array Oper)(W:World)(o:Oper)(v:Value)(a:Act):Prop:=
 (Region.wanted o (yielded ops a.tmps)=true/\ ∀w,Ab W w->(execOp a.eval o).run P w=.ok (.value v) w)\/(Region.wanted o (yielded ops a.tmps)=false/\v=undef)
def LayR(P:Program)(w:World)(ob:Obj)(mk:Nat->Value):Result Next->Prop
 | .ok (.value u) w1=> ∃b,u=mk b/\Ab w w1/\w.heap.size<=b/\w1.heap[b]? =some ob
 | .ok (.enter f args) w1=>w1=w/\Calls P f args w (fun e w2=> ∃b,e=.returned (mk b)/\Ab w w2/\w.heap.size<=b/\w2.heap[b]? =some ob)
 | _=>False
def LF(P:Program)(ops:Array Oper)(W:World)(o:Oper)(ob:Obj)(mk:Nat->Value)(a:Act):Prop:=
 Region.wanted o (yielded ops a.tmps)=true/\ ∀w,Ab W w->LayR P w ob mk ((execOp a.eval o).run P w)
theorem YF.same{o:Oper}{v:Value}{a a':Act}(h:YF P ops W o v a)(he:execOp a'.eval o=execOp a.eval o)(hw:Region.wanted o (yielded ops a'.tmps)=Region.wanted o (yielded ops a.tmps)):YF P ops W o v a':=by
 unfold YF at*
 rw[he,hw]
 exact h
theorem LF.same{o:Oper}{ob:Obj}{mk:Nat->Value}{a a':Act}(h:LF P ops W o ob mk a)(he:execOp a'.eval o=execOp a.eval o)(hw:Region.wanted o (yielded ops a'.tmps)=Region.wanted o (yielded ops a.tmps)):LF P ops W o ob mk a':=by
 unfold LF at*
 rw[he,hw]
 exact h
theorem YF.one{o:Oper}{v u:Value}{a:Act}(h:YF P ops W o v a)(k:YF P ops W o u a):v=u:=by
 rcases h with⟨w1,h⟩ | ⟨w1,rfl⟩
 ·rcases k with⟨_,k⟩ | ⟨w2,_⟩
  ·have:=(h W (Ab.refl W)).symm.trans (k W (Ab.refl W))
   injection this with e
   injection e
  ·rw[w1]at w2;cases w2
 ·rcases k with⟨w2,_⟩ | ⟨_,rfl⟩
  ·rw[w1]at w2;cases w2
  ·rfl
def fOp(P:Program)(ops:Array Oper)(W:World)(sp:Nat->Option (Obj × (Nat->Value)))(i:Nat)(K:Act->(Nat->Option Nat)->Prop)(a:Act)(S:Nat->Option Nat):Prop:=
 match ops[i]? with
 | none=>K a S
 | some o=>
  match sp i with
  | none=> ∃v,YF P ops W o v a/\K (a.put o.dst v) S
  | some (ob,mk)=>LF P ops W o ob mk a/\ ∀b,Fresh W S b->K (a.put o.dst (mk b)) (putL S i b)
theorem bZ{i:Nat}{K K':Act->(Nat->Option Nat)->Prop}{a:Act}{S:Nat->Option Nat}(h: ∀a S,K a S->K' a S)(hh:fOp P ops W sp i K a S):fOp P ops W sp i K' a S:=by
 unfold fOp at*
 cases ho:ops[i]? with
 | none=>simp only[ho]at hh ⊢;exact h _ _ hh
 | some o=>
  cases hs:sp i with
  | none=>
   simp only[ho,hs]at hh ⊢
   obtain⟨v,h1,h2⟩:=hh
   exact⟨v,h1,h _ _ h2⟩
  | some x=>
   simp only[ho,hs]at hh ⊢
   exact⟨hh.1,fun b hb=>h _ _ (hh.2 b hb)⟩
def wpAnyF(P:Program)(md:Region.Mode)(ops:Array Oper)(W:World)(sp:Nat->Option (Obj × (Nat->Value)))(Q:Act->(Nat->Option Nat)->Prop):Nat->Array Bool->Act->(Nat->Option Nat)->Prop
 | 0,listed,a,S=>Region.ready md ops listed=[]/\Q a S
 | fuel+1,listed,a,S=>
  (Region.ready md ops listed=[]->Q a S)/\
  ∀i ∈ Region.ready md ops listed,fOp P ops W sp i (wpAnyF P md ops W sp Q fuel (listed.setIfInBounds i true)) a S
def Tidy(W:World)(listed:Array Bool)(S:Nat->Option Nat):Prop:=(∀k,listed.getD k true=false->S k=none)/\ ∃n,W.heap.size<=n/\ ∀i c,S i=some c->c<n
theorem Tidy.fresh{listed:Array Bool}{S:Nat->Option Nat}(h:Tidy W listed S): ∃b,Fresh W S b:=by
 obtain⟨_,n,h1,h2⟩:=h
 exact⟨n,h1,fun i c e=>by have:=h2 i c e;omega⟩
theorem Tidy.set{listed:Array Bool}{S:Nat->Option Nat}(h:Tidy W listed S)(j:Nat):Tidy W (listed.setIfInBounds j true) S:=
 ⟨fun k hk=>by
  by_cases e:j=k
  ·subst e
   by_cases l:j<listed.size
   ·simp[l]at hk
   ·exact h.1 j (by rw[Array.setIfInBounds_eq_of_size_le (by omega)]at hk;exact hk)
  ·rw[getD_set_ne true e]at hk;exact h.1 k hk,h.2⟩
theorem Tidy.lay{listed:Array Bool}{S:Nat->Option Nat}(h:Tidy W listed S){j:Nat}(hj:listed.getD j true=false)(b:Nat):Tidy W (listed.setIfInBounds j true) (putL S j b):=by
 obtain⟨h1,n,h2,h3⟩:=h
 refine⟨fun k hk=> ?_,max n (b+1),by omega,fun i c e=> ?_⟩
 ·by_cases e:j=k
  ·subst e
   by_cases l:j<listed.size
   ·simp[l]at hk
   ·simp[l]at hj
  ·rw[getD_set_ne true e]at hk
   unfold putL
   rw[if_neg (Ne.symm e)]
   exact h1 k hk
 ·unfold putL at e
  by_cases q:i=j
  ·rw[if_pos q]at e;injection e with e;omega
  ·rw[if_neg q]at e;have:=h3 i c e;omega
theorem eM{j:Nat}{oi oj:Oper}{v:Value}(hj:ops[j]? =some oj)(hap:oi.apart ops oj=true)(hsi: ∀cs b,oi.op≠ .select cs b)(hsj: ∀cs b,oj.op≠ .select cs b)
  {K:Act->(Nat->Option Nat)->Prop} {a:Act} {S:Nat->Option Nat} (hy:YF P ops W oi v a) (h:fOp P ops W sp j K (a.put oi.dst v) S):
  fOp P ops W sp j (fun a' S'=>YF P ops W oi v a'/\K (a'.put oi.dst v) S') a S:=by
 obtain⟨h1,h2,h3⟩:=Oper.apart_spec hap
 have keep: ∀u,YF P ops W oi v (a.put oj.dst u):=fun u=>hy.same (execOp_put oi hsi a oj.dst u h3) (wanted_put oi a oj.dst u h3)
 unfold fOp at*
 cases hs:sp j with
 | none=>
  simp only[hj,hs]at h ⊢
  obtain⟨u,hu,hk⟩:=h
  exact⟨u,hu.same (execOp_put oj hsj a oi.dst v h1).symm (wanted_put oj a oi.dst v h1).symm,keep u,by rw[<- Act.put_comm a v u h2];exact hk⟩
 | some x=>
  simp only[hj,hs]at h ⊢
  exact⟨h.1.same (execOp_put oj hsj a oi.dst v h1).symm (wanted_put oj a oi.dst v h1).symm,fun b hb=>⟨keep _,by rw[<- Act.put_comm a v _ h2];exact h.2 b hb⟩⟩
theorem eP{i j:Nat}{oi oj:Oper}{ob:Obj}{mk:Nat->Value}(hij:i≠j)(hj:ops[j]? =some oj)(hap:oi.apart ops oj=true)(hsi: ∀cs b,oi.op≠ .select cs b)(hsj: ∀cs b,oj.op≠ .select cs b)
  {K:Act->(Nat->Option Nat)->Prop} {a:Act} {S:Nat->Option Nat} (hf: ∃b,Fresh W S b) (hSj:S j=none) (hy:LF P ops W oi ob mk a) (h: ∀b,Fresh W S b->fOp P ops W sp j K (a.put oi.dst (mk b)) (putL S i b)):
  fOp P ops W sp j (fun a' S'=>LF P ops W oi ob mk a'/\ ∀b,Fresh W S' b->K (a'.put oi.dst (mk b)) (putL S' i b)) a S:=by
 obtain⟨h1,h2,h3⟩:=Oper.apart_spec hap
 have keep: ∀u,LF P ops W oi ob mk (a.put oj.dst u):=fun u=>hy.same (execOp_put oi hsi a oj.dst u h3) (wanted_put oi a oj.dst u h3)
 obtain⟨b0,hb0⟩:=hf
 unfold fOp at*
 cases hs:sp j with
 | none=>
  simp only[hj,hs]at h ⊢
  obtain⟨u,hu,_⟩:=h b0 hb0
  have hu':YF P ops W oj u a:=hu.same (execOp_put oj hsj a oi.dst _ h1).symm (wanted_put oj a oi.dst _ h1).symm
  refine⟨u,hu',keep u,fun b hb=> ?_⟩
  obtain⟨u2,hu2,hk⟩:=h b hb
  have e:u2=u:=YF.one (hu2.same (execOp_put oj hsj a oi.dst _ h1).symm (wanted_put oj a oi.dst _ h1).symm) hu'
  subst e
  rw[<- Act.put_comm a (mk b) u2 h2]
  exact hk
 | some x=>
  simp only[hj,hs]at h ⊢
  refine⟨(h b0 hb0).1.same (execOp_put oj hsj a oi.dst _ h1).symm (wanted_put oj a oi.dst _ h1).symm,fun c hc=>⟨keep _,fun b hb=> ?_⟩⟩
  obtain⟨q1,q2⟩:=hb.of_put hSj
  have:=(h b q1).2 c (hc.put (Ne.symm q2))
  rw[dR S b c hij,Act.put_comm a (mk b) _ h2]at this
  exact this
theorem firstY{Q:Act->(Nat->Option Nat)->Prop}{i:Nat}{oi:Oper}{v:Value}(hi:ops[i]? =some oi)(hsp:sp i=none)(hsel: ∀(j:Nat) (o:Oper) cs b,ops[j]? =some o->o.op≠ .select cs b):
  ∀(fuel:Nat) (listed:Array Bool) (a:Act) (S:Nat->Option Nat),
   (∀j oj,ops[j]? =some oj->j≠i->listed.getD j true=false->(∀e ∈ oj.after,Region.binds md e=true->e.on≠i)->oi.apart ops oj=true)->
   i ∈ Region.ready md ops listed->YF P ops W oi v a->
   wpAnyF P md ops W sp Q fuel (listed.setIfInBounds i true) (a.put oi.dst v) S->wpAnyF P md ops W sp Q (fuel+1) listed a S:=by
 have go: ∀(K:Act->(Nat->Option Nat)->Prop) (a:Act) (S:Nat->Option Nat),YF P ops W oi v a->K (a.put oi.dst v) S->fOp P ops W sp i K a S:=fun K a S hy h=>by
  unfold fOp;simp only[hi,hsp];exact⟨v,hy,h⟩
 intro fuel
 induction fuel with
 | zero=>
  intro listed a S _ hr hy H
  refine⟨fun h=>(by rw[h]at hr;cases hr),fun j hj=> ?_⟩
  by_cases hji:j=i
  ·subst hji;exact go _ _ _ hy H
  ·have:=ready_mono hj hji
   rw[H.1]at this
   cases this
 | succ fuel ih=>
  intro listed a S hfree hr hy H
  refine⟨fun h=>(by rw[h]at hr;cases hr),fun j hj=> ?_⟩
  by_cases hji:j=i
  ·subst hji;exact go _ _ _ hy H
  ·have h1:=H.2 j (ready_mono hj hji)
   obtain⟨hjun,oj,hoj,hall⟩:=mem_ready.1 hj
   have hnot: ∀e ∈ oj.after,Region.binds md e=true->e.on≠i:=fun e he hb heq=>by
    have h1:=hall e he hb
    have h0:=(mem_ready.1 hr).1
    rw[heq]at h1
    rcases Nat.lt_or_ge i listed.size with h' | h'
    ·simp[h']at h0 h1;rw[h0]at h1;cases h1
    ·simp[Array.getElem?_eq_none h']at h1
   have h2:=eM hoj (hfree j oj hoj hji hjun hnot) (fun cs b=>hsel i oi cs b hi) (fun cs b=>hsel j oj cs b hoj) hy h1
   have hfree': ∀k ok,ops[k]? =some ok->k≠i->(listed.setIfInBounds j true).getD k true=false->
     (∀e ∈ ok.after,Region.binds md e=true->e.on≠i)->oi.apart ops ok=true:=fun k ok hk hki hun hno=>by
    refine hfree k ok hk hki ?_ hno
    by_cases hjk:j=k
    ·subst hjk;exact hjun
    ·rw[getD_set_ne true hjk]at hun;exact hun
   refine bZ (fun a' S' h3=>ih (listed.setIfInBounds j true) a' S' hfree' (ready_mono hr (Ne.symm hji)) h3.1 ?_) h2
   rw[Array.setIfInBounds_comm _ _ hji]
   exact h3.2
theorem firstL{Q:Act->(Nat->Option Nat)->Prop}{i:Nat}{oi:Oper}{ob:Obj}{mk:Nat->Value}(hi:ops[i]? =some oi)(hsp:sp i=some (ob,mk))(hsel: ∀(j:Nat) (o:Oper) cs b,ops[j]? =some o->o.op≠ .select cs b):
  ∀(fuel:Nat) (listed:Array Bool) (a:Act) (S:Nat->Option Nat),Tidy W listed S->
   (∀j oj,ops[j]? =some oj->j≠i->listed.getD j true=false->(∀e ∈ oj.after,Region.binds md e=true->e.on≠i)->oi.apart ops oj=true)->
   i ∈ Region.ready md ops listed->LF P ops W oi ob mk a->
   (∀b,Fresh W S b->wpAnyF P md ops W sp Q fuel (listed.setIfInBounds i true) (a.put oi.dst (mk b)) (putL S i b))->wpAnyF P md ops W sp Q (fuel+1) listed a S:=by
 have go: ∀(K:Act->(Nat->Option Nat)->Prop) (a:Act) (S:Nat->Option Nat),LF P ops W oi ob mk a->(∀b,Fresh W S b->K (a.put oi.dst (mk b)) (putL S i b))->fOp P ops W sp i K a S:=fun K a S hy h=>by
  unfold fOp;simp only[hi,hsp];exact⟨hy,h⟩
 intro fuel
 induction fuel with
 | zero=>
  intro listed a S ty _ hr hy H
  refine⟨fun h=>(by rw[h]at hr;cases hr),fun j hj=> ?_⟩
  by_cases hji:j=i
  ·subst hji;exact go _ _ _ hy H
  ·obtain⟨b,hb⟩:=ty.fresh
   have:=ready_mono hj hji
   rw[(H b hb).1]at this
   cases this
 | succ fuel ih=>
  intro listed a S ty hfree hr hy H
  refine⟨fun h=>(by rw[h]at hr;cases hr),fun j hj=> ?_⟩
  by_cases hji:j=i
  ·subst hji;exact go _ _ _ hy H
  ·have h1:=fun b hb=>(H b hb).2 j (ready_mono hj hji)
   obtain⟨hjun,oj,hoj,hall⟩:=mem_ready.1 hj
   have hnot: ∀e ∈ oj.after,Region.binds md e=true->e.on≠i:=fun e he hb heq=>by
    have h1:=hall e he hb
    have h0:=(mem_ready.1 hr).1
    rw[heq]at h1
    rcases Nat.lt_or_ge i listed.size with h' | h'
    ·simp[h']at h0 h1;rw[h0]at h1;cases h1
    ·simp[Array.getElem?_eq_none h']at h1
   have hap:=hfree j oj hoj hji hjun hnot
   have hfree': ∀k ok,ops[k]? =some ok->k≠i->(listed.setIfInBounds j true).getD k true=false->
     (∀e ∈ ok.after,Region.binds md e=true->e.on≠i)->oi.apart ops ok=true:=fun k ok hk hki hun hno=>by
    refine hfree k ok hk hki ?_ hno
    by_cases hjk:j=k
    ·subst hjk;exact hjun
    ·rw[getD_set_ne true hjk]at hun;exact hun
   have h2:=eP (Ne.symm hji) hoj hap (fun cs b=>hsel i oi cs b hi) (fun cs b=>hsel j oj cs b hoj) ty.fresh (ty.1 j hjun) hy h1
   -- what j leaves is tidy
   have h4:fOp P ops W sp j (fun a' S'=>Tidy W (listed.setIfInBounds j true) S'/\LF P ops W oi ob mk a'/\ ∀b,Fresh W S' b->wpAnyF P md ops W sp Q fuel ((listed.setIfInBounds i true).setIfInBounds j true) (a'.put oi.dst (mk b)) (putL S' i b)) a S:=by
    unfold fOp at h2 ⊢
    cases hs:sp j with
    | none=>
     simp only[hoj,hs]at h2 ⊢
     obtain⟨u,hu,hk⟩:=h2
     exact⟨u,hu,ty.set j,hk⟩
    | some x=>
     simp only[hoj,hs]at h2 ⊢
     exact⟨h2.1,fun b hb=>⟨ty.lay hjun b,h2.2 b hb⟩⟩
   refine bZ (fun a' S' h3=>ih (listed.setIfInBounds j true) a' S' h3.1 hfree' (ready_mono hr (Ne.symm hji)) h3.2.1 (fun b hb=> ?_)) h4
   rw[Array.setIfInBounds_comm _ _ hji]
   exact h3.2.2 b hb
def wpFree(P:Program)(ops:Array Oper)(W:World)(sp:Nat->Option (Obj × (Nat->Value)))(Q:Act->(Nat->Option Nat)->Prop):List Oper->Nat->Act->(Nat->Option Nat)->Prop
 | [],_,a,S=>Q a S
 | o :: rest,k,a,S=>
  match sp k with
  | none=> ∃v,YF P ops W o v a/\wpFree P ops W sp Q rest (k+1) (a.put o.dst v) S
  | some (ob,mk)=>LF P ops W o ob mk a/\ ∀b,Fresh W S b->wpFree P ops W sp Q rest (k+1) (a.put o.dst (mk b)) (putL S k b)
theorem aZ{Q:Act->(Nat->Option Nat)->Prop}(hs:Region.noSelect ops=true): ∀(l:List Oper) (k:Nat) (listed:Array Bool) (a:Act) (S:Nat->Option Nat),(∀j,l[j]? =ops[k+j]?)->Tidy W listed S->
  Region.lexFrom md ops l.length k listed=true->wpFree P ops W sp Q l k a S->wpAnyF P md ops W sp Q l.length listed a S
 | [],_,_,_,_,_,_,hB,h=>⟨by simpa [Region.lexFrom]using hB,h⟩
 | o :: l,k,listed,a,S,hl,ty,hB,h=>by
  have h0:ops[k]? =some o:=by simpa using(hl 0).symm
  simp only[List.length_cons,Region.lexFrom,Bool.and_eq_true]at hB
  obtain⟨⟨hr,hf⟩,hB'⟩:=hB
  have hr':k ∈ Region.ready md ops listed:=by simpa using hr
  have hl': ∀j,l[j]? =ops[k+1+j]? :=fun j=>by have:=hl (j+1);simpa [Nat.add_assoc,Nat.add_comm 1 j]using this
  cases hsp:sp k with
  | none=>
   simp only[wpFree,hsp]at h
   obtain⟨v,hy,hK⟩:=h
   exact firstY h0 hsp (Region.noSelect_spec hs) l.length listed a S (Region.free_spec h0 hf) hr' hy
    (aZ hs l (k+1) _ _ _ hl' (ty.set k) hB' hK)
  | some x=>
   obtain⟨ob,mk⟩:=x
   simp only[wpFree,hsp]at h
   exact firstL h0 hsp (Region.noSelect_spec hs) l.length listed a S ty (Region.free_spec h0 hf) hr' h.1
    (fun b hb=>aZ hs l (k+1) _ _ _ hl' (ty.lay (mem_ready.1 hr').1 b) hB' (h.2 b hb))
theorem cA{i:Nat}{a:Act}{S:Nat->Option Nat}{K:Act->(Nat->Option Nat)->Prop}{K':Act->World->Prop}{Q':Exit->Act->World->Prop}{w:World}(hC:Has W sp S w)(h: ∀a S w',Has W sp S w'->K a S->K' a w')(hh:fOp P ops W sp i K a S):wpOp P ops Q' i K' a w:=by
 unfold fOp at hh
 unfold wpOp
 cases ho:ops[i]? with
 | none=>simp only[ho]at hh ⊢;exact h _ _ _ hC hh
 | some o=>
  cases hs:sp i with
  | none=>
   simp only[ho,hs]at hh ⊢
   obtain⟨v,hy,hk⟩:=hh
   rcases hy with⟨w1,hv⟩ | ⟨w1,rfl⟩
   ·rw[if_pos w1]
    refine .inl ?_
    unfold Oper.wp
    rw[hv w hC.1]
    exact h _ _ _ hC hk
   ·rw[if_neg (by rw[w1];exact Bool.false_ne_true)]
    exact h _ _ _ hC hk
  | some x=>
   obtain⟨ob,mk⟩:=x
   simp only[ho,hs]at hh ⊢
   obtain⟨⟨w1,hv⟩,hk⟩:=hh
   rw[if_pos w1]
   refine .inl ?_
   unfold Oper.wp
   have q:=hv w hC.1
   generalize(execOp a.eval o).run P w=r at q
   match r,q with
   | .ok (.value u) w2,⟨b,hu,ha,hb,ho2⟩=>
    subst hu
    exact h _ _ _ (hC.lay hs ha hb ho2) (hk b (hC.freshb hb))
   | .ok (.enter f args) w2,⟨e,hc⟩=>
    subst e
    refine Calls.mono hc ?_
    rintro e2 w3 ⟨b,rfl,ha,hb,ho2⟩
    exact h _ _ _ (hC.lay hs ha hb ho2) (hk b (hC.freshb hb))
end
theorem eR{P:Program}{md:Region.Mode}{ops hd:Array Oper}{W:World}{sp:Nat->Option (Obj × (Nat->Value))}{n:Nat}(hhd: ∀i,i<n->hd[i]? =ops[i]?)(hb:backB md ops n=true){i:Nat}(hi:i<n){K:Act->(Nat->Option Nat)->Prop}{a:Act}{S:Nat->Option Nat}(h:fOp P hd W sp i K a S):fOp P ops W sp i K a S:=by
 unfold fOp at*
 rw[hhd i hi]at h
 cases ho:ops[i]? with
 | none=>rw[ho]at h;exact h
 | some o=>
  have e:Region.wanted o (yielded hd a.tmps)=Region.wanted o (yielded ops a.tmps):=by
   unfold Region.wanted
   cases hg:o.guard with
   | none=>rfl
   | some jb=>
    obtain⟨j,b⟩:=jb
    have lt:=(cV hb hi ho).2 j b hg
    show(yielded hd a.tmps j==some b)=(yielded ops a.tmps j==some b)
    unfold yielded
    rw[hhd j lt]
  simp only[ho]at h ⊢
  cases hs:sp i with
  | none=>
   simp only[hs]at h ⊢
   unfold YF at*
   rw[e]at h
   exact h
  | some x=>
   simp only[hs]at h ⊢
   unfold LF at*
   rw[e]at h
   exact h
theorem bK{P:Program}{md:Region.Mode}{ops hd:Array Oper}{W:World}{sp:Nat->Option (Obj × (Nat->Value))}{n:Nat}{g:Nat}{Q1:Act->(Nat->Option Nat)->Prop}{Q':Exit->Act->World->Prop}(hhd: ∀i,i<n->hd[i]? =ops[i]?)(hsz:hd.size=n)(hn:n<ops.size)(hb:backB md ops n=true)(hs:Region.sinkB md ops n=true)(hc:Region.chainB md ops n=true)
  (hL: ∀a S w,Has W sp S w->Q1 a S->wpAny P md ops Q' g (finA ops.size n) a w):
  ∀(fuel:Nat) (listed lh:Array Bool) (a:Act) (S:Nat->Option Nat) (w:World),Has W sp S w->HeadInv md ops n listed->lh.size=n->(∀i,i<n->lh.getD i true=listed.getD i true)->
   wpAnyF P md hd W sp Q1 fuel lh a S->wpAny P md ops Q' (fuel+g) listed a w:=by
 intro fuel
 induction fuel with
 | zero=>
  intro listed lh a S w hC inv hl he h
  have hls:n<=listed.size:=by rw[inv.size];omega
  rcases bJ (by omega) hb hls with all | ⟨i,hi,hr⟩
  ·rw[Nat.zero_add,eL hn inv all]
   exact hL a S w hC h.2
  ·have:=(bI hhd hb hl hls he hi).2 hr
   rw[h.1]at this
   cases this
 | succ fuel ih=>
  intro listed lh a S w hC inv hl he h
  have hls:n<=listed.size:=by rw[inv.size];omega
  rcases bJ (by omega) hb hls with all | ⟨i0,hi0,hr0⟩
  ·have no:Region.ready md hd lh=[]:=by
    rw[List.eq_nil_iff_forall_not_mem]
    intro i hi
    obtain⟨u,o,ho,_⟩:=mem_ready.1 hi
    have lt:i<n:=by rw[<- hsz];exact(Array.getElem?_eq_some_iff.1 ho).1
    rw[he i lt,all i lt]at u
    cases u
   rw[Nat.add_comm (fuel+1) g,eL hn inv all]
   exact cZ g (fuel+1) _ a w (hL a S w hC (h.1 no))
  ·rw[show fuel+1+g=(fuel+g)+1 by omega]
   refine⟨fun h0=>(by rw[h0]at hr0;cases hr0),fun i hi=> ?_⟩
   have lt:i<n:=by
    by_cases c:i<n
    ·exact c
    ·exact absurd hi (tail_waits hs hc hn inv _ i0 rfl hi0 (mem_ready.1 hr0).1 i (by omega))
   have hq:=eR hhd hb lt (h.2 i ((bI hhd hb hl hls he lt).2 hi))
   refine cA hC (fun a' S' w' hC' h'=>ih _ _ a' S' w' hC' (inv.set hi lt) (by simp[hl]) (fun j hj=> ?_) h') hq
   by_cases e:i=j
   ·subst e
    simp[hl,lt,show i<listed.size by omega]
   ·rw[getD_set_ne true e,getD_set_ne true e,he j hj]
theorem cB{P:Program}{id:Nat}{Q:Exit->Act->World->Prop}{a:Act}{w:World}{l:List Oper}(n:Nat)(sp:Nat->Option (Obj × (Nat->Value)))(hm:P.follows .mixedOrders=true)(hB:Region.lexB .any (l.take n).toArray=true)(hT:tailB l.toArray n=true)
  (h:wpFree P (l.take n).toArray w.drew sp (fun a' S=> ∀w',Has w.drew sp S w'->wpList P l.toArray Q (l.drop n) a' w') (l.take n) 0 a (fun _=>none)):(Code.region id l.toArray true).wp P Q a w:=by
 simp only[tailB,Bool.and_eq_true,decide_eq_true_eq]at hT
 obtain⟨⟨⟨⟨hn,hb⟩,hs⟩,hc⟩,hq⟩:=hT
 have hn':n<l.length:=by simpa using hn
 have htl:(l.take n).toArray.size=n:=by simp;omega
 have hdl:(l.drop n).length=l.toArray.size - n:=by simp
 refine wp_region_any hm ?_
 simp only[Region.lexB,Bool.and_eq_true]at hB
 have H:=aZ (P:=P) (W:=w.drew) (sp:=sp) (md:=.any) hB.1 (l.take n) 0 (Array.replicate (l.take n).toArray.size false) a (fun _=>none) (by simp) ⟨fun _ _=>rfl,w.drew.heap.size,Nat.le_refl _,fun i c e=>by cases e⟩ (by simpa using hB.2) h
 have inv0:HeadInv .any l.toArray n (Array.replicate l.toArray.size false):=
  ⟨by simp,fun j oj _ hl=>(by rw[getD_replicate_false]at hl;cases hl),fun t _ ht=>getD_in (by simpa using ht) (getD_replicate_false _ _)⟩
 have:=bK (P:=P) (Q':=Q) (g:=l.toArray.size - n) (hd:=(l.take n).toArray) (ops:=l.toArray) (fun i hi=>by simp[hi]) htl hn hb hs hc
  (fun a' S' w' hC' h'=>by
   have:=wpAny_of_seq (P:=P) (md:=.any) (ops:=l.toArray) (Q':=Q) (l.drop n) n (finA l.toArray.size n) a' w' (fun j=>by simp) (by rw[hdl];exact hq) (h' w' hC')
   rwa [hdl]at this)
  (l.take n).length _ _ a (fun _=>none) w.drew ⟨Ab.refl _,fun i b e=>by cases e⟩ inv0 (by simpa using htl) (fun i hi=>by
   rw[getD_in (listed:=Array.replicate l.toArray.size false) (by simp;omega) (getD_replicate_false _ _)]
   exact getD_in (by rw[Array.size_replicate];omega) (getD_replicate_false _ _)) H
 have e:(l.take n).length+(l.toArray.size - n)=l.toArray.size:=by simp;omega
 rw[e]at this
 exact this
section
variable {P:Program} {ops:Array Oper} {W:World} {sp:Nat->Option (Obj × (Nat->Value))} {Q:Act->(Nat->Option Nat)->Prop} {o:Oper} {rest:List Oper} {k:Nat} {a:Act} {S:Nat->Option Nat}
theorem aD{U:Type}{F:U->World}(HF:Hid (∀w',Ab W w'-> ∃u,w'=F u))(hs:sp k=none)(hp:plainB o.op=true)(h:wpQuiet P ops (fun w'=> ∃u,w'=F u) (fun a'=>wpFree P ops W sp Q rest (k+1) a' S) [o] a):wpFree P ops W sp Q (o :: rest) k a S:=by
 simp only[wpFree,hs]
 simp only[wpQuiet]at h
 by_cases c:Region.wanted o (yielded ops a.tmps)=true
 ·rw[if_pos c]at h
  obtain⟨v,h1,h2⟩:=h
  refine⟨v,.inl ⟨c,fun w hw=> ?_⟩,h2⟩
  have q:=h1 w (HF.out w hw)
  unfold Oper.quietAt at q
  cases e:(execOp a.eval o).run P w with
  | ok n w'=>
   obtain⟨x,rfl⟩:=eT hp e
   rw[e]at q
   obtain⟨q1,q2⟩:=q
   rw[q1,q2]
  | halt x w'=>rw[e]at q;exact absurd q (by simp[Oper.quietUpon])
 ·rw[if_neg c]at h
  exact⟨undef,.inr ⟨by simpa using c,rfl⟩,h⟩
theorem aQ{ob:Obj}{mk:Nat->Value}(hs:sp k=some (ob,mk))(hw:Region.wanted o (yielded ops a.tmps)=true)(hr: ∀w,Ab W w->LayR P w ob mk ((execOp a.eval o).run P w))
  (h: ∀b,Fresh W S b->wpFree P ops W sp Q rest (k+1) (a.put o.dst (mk b)) (putL S k b)):wpFree P ops W sp Q (o :: rest) k a S:=by
 simp only[wpFree,hs]
 exact⟨⟨hw,hr⟩,h⟩
theorem eC{ob:Obj}{mk:Nat->Value}(h: ∀w,Ab W w->(execOp a.eval o).run P w=.ok (.value (mk w.heap.size)) (w.alloc ob)): ∀w,Ab W w->LayR P w ob mk ((execOp a.eval o).run P w):=fun w hw=>by
 rw[h w hw]
 exact⟨w.heap.size,rfl,bl1 _ _,Nat.le_refl _,heap_alloc_new _ _⟩
theorem dA(h:Q a S):wpFree P ops W sp Q [] k a S:=h
end
theorem Has.at{W:World}{sp:Nat->Option (Obj × (Nat->Value))}{S:Nat->Option Nat}{w:World}(h:Has W sp S w){i b:Nat}{ob:Obj}{mk:Nat->Value}(e:S i=some b)(s:sp i=some (ob,mk)):w.heap[b]? =some ob/\W.heap.size<=b:=by
 obtain⟨h1,o,m,h2,h3⟩:=h.2 i b e
 rw[s]at h2
 injection h2 with h2
 injection h2 with h2
 subst h2
 exact⟨h3,h1⟩
end Cf
end
section
open Go.RowKit Tf Cu Go.Deep
namespace Spl
def cst(l:List Nat):List Int:=l.map fun c=>((c:Nat):Int)
theorem cst_len(l:List Nat):(cst l).length=l.length:=List.length_map _
theorem cst_app(l:List Nat)(x:Nat):cst l++[(x:Int)]=cst (l++[x]):=by
 unfold cst
 rw[List.map_append]
 rfl
def AbQ(V:World)(P:Nat->Prop)(w:World):Prop:=w.os=V.os/\w.tape=V.tape/\w.output=V.output/\V.heap.size<=w.heap.size/\ ∀k,k<V.heap.size-> ¬P k->w.heap[k]? =V.heap[k]?
theorem AbQ.refl(V:World)(P:Nat->Prop):AbQ V P V:=⟨rfl,rfl,rfl,Nat.le_refl _,fun _ _ _=>rfl⟩
theorem AbQ.to{V w w':World}{P:Nat->Prop}(h:AbQ V P w)(a:Ab w w'):AbQ V P w':=by
 obtain⟨h1,h2,h3,h4,h5⟩:=h
 exact⟨a.os.trans h1,a.tape.trans h2,a.output.trans h3,Nat.le_trans h4 a.size,fun k hk hp=>(a.block k (by omega)).trans (h5 k hk hp)⟩
theorem AbQ.set{V w:World}{P:Nat->Prop}(h:AbQ V P w){g k:Nat}(hp:P g\/V.heap.size<=g)(v:Value):AbQ V P (w.setCell ⟨g,k,none⟩ v):=by
 obtain⟨h1,h2,h3,h4,h5⟩:=h
 refine⟨h1,h2,h3,by simpa [World.setCell]using h4,fun i hi hn=>(Below.heap_setCell _ _ _ _ (fun e=> ?_)).trans (h5 i hi hn)⟩
 have e2:i=g:=e
 rcases hp with h | h
 ·exact hn (by rw[e2];exact h)
 ·omega
theorem AbQ.grown{V wr w':World}{P:Nat->Prop}{row:Option Nat}(h:AbQ V P wr)(hg:wr.grownBy w' row)(hr: ∀b,row=some b->P b\/V.heap.size<=b):AbQ V P w':=by
 obtain⟨h1,h2,h3,h4,h5⟩:=h
 refine⟨hg.os.trans h1,hg.tape.trans h2,hg.output.trans h3,by have:=hg.size;omega,fun k hk hn=> ?_⟩
 refine(hg.block k (by omega) (fun e=> ?_)).trans (h5 k hk hn)
 rcases hr k e.symm with h6 | h6
 ·exact hn h6
 ·omega
theorem AbQ.ab{w0 V w:World}{P:Nat->Prop}(h:AbQ V P w)(a:Ab w0 V)(hp: ∀k,k<w0.heap.size-> ¬P k):Ab w0 w:=by
 obtain⟨h1,h2,h3,h4,h5⟩:=h
 exact⟨h1.trans a.os,h2.trans a.tape,h3.trans a.output,Nat.le_trans (Below.size a) h4,fun k hk=>(h5 k (Nat.lt_of_lt_of_le hk (Below.size a)) (hp k hk)).trans (a.block k hk)⟩
theorem AbQ.isI{V w:World}{P:Nat->Prop}{p:Option Addr}{n:Nat}{f:Nat->Int}(a:AbQ V P w)(h:Sh.IsI V p n f)(hp: ∀b o,p=some ⟨b,o,none⟩-> ¬P b):Sh.IsI w p n f:=fun k hk=>by
 obtain⟨h1,b,o,h2,h3,h4⟩:=h k hk
 exact⟨h1,b,o,h2,Nat.lt_of_lt_of_le h3 a.2.2.2.1,(World.cell?_of_block (a.2.2.2.2 b h3 (hp b o h2))).trans h4⟩
theorem AbQ.isFl{V w:World}{P:Nat->Prop}{p:Option Addr}{n:Nat}{f:Nat->Nat}(a:AbQ V P w)(h:IsFl V p n f)(hp: ∀b o,p=some ⟨b,o,none⟩-> ¬P b):IsFl w p n f:=fun k hk=>by
 obtain⟨h1,b,o,h2,h3,h4⟩:=h k hk
 exact⟨h1,b,o,h2,Nat.lt_of_lt_of_le h3 a.2.2.2.1,(World.cell?_of_block (a.2.2.2.2 b h3 (hp b o h2))).trans h4⟩
def OT(t:TypeId)(B:Nat)(v:Value)(l:List Int)(w:World):Prop:=w.ownsRow B t 1 v l.length (l.map (Value.int .i64))
theorem OT.ofN{B:Nat}{v:Value}{l:List Nat}{w:World}(h:OwnN B v l w):OT 3 B v (cst l) w:=by
 unfold OT cst
 rw[List.length_map,List.map_map]
 exact h
theorem OT.toN{B:Nat}{v:Value}{l:List Nat}{w:World}(h:OT 3 B v (cst l) w):OwnN B v l w:=by
 unfold OT cst at h
 rw[List.length_map,List.map_map]at h
 exact h
theorem OT.mono{t:TypeId}{B C:Nat}{v:Value}{l:List Int}{w:World}(h:OT t B v l w)(hc:C<=B):OT t C v l w:=by
 rcases h.2 with⟨q,e⟩ | ⟨g,cap,cur,q,hb,rest⟩
 ·exact⟨h.1,.inl ⟨q,e⟩⟩
 ·exact⟨h.1,.inr ⟨g,cap,cur,q,Nat.le_trans hc hb,rest⟩⟩
theorem OT.blk{t:TypeId}{B:Nat}{v:Value}{l:List Int}{w:World}(h:OT t B v l w){k:Nat}(hk:v.ownBlock=some k):B<=k/\k<w.heap.size:=World.ownsRow.lt h k hk
theorem OT.blkeq{t:TypeId}{B:Nat}{v:Value}{l:List Int}{w w':World}(h:OT t B v l w)(e: ∀k,v.ownBlock=some k->w'.heap[k]? =w.heap[k]?):OT t B v l w':=by
 rcases h.2 with⟨q,e2⟩ | ⟨g,cap,cur,q,hb,hg,rest⟩
 ·exact⟨h.1,.inl ⟨q,e2⟩⟩
 ·exact⟨h.1,.inr ⟨g,cap,cur,q,hb,(e g (by rw[q];rfl)).trans hg,rest⟩⟩
theorem OT.other{t:TypeId}{B:Nat}{v:Value}{l:List Int}{w:World}(h:OT t B v l w){g c:Nat}(u:Value)(hg:v.ownBlock≠some g):OT t B v l (w.setCell ⟨g,c,none⟩ u):=h.blkeq (fun k hk=>Below.heap_setCell _ _ _ _ (fun e=>hg (by have e2:k=g:=e;rw[<- e2];exact hk)))
theorem OT.to{t:TypeId}{B:Nat}{v:Value}{l:List Int}{w w':World}(h:OT t B v l w)(a:Ab w w'):OT t B v l w':=h.blkeq (fun k hk=>a.block k (h.blk hk).2)
theorem infoN:(Tryd.prog.info? 3).map (fun i=>(i.zero,i.size,i.bytes))=some (some (.int .i64 0),1,8):=by kernel_rfl
theorem info_n: ∃i,Tryd.prog.info? 3=some i/\i.zero=some (.int .i64 0)/\i.size=1/\i.bytes=8:=by
 have h:=infoN
 cases e:Tryd.prog.info? 3 with
 | none=>rw[e]at h;cases h
 | some i=>
  rw[e]at h
  injection h with h
  injection h with h1 h2
  injection h2 with h2 h3
  exact⟨i,rfl,h1,h2,h3⟩
theorem oJ{ops:Array Oper}{rest:List Oper}{o:Oper}{a:Act}{w:World}{Q:Exit->Act->World->Prop}(hgd:o.guard=none)(s x:Operand)
  (ho:o.op=.call {callee:=.builtin .append,args:= #[s,x],argTypes:= #[32,32]})
  (B:Nat) (v:Value) (l:List Int) (hs:a.eval s=v) (hown:OT 3 B v l w)
  (ad:Addr) (m c:Nat) (news:List Int) (hx:a.eval x=.slice (some ad) m c) (hl:news.length=m) (hnews: ∀j u,(news.map (Value.int .i64))[j]? =some u->w.cell? (ad.add j)=some u)
  (hm:0<m) (hlen:l.length+m<=1048576) (hB:B<=w.heap.size) (nm:Nat) (hnm:l.length+m=nm)
  (h: ∀g cap w',OT 3 B (.slice (some ⟨g,0,none⟩) nm cap) (l++news) w'->w.grownBy w' v.ownBlock->(v.ownBlock=some g\/g=w.heap.size)->B<=g->wpList prog ops Q rest (a.put o.dst (.slice (some ⟨g,0,none⟩) nm cap)) w'):wpList prog ops Q (o :: rest) a w:=by
 subst hnm
 obtain⟨i0,hi,hz0,hz1,hz2⟩:=info_n
 refine wpList_append_lies w hgd s x _ ho B 3 i0 (.int .i64 0) 1 8 underlying32 hi hz0 hz1 hz2 rfl (by decide) v l.length (l.map (Value.int .i64)) hs hown ad m c (news.map (Value.int .i64)) hx (by simpa using hl) hnews (fun u hu=>by
  obtain⟨y,_,rfl⟩:=List.mem_map.1 hu
  rfl) hm (by unfold maxLen;omega) (by omega) hB _ rfl ?_
 intro g cap w' o1 g1 e1 _
 have hb:B<=g:=by
  rcases o1.2 with⟨q,_⟩ | ⟨g2,_,_,q,hb,_⟩
  ·cases q
  ·injection q with q1 q2 q3
   injection q1 with q4
   injection q4 with q5
   omega
 refine h g cap w' ?_ g1 e1 hb
 unfold OT
 rw[List.length_append,List.map_append,hl]
 exact o1
end Spl
end
end Go.Proofs.YtjheiemgfibgpaaDoor
