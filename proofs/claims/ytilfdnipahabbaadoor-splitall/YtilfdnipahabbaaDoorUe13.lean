/-
  Some of the texts of this proof, one behind the other.
-/
import Derived.Deep.QuietTactic
import Derived.Test.YtilfdnipahabbaaDoorUe12
set_option maxRecDepth 100000
set_option maxHeartbeats 400000000
namespace Go.Proofs.YtilfdnipahabbaaDoor
open _root_.Go.Proofs.Tryd
section
open Go.RowKit Tf Cu Go.Deep
attribute [local go_sem] aL aM aP aQ aR aU aX aG
namespace Spl
theorem sS{gb:Nat}(w:World)(g:GridOf 1 gb w):
  Calls prog 10 #[.pointer (some ⟨gb,0,none⟩)] w fun e w'=> ∃b1 b2 b3 b4,e=.returned (.agg #[.slice (some ⟨b1,0,none⟩) 6 6,.slice (some ⟨b2,0,none⟩) 6 6,.slice (some ⟨b3,0,none⟩) 6 6,.slice (some ⟨b4,0,none⟩) 12 12,.int .i64 0,.int .i64 0])/\Below w.heap.size w w'/\w'.rowIs b1 66 6 (fun _=>.float .f64 0)/\w'.rowIs b2 2 6 (fun i=>.int .i64 (lkW i))/\w'.rowIs b3 2 6 (fun _=>.int .i64 0)/\w'.rowIs b4 66 12 (fun _=>.float .f64 0)/\((w.heap.size<=b1/\w.heap.size<=b2/\w.heap.size<=b3/\w.heap.size<=b4)/\b1≠b2/\b1≠b4/\b2≠b4/\b3≠b4/\b3≠b2):=by
 have CC:Hid (∀v,Ab w v->Calls prog 14 #[.pointer (some ⟨gb,0,none⟩)] v fun e w'=>e=.returned (.int .i64 6)/\w'=v):=fun v hv=>dT (g.to hv)
 have CE:Hid (∀v,Ab w v->Calls prog 15 #[.pointer (some ⟨gb,0,none⟩)] v fun e w'=>e=.returned (.int .i64 12)/\w'=v):=fun v hv=>cY (g.to hv)
 have M1: ∀v:World,(Instr.makeSlice 42 (.int .i64 6) (.int .i64 6)).run prog v=.ok (.slice (some ⟨v.heap.size,0,none⟩) 6 6) (v.alloc (Obj.cells (madeCells #[.float .f64 0] 6) 66)):=fun v=>by
  exact run_make_row' (P:=prog) 42 66 (.float .f64 0) 8 underlying42 iU rfl .i64 .i64 6 (by omega) (by omega) v
 have M2: ∀v:World,(Instr.makeSlice 43 (.int .i64 6) (.int .i64 6)).run prog v=.ok (.slice (some ⟨v.heap.size,0,none⟩) 6 6) (v.alloc (Obj.cells (madeCells #[.int .i64 0] 6) 2)):=fun v=>by
  exact run_make_row' (P:=prog) 43 2 (.int .i64 0) 8 underlying43 info64 rfl .i64 .i64 6 (by omega) (by omega) v
 have M3: ∀v:World,(Instr.makeSlice 42 (.int .i64 12) (.int .i64 12)).run prog v=.ok (.slice (some ⟨v.heap.size,0,none⟩) 12 12) (v.alloc (Obj.cells (madeCells #[.float .f64 0] 12) 66)):=fun v=>by
  exact run_make_row' (P:=prog) 42 66 (.float .f64 0) 8 underlying42 iU rfl .i64 .i64 12 (by omega) (by omega) v
 have AL: ∀v:World,(Instr.alloc 45 true (.tuple #[])).run prog v=.ok (.pointer (some ⟨v.heap.size,0,none⟩)) (v.alloc (.cells #[.slice none 0 0,.slice none 0 0,.slice none 0 0,.slice none 0 0,.int .i64 0,.int .i64 0] 45)):=fun v=>by
  simp[go_sem]
 have A0:=gQ (bl1 w (.cells #[.slice none 0 0,.slice none 0 0,.slice none 0 0,.slice none 0 0,.int .i64 0,.int .i64 0] 45))
 go_enter func10,ntmps10
 go_wp2_with fail
 refine(CC.out _ A0.out).mono ?_
 rintro e9 vq ⟨rfl,hvq⟩
 have hvq2:=hvq.symm
 subst hvq2
 go_wp2_with fail
 refine(CE.out _ A0.out).mono ?_
 rintro e9 vq ⟨rfl,hvq⟩
 have hvq2:=hvq.symm
 subst hvq2
 go_upto_region 4 with fail
 generalize hW:World.alloc w _=W at*
 go_cut [4]from 22 to 31 (fun s4 wx=> ∃g4 b1 b2 b3 b4,s4=.pointer (some ⟨g4,0,none⟩)/\Ab W wx/\wx.heap[g4]? =some (.cells #[.slice (some ⟨b1,0,none⟩) 6 6,.slice (some ⟨b2,0,none⟩) 6 6,.slice (some ⟨b3,0,none⟩) 6 6,.slice (some ⟨b4,0,none⟩) 12 12,.int .i64 0,.int .i64 0] 45)/\wx.heap[b1]? =some (Obj.cells (madeCells #[.float .f64 0] 6) 66)/\wx.heap[b2]? =some (Obj.cells (madeCells #[.int .i64 0] 6) 2)/\wx.heap[b3]? =some (Obj.cells (madeCells #[.int .i64 0] 6) 2)/\wx.heap[b4]? =some (Obj.cells (madeCells #[.float .f64 0] 12) 66)/\W.heap.size<=g4/\W.heap.size<=b1/\W.heap.size<=b2/\W.heap.size<=b3/\W.heap.size<=b4/\g4≠b1/\g4≠b2/\g4≠b3/\g4≠b4/\b1≠b2/\b1≠b3/\b1≠b4/\b2≠b3/\b2≠b4/\b3≠b4)
 case first=>
  obtain⟨UU,E,hF1,hF2⟩:=cls W.drew
  have HU:=hid hF2
  clear hF1 hF2
  refine cM 11 (fun k=>if k=1 then some ((Obj.cells (madeCells #[.float .f64 0] 6) 66),fun b=>.slice (some ⟨b,0,none⟩) 6 6)else if k=3 then some ((Obj.cells (madeCells #[.int .i64 0] 6) 2),fun b=>.slice (some ⟨b,0,none⟩) 6 6)else if k=5 then some ((Obj.cells (madeCells #[.int .i64 0] 6) 2),fun b=>.slice (some ⟨b,0,none⟩) 6 6)else if k=8 then some ((Obj.cells (madeCells #[.float .f64 0] 12) 66),fun b=>.slice (some ⟨b,0,none⟩) 12 12)else if k=10 then some ((.cells #[.slice none 0 0,.slice none 0 0,.slice none 0 0,.slice none 0 0,.int .i64 0,.int .i64 0] 45),fun b=>.pointer (some ⟨b,0,none⟩))else none) (by kernel_rfl) (by kernel_rfl) (by kernel_rfl) ?_
  simp only[List.take_succ_cons,List.take_zero]
  refine aD HU (by rfl) (by rfl) ?_
  go_big_quiet_step (with_reducible rfl)
  refine wpQuiet_nil ?_
  refine aO (ob:=(Obj.cells (madeCells #[.float .f64 0] 6) 66)) (mk:=fun b=>.slice (some ⟨b,0,none⟩) 6 6) (by rfl) (by kernel_rfl) ?_ ?_
  ·refine gM (vx:=.int .i64 6) (vy:=.int .i64 6) (ob:=(Obj.cells (madeCells #[.float .f64 0] 6) 66)) (mk:=fun b=>.slice (some ⟨b,0,none⟩) 6 6) rfl ?_ ?_ ?_
   ·rfl
   ·rfl
   ·exact M1
  intro b1 fb1
  simp only[Act.put,List.setIfInBounds_toArray,List.set_cons_succ,List.set_cons_zero]
  refine aD HU (by rfl) (by rfl) ?_
  go_big_quiet_step (with_reducible rfl)
  refine wpQuiet_nil ?_
  refine aO (ob:=(Obj.cells (madeCells #[.int .i64 0] 6) 2)) (mk:=fun b=>.slice (some ⟨b,0,none⟩) 6 6) (by rfl) (by kernel_rfl) ?_ ?_
  ·refine gM (vx:=.int .i64 6) (vy:=.int .i64 6) (ob:=(Obj.cells (madeCells #[.int .i64 0] 6) 2)) (mk:=fun b=>.slice (some ⟨b,0,none⟩) 6 6) rfl ?_ ?_ ?_
   ·rfl
   ·rfl
   ·exact M2
  intro b2 fb2
  simp only[Act.put,List.setIfInBounds_toArray,List.set_cons_succ,List.set_cons_zero]
  refine aD HU (by rfl) (by rfl) ?_
  go_big_quiet_step (with_reducible rfl)
  refine wpQuiet_nil ?_
  refine aO (ob:=(Obj.cells (madeCells #[.int .i64 0] 6) 2)) (mk:=fun b=>.slice (some ⟨b,0,none⟩) 6 6) (by rfl) (by kernel_rfl) ?_ ?_
  ·refine gM (vx:=.int .i64 6) (vy:=.int .i64 6) (ob:=(Obj.cells (madeCells #[.int .i64 0] 6) 2)) (mk:=fun b=>.slice (some ⟨b,0,none⟩) 6 6) rfl ?_ ?_ ?_
   ·rfl
   ·rfl
   ·exact M2
  intro b3 fb3
  simp only[Act.put,List.setIfInBounds_toArray,List.set_cons_succ,List.set_cons_zero]
  refine aD HU (by rfl) (by rfl) ?_
  go_big_quiet_step (with_reducible rfl)
  refine wpQuiet_nil ?_
  refine aD HU (by rfl) (by rfl) ?_
  go_big_quiet_step (with_reducible rfl)
  refine wpQuiet_nil ?_
  refine aO (ob:=(Obj.cells (madeCells #[.float .f64 0] 12) 66)) (mk:=fun b=>.slice (some ⟨b,0,none⟩) 12 12) (by rfl) (by kernel_rfl) ?_ ?_
  ·refine gM (vx:=.int .i64 12) (vy:=.int .i64 12) (ob:=(Obj.cells (madeCells #[.float .f64 0] 12) 66)) (mk:=fun b=>.slice (some ⟨b,0,none⟩) 12 12) rfl ?_ ?_ ?_
   ·rfl
   ·rfl
   ·exact M3
  intro b4 fb4
  simp only[Act.put,List.setIfInBounds_toArray,List.set_cons_succ,List.set_cons_zero]
  refine aD HU (by rfl) (by rfl) ?_
  go_big_quiet_step (with_reducible rfl)
  refine wpQuiet_nil ?_
  refine aO (ob:=(.cells #[.slice none 0 0,.slice none 0 0,.slice none 0 0,.slice none 0 0,.int .i64 0,.int .i64 0] 45)) (mk:=fun b=>.pointer (some ⟨b,0,none⟩)) (by rfl) (by kernel_rfl) ?_ ?_
  ·refine sR (ob:=(.cells #[.slice none 0 0,.slice none 0 0,.slice none 0 0,.slice none 0 0,.int .i64 0,.int .i64 0] 45)) (mk:=fun b=>.pointer (some ⟨b,0,none⟩)) rfl ?_
   ·exact AL
  intro g4 fg4
  simp only[Act.put,List.setIfInBounds_toArray,List.set_cons_succ,List.set_cons_zero]
  refine dC ?_
  intro wz hz
  have h1:=hz.at (i:=1) (b:=b1) (ob:=(Obj.cells (madeCells #[.float .f64 0] 6) 66)) (by rfl) (by rfl)
  have h2:=hz.at (i:=3) (b:=b2) (ob:=(Obj.cells (madeCells #[.int .i64 0] 6) 2)) (by rfl) (by rfl)
  have h3:=hz.at (i:=5) (b:=b3) (ob:=(Obj.cells (madeCells #[.int .i64 0] 6) 2)) (by rfl) (by rfl)
  have h4:=hz.at (i:=8) (b:=b4) (ob:=(Obj.cells (madeCells #[.float .f64 0] 12) 66)) (by rfl) (by rfl)
  have h5:=hz.at (i:=10) (b:=g4) (ob:=(.cells #[.slice none 0 0,.slice none 0 0,.slice none 0 0,.slice none 0 0,.int .i64 0,.int .i64 0] 45)) (by rfl) (by rfl)
  have n12:b1≠b2:=fb2.2 1 b1 (by rfl)
  have n13:b1≠b3:=fb3.2 1 b1 (by rfl)
  have n14:b1≠b4:=fb4.2 1 b1 (by rfl)
  have n15:b1≠g4:=fg4.2 1 b1 (by rfl)
  have n23:b2≠b3:=fb3.2 3 b2 (by rfl)
  have n24:b2≠b4:=fb4.2 3 b2 (by rfl)
  have n25:b2≠g4:=fg4.2 3 b2 (by rfl)
  have n34:b3≠b4:=fb4.2 5 b3 (by rfl)
  have n35:b3≠g4:=fg4.2 5 b3 (by rfl)
  have n45:b4≠g4:=fg4.2 8 b4 (by rfl)
  have AZ:Ab W wz:=(Ab.refl W).drew.trans hz.1
  have RZ:=hid h5.1
  have HH:=hid (And.intro h1 (And.intro h2 (And.intro h3 (And.intro h4 h5))))
  have NN:=hid (And.intro n12 (And.intro n13 (And.intro n14 (And.intro n15 (And.intro n23 (And.intro n24 (And.intro n25 (And.intro n34 (And.intro n35 n45)))))))))
  have HAZ:=hid AZ
  clear hz fb1 fb2 fb3 fb4 fg4 h1 h2 h3 h4 h5 n12 n13 n14 n15 n23 n24 n25 n34 n35 n45 AZ HU
  clear E UU
  have t0:=bJ RZ.out
  have f0:=cE RZ.out
  simp only[List.drop_succ_cons,List.drop_zero]
  go_wp2_with fail
  go_meet
  obtain⟨⟨k1,l1⟩,⟨k2,l2⟩,⟨k3,l3⟩,⟨k4,l4⟩,⟨k5,l5⟩⟩:=HH.out
  obtain⟨n12,n13,n14,n15,n23,n24,n25,n34,n35,n45⟩:=NN.out
  have st: ∀(b:Nat) (o:Obj),b≠g4->wz.heap[b]? =some o-> ∀x0 x1 x2 x3 x4 x5,((((((wz.setCell ⟨g4,0,none⟩ x0).setCell ⟨g4,1,none⟩ x1).setCell ⟨g4,2,none⟩ x2).setCell ⟨g4,3,none⟩ x3).setCell ⟨g4,4,none⟩ x4).setCell ⟨g4,5,none⟩ x5).heap[b]? =some o:=fun b o hb h x0 x1 x2 x3 x4 x5=>by
   rw[aH hb,aH hb,aH hb,aH hb,aH hb,aH hb]
   exact h
  refine⟨g4,b1,b2,b3,b4,rfl,?_,row6 k5,st b1 _ n15 k1 _ _ _ _ _ _,st b2 _ n25 k2 _ _ _ _ _ _,st b3 _ n35 k3 _ _ _ _ _ _,st b4 _ n45 k4 _ _ _ _ _ _,l5,l1,l2,l3,l4,Ne.symm n15,Ne.symm n25,Ne.symm n35,Ne.symm n45,n12,n13,n14,n23,n24,n34⟩
  exact(((((HAZ.out.setk l5 _).setk l5 _).setk l5 _).setk l5 _).setk l5 _).setk l5 _
 case rest=>
  obtain⟨g4,b1,b2,b3,b4,rfl,a4,r4,m1,m2,m3,m4,l5,l1,l2,l3,l4,n51,n52,n53,n54,n12,n13,n14,n23,n24,n34⟩:=hcut
  obtain⟨gd,hgd⟩:=aC w.heap.size
  have HL:Hid (gd+1<=b1/\gd+1<=b2/\gd+1<=b3/\gd+1<=b4/\gd+1<=g4):=by
   rw[<- hW,cH]at l1 l2 l3 l4 l5
   rw[<- hgd]
   exact⟨l1,l2,l3,l4,l5⟩
  have NN:Hid (g4≠b2/\b1≠b2/\b3≠b2/\b4≠b2/\b1≠b4/\b3≠b4):=⟨n52,n12,Ne.symm n23,Ne.symm n24,n14,n34⟩
  have ZR:Hid (W.heap[gd]? =some (.cells #[.slice none 0 0,.slice none 0 0,.slice none 0 0,.slice none 0 0,.int .i64 0,.int .i64 0] 45)):=by rw[<- hW,<- hgd];exact heap_alloc_new _ _
  have AWW:Hid (Ab w W):=A0.out
  have FI:=hid (show LkI w gd g4 b1 b2 b3 b4 0 wc from⟨AWW.out.trans a4,r4,Ab.heap a4 ZR.out,bV m1,(bV m2).congr (fun i _=>by simp),bV m3,bV m4⟩)
  have HG:=hid g
  have HN:Hid (w.heap.size=gd):=hgd
  rw[hgd]
  clear a4 r4 m1 m2 m3 m4 l1 l2 l3 l4 l5 n51 n52 n53 n54 n12 n13 n14 n23 n24 n34 hgd hW ZR AWW g CC CE M1 M2 M3 AL A0
  go_wp2
  go_loopw [5] (fun iv wr=> ∃c:Nat,c<=6/\iv=.int .i64 (c:Nat)/\LkI w gd g4 b1 b2 b3 b4 c wr) (fun iv _=>6 - (intOf iv).toNat)
  case atStart=>exact⟨0,by omega,rfl,FI.out⟩
  case round=>
   obtain⟨c,hc,rfl,F⟩:=hrel
   clear FI
   have FF:=hid F
   clear F
   by_cases hc6:c<6
   ·have hc':(c:Int)<6:=by omega
    have HC6:=hid hc6
    have AR:Hid (∀v,Ab w v->Calls prog 12 #[.pointer (some ⟨gb,0,none⟩),.int .i64 (c:Nat)] v fun e w'=>e=.returned (.int .i64 1431655765)/\Below v.heap.size v w'):=fun v hv=>by
     have h:=nY (n:=1) (by decide) hc6 (HG.out.to hv)
     rwa [ar13 c hc6]at h
    clear hc6
    go_upto_region 8 with fail
    obtain⟨UU,E,hF1,hF2⟩:=cls wr
    have HU:=hid hF2
    have HU1:=hid hF1
    have x1: ∀u,(E u).cell? ⟨g4,1,none⟩=some (.slice (some ⟨b2,0,none⟩) 6 6):=fun u=>aA 1 (FF.out.to (hF1 u)).2.1
    have HX:Hid (∀u,Ab w (E u)):=fun u=>(FF.out.to (hF1 u)).1
    have DD0:=HU.out _ (Ab.refl wr).drew
    clear hF1 hF2
    refine iK 7 E (by kernel_rfl) (by kernel_rfl) (by kernel_rfl) DD0 ?_
    simp only[List.take_succ_cons,List.take_zero,List.drop_succ_cons,List.drop_zero]
    repeat(go_big_quiet_step (first
     | (with_reducible rfl)
     | (go_at_call 12;exact aF HU HU1 (AR.out _ (HX.out _)))))
    refine wpQuiet_nil ?_
    intro vz hwz
    obtain⟨u0,hu⟩:=hwz
    have AZ:Hid (Ab wr vz):=by rw[hu];exact HU1.out u0
    clear hu u0
    clear HU HU1 HX DD0 x1
    clear E UU
    have FZ:=hid (FF.out.to AZ.out)
    have z1:=FZ.out.2.2.2.2.1.cell HC6.out
    have z2:=FZ.out.2.2.2.2.1.frozen c
    go_upto_region 9 with fail
    have F2:=hid (FZ.out.set NN.out HL.out c 1431655765 (by rw[HN.out];exact Nat.le_refl _))
    clear z1 z2 FZ FF AZ
    generalize World.setCell vz _ _=v2 at*
    by_cases c1:c=1
    ·subst c1
     have y1:=aA 1 F2.out.2.1
     have p1:v2.cell? ⟨b2,1,none⟩=some (.int .i64 1431655765):=by rw[F2.out.2.2.2.2.1.cell HC6.out];simp
     have p2:=F2.out.2.2.2.2.1.frozen 1
     go_upto_region 10 with fail
     clear y1 p1 p2
     obtain⟨UU,E,hF1,hF2⟩:=cls v2
     have HU:=hid hF2
     have HU1:=hid hF1
     have x1: ∀u,(E u).cell? ⟨g4,1,none⟩=some (.slice (some ⟨b2,0,none⟩) 6 6):=fun u=>aA 1 ((hF1 u).heap F2.out.2.1)
     have x2: ∀u,(E u).cell? ⟨b2,1,none⟩=some (.int .i64 1431655765):=fun u=>by rw[(rowIs.ab F2.out.2.2.2.2.1 (hF1 u)).cell HC6.out];simp
     have DD0:=HU.out _ (Ab.refl v2).drew
     clear hF1 hF2
     refine iK 10 E (by kernel_rfl) (by kernel_rfl) (by kernel_rfl) DD0 ?_
     simp only[List.take_succ_cons,List.take_zero,List.drop_succ_cons,List.drop_zero]
     repeat(go_big_quiet_step (with_reducible rfl))
     refine wpQuiet_nil ?_
     intro vz hwz
     obtain⟨u0,hu⟩:=hwz
     have AZ:Hid (Ab v2 vz):=by rw[hu];exact HU1.out u0
     clear hu u0
     clear HU HU1 DD0 x1 x2
     clear E UU
     have F3:=hid (F2.out.to2 AZ.out)
     have z1:=F3.out.2.2.2.2.1.cell HC6.out
     have z2:=F3.out.2.2.2.2.1.frozen 1
     go_wp2
     refine⟨⟨2,by omega,by simp,?_⟩,by simp[intOf]⟩
     exact(F3.out.set NN.out HL.out 1 2863311530 (by rw[HN.out];exact Nat.le_refl _)).fin (fun i=>by
      by_cases e:i=1
      ·simp[e,lkW]
      ·by_cases e2:i<1
       ·have:i<2:=by omega
        simp[e,e2,this]
       ·have: ¬i<2:=by omega
        simp[e,e2,this])
    ·have c2:((c:Int)==1)=false:=by rw[beq_eq_false_iff_ne];omega
     go_wp2
     refine⟨⟨c+1,by have:=HC6.out;omega,by simp,?_⟩,by simp[intOf];have:=HC6.out;omega⟩
     exact F2.out.fin (fun i=>by
      by_cases e:i=c
      ·subst e
       simp[lkW,c1]
      ·by_cases l:i<c
       ·simp[e,l,show i<c+1 by omega]
       ·simp[e,l,show¬i<c+1 by omega])
   ·have e6:c=6:=by omega
    subst e6
    obtain⟨s0,s1,s2,s3,s4,s5⟩:=bJ FF.out.2.1
    have RZ:=FF.out.2.2.1
    have t0:=bJ RZ
    have f0:=cE RZ
    have ROW:=hid (row6 (x:=.slice (some ⟨b1,0,none⟩) 6 6) (y:=.slice (some ⟨b2,0,none⟩) 6 6) (z:=.slice (some ⟨b3,0,none⟩) 6 6) (p:=.slice (some ⟨b4,0,none⟩) 12 12) (q:=.int .i64 0) (r:=.int .i64 0) RZ)
    clear RZ
    go_wp2
    have BN:Hid (b1≠gd/\b2≠gd/\b3≠gd/\b4≠gd):=by
     have:=HL.out
     exact⟨by omega,by omega,by omega,by omega⟩
    have G1:=FF.out.2.2.2.1
    have G2:=FF.out.2.2.2.2.1
    have G3:=FF.out.2.2.2.2.2.1
    have G4:=FF.out.2.2.2.2.2.2
    have GA:=FF.out.1
    refine bodyPost_ret ?_ rfl ⟨b1,b2,b3,b4,rfl,?_,?_,?_,?_,?_,?_⟩
    ·exact results_cell_row results10 _ _ gd _ _ (0,0) _ rfl ROW.out underlying45 rfl (by kernel_rfl)
    ·exact(((((GA.setk (by rw[HN.out];omega) _).setk (by rw[HN.out];omega) _).setk (by rw[HN.out];omega) _).setk (by rw[HN.out];omega) _).setk (by rw[HN.out];omega) _).setk (by rw[HN.out];omega) _
    ·exact(((((G1.setOther BN.out.1 _).setOther BN.out.1 _).setOther BN.out.1 _).setOther BN.out.1 _).setOther BN.out.1 _).setOther BN.out.1 _
    ·exact((((((G2.congr (fun i hi=>by simp[hi])).setOther BN.out.2.1 _).setOther BN.out.2.1 _).setOther BN.out.2.1 _).setOther BN.out.2.1 _).setOther BN.out.2.1 _).setOther BN.out.2.1 _
    ·exact(((((G3.setOther BN.out.2.2.1 _).setOther BN.out.2.2.1 _).setOther BN.out.2.2.1 _).setOther BN.out.2.2.1 _).setOther BN.out.2.2.1 _).setOther BN.out.2.2.1 _
    ·exact(((((G4.setOther BN.out.2.2.2 _).setOther BN.out.2.2.2 _).setOther BN.out.2.2.2 _).setOther BN.out.2.2.2 _).setOther BN.out.2.2.2 _).setOther BN.out.2.2.2 _
    ·have:=HL.out
     exact⟨⟨by rw[HN.out];omega,by rw[HN.out];omega,by rw[HN.out];omega,by rw[HN.out];omega⟩,NN.out.2.1,NN.out.2.2.2.2.1,Ne.symm NN.out.2.2.2.1,NN.out.2.2.2.2.2,NN.out.2.2.1⟩
end Spl
end
section
open Tf Ieee
def ps(a:Nat):Bool:=decide (0<a/\a<=9218868437227405312)
def op(x:Nat):Nat:=if x=0 then 0 else x+9223372036854775808
end
section
open Go.RowKit Tf Cu Go.Deep
attribute [local go_sem] aL aM aP aQ aR aU aX aG
namespace Spl
theorem bW(pa pb:Option Addr)(len ca cb:Nat)(xs:Nat->Int)(w:World)(hl:len<=281474976710656)(hA:Sh.IsI w pa len xs)(hB:Sh.IsI w pb len xs):
  Calls prog 9 #[.slice pa len ca,.slice pb len cb] w fun e w'=>e=.returned (.bool true)/\Below w.heap.size w w':=by
 have HA:=hid hA
 have HB:=hid hB
 have HL:=hid hl
 clear hA hB hl
 go_enter func9,ntmps9
 go_wp2
 go_loopw [5] (fun iv wr=> ∃c:Nat,c<=len/\iv=.int .i64 (c:Nat)/\Ab w wr) (fun iv _=>len - (intOf iv).toNat)
 case atStart=>exact⟨0,by omega,rfl,Ab.refl w⟩
 case round=>
  obtain⟨c,hc,rfl,ar⟩:=hrel
  have AR:=hid ar
  clear ar
  by_cases h:c<len
  ·have HC:=hid h
   obtain⟨x,hx⟩:=aC (xs c)
   obtain⟨-,b1,o1,e1,l1,c1⟩:=HA.out c h
   obtain⟨-,b2,o2,e2,l2,c2⟩:=HB.out c h
   rw[hx]at c1 c2
   have C1:=hid c1
   have C2:=hid c2
   have L1:=hid l1
   have L2:=hid l2
   have hcI:(c:Int)<len:=by omega
   have hcB:(c:Int)<=281474976710656:=by have:=HL.out;omega
   clear c1 c2 l1 l2 hx h
   subst e1 e2
   go_upto_region 6 with fail
   obtain⟨UU,E,hF1,hF2⟩:=cls wr
   have HU:=hid hF2
   have HU1:=hid hF1
   have x1: ∀u,(E u).cell? ⟨b1,o1+c,none⟩=some (.int .i64 x):=fun u=>(Below.cell (AR.out.trans (hF1 u)) L1.out).trans C1.out
   have x2: ∀u,(E u).cell? ⟨b2,o2+c,none⟩=some (.int .i64 x):=fun u=>(Below.cell (AR.out.trans (hF1 u)) L2.out).trans C2.out
   have DD0:=HU.out _ (Ab.refl wr).drew
   clear hF1 hF2
   refine aK E (by kernel_rfl) (by kernel_rfl) DD0 ?_
   repeat(go_big_quiet_step (with_reducible rfl))
   refine wpQuiet_nil ?_
   intro z hwz
   obtain⟨u0,hu⟩:=hwz
   have AZ:Hid (Ab w z):=by rw[hu];exact AR.out.trans (HU1.out u0)
   clear hu u0
   clear HU HU1 DD0 x1 x2
   clear E UU
   go_wp2
   go_roundw
   case rel=>exact⟨c+1,by have:=HC.out;omega,by simp,AZ.out⟩
   case measure=>simp[intOf];have:=HC.out;omega
  ·have e:len=c:=by omega
   subst e
   go_wp2
   go_ret
   exact⟨rfl,AR.out⟩
end Spl
end
section
open Go.RowKit Tf Cu Go.Deep
attribute [local go_sem] aL aM aP aQ aR aU aX aG
namespace Spl
theorem lv_0:lsP 1 6 0=[0]:=by decide+kernel
theorem lv_1:lsP 1 6 1=[0,1,2,3]:=by decide+kernel
theorem lv_15:lsP 1 6 15=[5]:=by decide+kernel
theorem lv_16:lsP 1 6 16=[]:=by decide+kernel
theorem lv_17:lsP 1 6 17=[]:=by decide+kernel
theorem one_in22(v:World):Sh.IsI (v.alloc (.cells #[.int .i64 0] 3)) (some ⟨v.heap.size,0,none⟩) 1 (rd [0]):=by
 have h:=heap_alloc_new v (.cells #[.int .i64 0] 3)
 intro k hk
 match k,hk with
 | 0,_=>exact⟨by decide,_,0,rfl,lt_of_block h,aA 0 h⟩
theorem sT(v:World):Sh.IsI (v.alloc (.cells #[.int .i64 0,.int .i64 1,.int .i64 2,.int .i64 3] 3)) (some ⟨v.heap.size,0,none⟩) 4 (rd [0,1,2,3]):=by
 have h:=heap_alloc_new v (.cells #[.int .i64 0,.int .i64 1,.int .i64 2,.int .i64 3] 3)
 intro k hk
 match k,hk with
 | 0,_=>exact⟨by decide,_,0,rfl,lt_of_block h,aA 0 h⟩
 | 1,_=>exact⟨by decide,_,0,rfl,lt_of_block h,aA 1 h⟩
 | 2,_=>exact⟨by decide,_,0,rfl,lt_of_block h,aA 2 h⟩
 | 3,_=>exact⟨by decide,_,0,rfl,lt_of_block h,aA 3 h⟩
theorem lk_in: ∀k,k<6-> -9223372036854775808<=lkW k/\lkW k<=9223372036854775807:=by decide+kernel
theorem lv_w0:shW (mk2 1 0 (rd [5]) (rd [])) lkW 0=0:=by decide+kernel
theorem lv_w5:shW (mk2 1 0 (rd [5]) (rd [])) lkW 5=1431655765:=by decide+kernel
theorem lv_fit:fit22 1 1 0 0 (rd [5]) (rd []) (rd []) 6 6 6 12:=by
 refine⟨⟨rfl,rfl,rfl,rfl⟩,fun i hi=> ?_,fun i hi=>absurd hi (by omega),fun i hi=>absurd hi (by omega)⟩
 match i,hi with
 | 0,_=>exact⟨by decide,by decide⟩
theorem lv_bnd:Bnd 6 6 6 12 (shB (mk2 1 0 (rd [5]) (rd [])) (fun _=>0)) (shW (mk2 1 0 (rd [5]) (rd [])) lkW) (shW (mk2 1 0 (rd [5]) (rd [])) (fun _=>0)) (shB (hs 0 (rd [])) (fun _=>0)):=by
 refine⟨fun i _=> ?_,fun i hi=> ?_,fun i _=> ?_,fun i _=> ?_⟩
 ·unfold shB;split<;>exact(by decide:0<18446744073709551616)
 ·unfold shW;split
  ·exact lk_in i hi
  ·unfold W64;decide
 ·unfold shW;split<;>exact(by unfold W64;decide:W64 0)
 ·unfold shB;split<;>exact(by decide:0<18446744073709551616)
theorem pY(SC:SplitC)(LC:LocalC)(w:World)(hF:Fr w):Calls prog 4 #[] w fun e w'=>e=.returned (.bool true)/\Below w.heap.size w w':=by
 have NW:=hid (new_at 1 w (by omega) hF)
 have HS:=hid SC
 have HL:=hid LC
 clear hF SC LC
 go_enter func4,ntmps4
 go_wp2_with fail
 refine NW.out.mono ?_
 rintro e v1 ⟨gb,rfl,a1,-,g1⟩
 have A1:Hid (Ab w v1):=a1
 have G1:Hid (GridOf 1 gb v1):=g1
 clear a1 g1 NW
 go_wp2_with fail
 refine((HS.out 1 gb 6 v1 (by omega) G1.out (by unfold W64;omega)).1 (by omega)).mono ?_
 rintro e v2 ⟨gl,gc,ge,X,rfl,b2,os⟩
 obtain⟨p,c,-,ps⟩:=kY (P:=6) (by omega) os
 have P2:Hid (PsAt 1 6 gl p c v2):=ps
 have A2:Hid (Ab w v2):=A1.out.trans b2
 have G2:=hid (G1.out.to b2)
 clear os ps b2 A1 G1
 have e6:(6:Int).toNat=6:=rfl
 rw[e6]
 have c0:v2.cell? ⟨gl,0,none⟩=some (.slice (p 0) 1 (c 0)):=by have h:=(P2.out.2 0 (by decide)).1;rw[lv_0]at h;exact h
 go_wp2_with fail
 have N1:=hid (bW (p 0) (some ⟨v2.heap.size,0,none⟩) 1 (c 0) 1 (rd [0]) (v2.alloc (.cells #[.int .i64 0] 3)) (by omega) (by have h:=(P2.out.2 0 (by decide)).2;rw[lv_0]at h;exact h.below (bl1 _ _)) (one_in22 v2))
 refine N1.out.mono ?_
 rintro e v3 ⟨rfl,b3⟩
 have B3:Hid (Ab v2 v3):=Ab.trans (bl1 v2 (.cells #[.int .i64 0] 3)) b3
 have A3:Hid (Ab w v3):=A2.out.trans B3.out
 have P3:=hid (P2.out.to B3.out)
 have G3:=hid (G2.out.to B3.out)
 clear N1 b3 A2 P2 G2 B3 c0
 have c1:v3.cell? ⟨gl,1,none⟩=some (.slice (p 1) 4 (c 1)):=by have h:=(P3.out.2 1 (by decide)).1;rw[lv_1]at h;exact h
 go_wp2_with fail
 have N1:=hid (bW (p 1) (some ⟨v3.heap.size,0,none⟩) 4 (c 1) 4 (rd [0,1,2,3]) (v3.alloc (.cells #[.int .i64 0,.int .i64 1,.int .i64 2,.int .i64 3] 3)) (by omega) (by have h:=(P3.out.2 1 (by decide)).2;rw[lv_1]at h;exact h.below (bl1 _ _)) (sT v3))
 refine N1.out.mono ?_
 rintro e v4 ⟨rfl,b4⟩
 have B4:Hid (Ab v3 v4):=Ab.trans (bl1 v3 (.cells #[.int .i64 0,.int .i64 1,.int .i64 2,.int .i64 3] 3)) b4
 have A4:Hid (Ab w v4):=A3.out.trans B4.out
 have P4:=hid (P3.out.to B4.out)
 have G4:=hid (G3.out.to B4.out)
 clear N1 b4 A3 P3 G3 B4 c1
 have c16:v4.cell? ⟨gl,16,none⟩=some (.slice (p 16) 0 (c 16)):=by have h:=(P4.out.2 16 (by decide)).1;rw[lv_16]at h;exact h
 go_wp2_with fail
 have LK:=hid (sS v4 G4.out)
 refine LK.out.mono ?_
 rintro e v5 ⟨b1,b2,b3,b4,rfl,k5,r1,r2,r3,r4,nb⟩
 have AV:Hid (Ab v4 (v5.alloc (.cells #[.slice (some ⟨b1,0,none⟩) 6 6,.slice (some ⟨b2,0,none⟩) 6 6,.slice (some ⟨b3,0,none⟩) 6 6,.slice (some ⟨b4,0,none⟩) 12 12,.int .i64 0,.int .i64 0] 45))):=Ab.alloc (show Ab v4 v5 from k5) _
 have SR:=hid (heap_alloc_new v5 (.cells #[.slice (some ⟨b1,0,none⟩) 6 6,.slice (some ⟨b2,0,none⟩) 6 6,.slice (some ⟨b3,0,none⟩) 6 6,.slice (some ⟨b4,0,none⟩) 12 12,.int .i64 0,.int .i64 0] 45))
 have I1:Hid (IsFl (v5.alloc (.cells #[.slice (some ⟨b1,0,none⟩) 6 6,.slice (some ⟨b2,0,none⟩) 6 6,.slice (some ⟨b3,0,none⟩) 6 6,.slice (some ⟨b4,0,none⟩) 12 12,.int .i64 0,.int .i64 0] 45)) (some ⟨b1,0,none⟩) 6 (fun _=>0)):=rowIs.fl (r1.alloc _) (fun _ _=>by decide)
 have I2:Hid (Sh.IsI (v5.alloc (.cells #[.slice (some ⟨b1,0,none⟩) 6 6,.slice (some ⟨b2,0,none⟩) 6 6,.slice (some ⟨b3,0,none⟩) 6 6,.slice (some ⟨b4,0,none⟩) 12 12,.int .i64 0,.int .i64 0] 45)) (some ⟨b2,0,none⟩) 6 lkW):=Sh.row_in (r2.alloc _) lk_in
 have I3:Hid (Sh.IsI (v5.alloc (.cells #[.slice (some ⟨b1,0,none⟩) 6 6,.slice (some ⟨b2,0,none⟩) 6 6,.slice (some ⟨b3,0,none⟩) 6 6,.slice (some ⟨b4,0,none⟩) 12 12,.int .i64 0,.int .i64 0] 45)) (some ⟨b3,0,none⟩) 6 (fun _=>0)):=Sh.row_in (r3.alloc _) (fun _ _=>by decide)
 have I4:Hid (IsFl (v5.alloc (.cells #[.slice (some ⟨b1,0,none⟩) 6 6,.slice (some ⟨b2,0,none⟩) 6 6,.slice (some ⟨b3,0,none⟩) 6 6,.slice (some ⟨b4,0,none⟩) 12 12,.int .i64 0,.int .i64 0] 45)) (some ⟨b4,0,none⟩) 12 (fun _=>0)):=rowIs.fl (r4.alloc _) (fun _ _=>by decide)
 have NB:Hid (v5.heap.size≠b1/\v5.heap.size≠b2/\v5.heap.size≠b3/\v5.heap.size≠b4/\v4.heap.size<=v5.heap.size):=⟨by have:=r1.lt;omega,by have:=r2.lt;omega,by have:=r3.lt;omega,by have:=r4.lt;omega,Ab.size (show Ab v4 v5 from k5)⟩
 clear k5 r1 r2 r3 r4 nb LK c16
 go_upto_region 8 with fail
 generalize hW:World.alloc v5 _=V6 at*
 obtain⟨gs,hgs⟩:=aC v5.heap.size
 rw[hgs]at SR NB ⊢
 clear hW hgs
 have x4:=aA 4 SR.out
 have x5:=aA 5 SR.out
 have f4:=aE SR.out 4
 have SR2:Hid ((V6.setCell ⟨gs,4,none⟩ (.int .i64 9)).heap[gs]? =some (.cells #[.slice (some ⟨b1,0,none⟩) 6 6,.slice (some ⟨b2,0,none⟩) 6 6,.slice (some ⟨b3,0,none⟩) 6 6,.slice (some ⟨b4,0,none⟩) 12 12,.int .i64 9,.int .i64 0] 45)):=aI SR.out
 have y5:=aA 5 SR2.out
 have f5:=aE SR2.out 5
 have SR3:Hid (((V6.setCell ⟨gs,4,none⟩ (.int .i64 9)).setCell ⟨gs,5,none⟩ (.int .i64 8)).heap[gs]? =some (.cells #[.slice (some ⟨b1,0,none⟩) 6 6,.slice (some ⟨b2,0,none⟩) 6 6,.slice (some ⟨b3,0,none⟩) 6 6,.slice (some ⟨b4,0,none⟩) 12 12,.int .i64 9,.int .i64 8] 45)):=aI SR2.out
 have ne: ∀b:Nat,gs≠b-> ∀c o,(some ⟨b,0,none⟩:Option Addr)=some ⟨c,o,none⟩->c≠gs:=fun b h c o e=>by injection e with e;injection e with e1 e2;subst e1;exact fun q=>h q.symm
 have J1:=hid (cD (g:=gs) (k:=5) (.int .i64 8) (cD (g:=gs) (k:=4) (.int .i64 9) I1.out (ne _ NB.out.1)) (ne _ NB.out.1))
 have J2:=hid (dM (g:=gs) (k:=5) (.int .i64 8) (dM (g:=gs) (k:=4) (.int .i64 9) I2.out (ne _ NB.out.2.1)) (ne _ NB.out.2.1))
 have J3:=hid (dM (g:=gs) (k:=5) (.int .i64 8) (dM (g:=gs) (k:=4) (.int .i64 9) I3.out (ne _ NB.out.2.2.1)) (ne _ NB.out.2.2.1))
 have J4:=hid (cD (g:=gs) (k:=5) (.int .i64 8) (cD (g:=gs) (k:=4) (.int .i64 9) I4.out (ne _ NB.out.2.2.2.1)) (ne _ NB.out.2.2.2.1))
 have A7:Hid (Ab v4 ((V6.setCell ⟨gs,4,none⟩ (.int .i64 9)).setCell ⟨gs,5,none⟩ (.int .i64 8))):=(AV.out.setk NB.out.2.2.2.2 _).setk NB.out.2.2.2.2 _
 go_upto_region 10 with fail
 generalize hW:(V6.setCell ⟨gs,4,none⟩ (.int .i64 9)).setCell ⟨gs,5,none⟩ (.int .i64 8)=v7 at*
 clear hW x4 x5 f4 f5 y5 SR SR2 I1 I2 I3 I4 AV ne
 have P7:=hid (P4.out.to A7.out)
 have G7:=hid (G4.out.to A7.out)
 have B7:Hid (Ab w v7):=A4.out.trans A7.out
 clear P4 G4 A4 A7
 have K15:Hid (v7.cell? ⟨gl,15,none⟩=some (.slice (p 15) 1 (c 15))/\Sh.IsI v7 (p 15) 1 (rd [5])):=by have h:=P7.out.2 15 (by decide);rw[lv_15]at h;exact h
 have K16:Hid (v7.cell? ⟨gl,16,none⟩=some (.slice (p 16) 0 (c 16))/\Sh.IsI v7 (p 16) 0 (rd [])):=by have h:=P7.out.2 16 (by decide);rw[lv_16]at h;exact h
 have K17:Hid (v7.cell? ⟨gl,17,none⟩=some (.slice (p 17) 0 (c 17))/\Sh.IsI v7 (p 17) 0 (rd [])):=by have h:=P7.out.2 17 (by decide);rw[lv_17]at h;exact h
 have CL:Hid (∀v,Ab v7 v->Calls prog 11 #[.pointer (some ⟨gb,0,none⟩),.agg #[.slice (p 15) 1 (c 15),.slice (p 16) 0 (c 16),.slice (p 17) 0 (c 17)],.agg #[.slice (some ⟨b1,0,none⟩) 6 6,.slice (some ⟨b2,0,none⟩) 6 6,.slice (some ⟨b3,0,none⟩) 6 6,.slice (some ⟨b4,0,none⟩) 12 12,.int .i64 9,.int .i64 8]] v fun e w'=> ∃s,e=.returned (.tuple #[s,.int .i64 0])/\Below v.heap.size v w'/\OwnS v.heap.size s 6 6 6 12 (shB (mk2 1 0 (rd [5]) (rd [])) (fun _=>0)) (shW (mk2 1 0 (rd [5]) (rd [])) lkW) (shW (mk2 1 0 (rd [5]) (rd [])) (fun _=>0)) (shB (hs 0 (rd [])) (fun _=>0)) 0 8 w'/\Ab v7 v):=fun v a=>
  ((HL.out 1 gb (p 15) 1 (c 15) (rd [5]) (p 16) 0 (c 16) (rd []) (p 17) 0 (c 17) (rd []) (some ⟨b1,0,none⟩) 6 6 (fun _=>0) (some ⟨b2,0,none⟩) 6 6 lkW (some ⟨b3,0,none⟩) 6 6 (fun _=>0) (some ⟨b4,0,none⟩) 12 12 (fun _=>0) 9 8 v (by omega) (G7.out.to a) (by unfold W64;omega) (by omega) (by omega) (K15.out.2.below a) (K16.out.2.below a) (K17.out.2.below a) (J1.out.below a) (J2.out.below a) (J3.out.below a) (J4.out.below a)).1 lv_fit).mono (fun e w' ⟨s,h1,h2,h3⟩=>⟨s,h1,h2,h3,a⟩)
 have HG:Hid (gl<v7.heap.size):=P7.out.1
 have BF:=hid lv_bnd
 go_cut [2,5]from 54 to 62 (fun s2 s5 wx=> ∃gm mp1 mc1 mp2 mc2 mp3 mc3 mp4 mc4,s2=.int .i64 0/\s5=.pointer (some ⟨gm,0,none⟩)/\Ab v7 wx/\v7.heap.size<=gm/\SeaP gm mp1 mc1 mp2 mc2 mp3 mc3 mp4 mc4 6 6 6 12 (shB (mk2 1 0 (rd [5]) (rd [])) (fun _=>0)) (shW (mk2 1 0 (rd [5]) (rd [])) lkW) (shW (mk2 1 0 (rd [5]) (rd [])) (fun _=>0)) (shB (hs 0 (rd [])) (fun _=>0)) 0 8 wx/\((∀b o,mp1=some ⟨b,o,none⟩->v7.heap.size<=b)/\(∀b o,mp2=some ⟨b,o,none⟩->v7.heap.size<=b)/\(∀b o,mp3=some ⟨b,o,none⟩->v7.heap.size<=b)/\ ∀b o,mp4=some ⟨b,o,none⟩->v7.heap.size<=b))
 case first=>
  have av:Ab v7 v7:=Ab.refl _
  have KS:Hid (∀w',Ab v7 w'->Ab v7 w'/\w'.cell? ⟨gl,15,none⟩=some (.slice (p 15) 1 (c 15))/\w'.cell? ⟨gl,16,none⟩=some (.slice (p 16) 0 (c 16))/\w'.cell? ⟨gl,17,none⟩=some (.slice (p 17) 0 (c 17))/\w'.cell? ⟨gs,0,none⟩=some (.slice (some ⟨b1,0,none⟩) 6 6)/\w'.cell? ⟨gs,1,none⟩=some (.slice (some ⟨b2,0,none⟩) 6 6)/\w'.cell? ⟨gs,2,none⟩=some (.slice (some ⟨b3,0,none⟩) 6 6)/\w'.cell? ⟨gs,3,none⟩=some (.slice (some ⟨b4,0,none⟩) 12 12)/\w'.cell? ⟨gs,4,none⟩=some (.int .i64 9)/\w'.cell? ⟨gs,5,none⟩=some (.int .i64 8)):=fun w' h=>⟨h,(Below.cell h HG.out).trans K15.out.1,(Below.cell h HG.out).trans K16.out.1,(Below.cell h HG.out).trans K17.out.1,aA 0 (h.heap SR3.out),aA 1 (h.heap SR3.out),aA 2 (h.heap SR3.out),aA 3 (h.heap SR3.out),aA 4 (h.heap SR3.out),aA 5 (h.heap SR3.out)⟩
  go_region_held3 (fun w'=>Ab v7 w'/\w'.cell? ⟨gl,15,none⟩=some (.slice (p 15) 1 (c 15))/\w'.cell? ⟨gl,16,none⟩=some (.slice (p 16) 0 (c 16))/\w'.cell? ⟨gl,17,none⟩=some (.slice (p 17) 0 (c 17))/\w'.cell? ⟨gs,0,none⟩=some (.slice (some ⟨b1,0,none⟩) 6 6)/\w'.cell? ⟨gs,1,none⟩=some (.slice (some ⟨b2,0,none⟩) 6 6)/\w'.cell? ⟨gs,2,none⟩=some (.slice (some ⟨b3,0,none⟩) 6 6)/\w'.cell? ⟨gs,3,none⟩=some (.slice (some ⟨b4,0,none⟩) 12 12)/\w'.cell? ⟨gs,4,none⟩=some (.int .i64 9)/\w'.cell? ⟨gs,5,none⟩=some (.int .i64 8)) ((refine KS.out _ ?_;(with_reducible (repeat(first | assumption | apply Ab.drew | apply Ab.alloc | (refine Ab.setk ?_ (by first | assumption | exact Nat.le_refl _) _))));done)) (first
   | (go_at_call 11;refine(CL.out _ (show Ab v7 _ by with_reducible (repeat(first | assumption | apply Ab.drew | apply Ab.alloc)))).mono ?_;rintro e9 z2 ⟨vv,rfl,c2,os,lo⟩;have az2:Ab v7 z2:=Ab.trans lo c2;have LO:=hid (Ab.size lo);clear lo;first
    | (have q0:=Ab.heap c2 (fM _ _);obtain⟨mp1,mc1,mp2,mc2,mp3,mc3,mp4,mc4,rfl,q2,FIN,MM⟩:=rL (fM _ _) c2 os BF.out;have t0:=aA 0 q2;have f0:=aE q2 0;have t1:=aA 1 q2;have f1:=aE q2 1;have t2:=aA 2 q2;have f2:=aE q2 2;have t3:=aA 3 q2;have f3:=aE q2 3;have t4:=aA 4 q2;have f4:=aE q2 4;have t5:=aA 5 q2;have f5:=aE q2 5;skip)
    | (have q0:=Ab.heap c2 (heap_alloc_new _ _);obtain⟨mp1,mc1,mp2,mc2,mp3,mc3,mp4,mc4,rfl,q2,FIN,MM⟩:=rL (heap_alloc_new _ _) c2 os BF.out;have t0:=aA 0 q2;have f0:=aE q2 0;have t1:=aA 1 q2;have f1:=aE q2 1;have t2:=aA 2 q2;have f2:=aE q2 2;have t3:=aA 3 q2;have f3:=aE q2 3;have t4:=aA 4 q2;have f4:=aE q2 4;have t5:=aA 5 q2;have f5:=aE q2 5;skip)
    | (obtain⟨mp1,mc1,mp2,mc2,mp3,mc3,mp4,mc4,rfl,FIN,MM⟩:=sea_nw2 os BF.out)))
  all_goals(try go_wp2_with fail)
  all_goals(try go_meet)
  all_goals first
   | (have q9:=q2;exact⟨_,_,_,_,_,_,_,_,_,rfl,rfl,(((((az2.setk (Nat.le_refl _) _).setk (Nat.le_refl _) _).setk (Nat.le_refl _) _).setk (Nat.le_refl _) _).setk (Nat.le_refl _) _).setk (Nat.le_refl _) _,Nat.le_refl _,FIN,MM.up LO.out⟩)
   | exact⟨_,_,_,_,_,_,_,_,_,rfl,rfl,az2.alloc _,az2.size,FIN,MM.up LO.out⟩
 case rest=>
  obtain⟨gm,mp1,mc1,mp2,mc2,mp3,mc3,mp4,mc4,rfl,rfl,ac,ltm,spm,mmm⟩:=hcut
  rename World=>v8
  have A8:Hid (Ab v7 v8):=ac
  have S9:=hid spm
  clear ac ltm spm mmm CL K15 K16 K17 J1 J2 J3 J4 SR3 P7 HL HG BF
  go_upto_region 11 with fail
  have G8:=hid (G7.out.to A8.out)
  have B8:Hid (Ab w v8):=B7.out.trans A8.out
  have AR:=hid (fun v (a:Ab v8 v)=>nY (n:=1) (k:=5) (by omega) (by decide) (G8.out.to a))
  have ea:arI (ArC 1 5)=1431655765:=by decide+kernel
  rw[ea]at AR
  obtain⟨q2,o2,e2⟩:=S9.out.2.2.1.some0 (by omega)
  have w0:=(S9.out.2.2.1 0 (by omega)).2
  have w5:=(S9.out.2.2.1 5 (by omega)).2
  subst e2
  obtain⟨_,_,e0,l0,w0⟩:=w0
  cases e0
  obtain⟨_,_,e5,-,w5⟩:=w5
  cases e5
  rw[lv_w0]at w0
  rw[lv_w5]at w5
  have W0:=hid w0
  have W5:=hid w5
  have L0:=hid l0
  clear w0 w5 ea l0
  obtain⟨UU,E,hF1,hF2⟩:=cls v8
  have HU:=hid hF2
  have HU1:=hid hF1
  have s1: ∀u,(E u).cell? ⟨gm,1,none⟩=some (.slice (some ⟨q2,o2,none⟩) 6 mc2):=fun u=>aA 1 ((hF1 u).heap S9.out.1)
  have s3: ∀u,(E u).cell? ⟨gm,3,none⟩=some (.slice mp4 12 mc4):=fun u=>aA 3 ((hF1 u).heap S9.out.1)
  have s4: ∀u,(E u).cell? ⟨gm,4,none⟩=some (.int .i64 0):=fun u=>aA 4 ((hF1 u).heap S9.out.1)
  have s5: ∀u,(E u).cell? ⟨gm,5,none⟩=some (.int .i64 8):=fun u=>aA 5 ((hF1 u).heap S9.out.1)
  have k0: ∀u,(E u).cell? ⟨q2,o2,none⟩=some (.int .i64 0):=fun u=>(Below.cell (hF1 u) L0.out).trans W0.out
  have k5: ∀u,(E u).cell? ⟨q2,o2+5,none⟩=some (.int .i64 1431655765):=fun u=>(Below.cell (hF1 u) L0.out).trans W5.out
  have DD0:=HU.out _ (Ab.refl v8).drew
  clear hF1 hF2
  refine aK E (by kernel_rfl) (by kernel_rfl) DD0 ?_
  repeat(go_big_quiet_step (first
   | (with_reducible rfl)
   | (go_at_call 12;exact aF HU HU1 (AR.out _ (HU1.out _)))))
  refine wpQuiet_nil ?_
  intro z hwz
  obtain⟨u0,hu⟩:=hwz
  have AZ:Hid (Ab v8 z):=by rw[hu];exact HU1.out u0
  clear hu u0
  clear HU HU1 DD0 s1 s3 s4 s5 k0 k5
  clear E UU
  go_wp2_with fail
  refine((HS.out 1 gb 65 z (by omega) (G8.out.to AZ.out) (by unfold W64;omega)).2 (by omega)).mono ?_
  rintro e v9 ⟨rfl,b9⟩
  go_wp2
  go_ret
  exact⟨rfl,B8.out.trans (AZ.out.trans b9)⟩
end Spl
end
section
open Go.RowKit Tf Cu Go.Deep
namespace Spl
theorem ls_0(n P k:Nat):lsP n P (k*3)=clP (6*n*n) P k:=by
 unfold lsP
 rw[if_pos (by omega),show k*3/3=k by omega]
theorem ls_1(n P k:Nat):lsP n P (k*3+1)=edP n P k:=by
 unfold lsP
 rw[if_neg (by omega),if_pos (by omega),show(k*3+1)/3=k by omega]
theorem ls_2(n P k:Nat):lsP n P (k*3+2)=hlP n P k:=by
 unfold lsP
 rw[if_neg (by omega),if_neg (by omega),show(k*3+2)/3=k by omega]
theorem len_part(n P i:Nat)(hn:1<=n/\n<=32)(hP:1<=P/\P<=64):(lsP n P i).length<=12288:=by
 have n1:=n12 hn
 have n2:6*n*n<=12*n*n:=Nat.mul_le_mul_right _ (Nat.mul_le_mul_right _ (by decide))
 unfold lsP
 split
 ·rw[cl_len]
  have:=lo_size (N:=6*n*n) (P:=P) (by omega) (i/3)
  have:=Nat.div_le_self (6*n*n) P
  have:=n12 hn
  have:6*n*n<=6144:=by
   have h1:6*n<=6*32:=Nat.mul_le_mul_left _ hn.2
   exact Nat.le_trans (Nat.mul_le_mul h1 hn.2) (by decide)
  omega
 ·split
  ·have h:=List.length_filter_le (fun e=>inP (6*n*n) P (i/3) (lf n e)) (List.range (12*n*n))
   rw[List.length_range]at h
   exact Nat.le_trans h n1
  ·have h:=List.length_filter_le (fun c=>ask n P (i/3) c&& !inP (6*n*n) P (i/3) c) (List.range (6*n*n))
   rw[List.length_range]at h
   exact Nat.le_trans h (by omega)
theorem split_ok{n gb P:Nat}(SC:SplitC)(hn:1<=n/\n<=32)(hP:1<=P/\P<=64){v:World}(g:GridOf n gb v):Calls prog 5 #[.pointer (some ⟨gb,0,none⟩),.int .i64 (P:Nat)] v fun e w'=> ∃gl p c,e=.returned (.tuple #[.slice (some ⟨gl,0,none⟩) P P,.int .i64 0])/\Below v.heap.size v w'/\PsAt n P gl p c w':=by
 refine((SC n gb (P:Nat) v hn g (by unfold W64;omega)).1 (by omega)).mono ?_
 rintro e w' ⟨gl,gc,ge,X,rfl,b,os⟩
 rw[Int.toNat_natCast]at os
 obtain⟨p,c,-,ps⟩:=kY hn os
 exact⟨gl,p,c,by rw[Int.toNat_natCast],b,ps⟩
end Spl
end
end Go.Proofs.YtilfdnipahabbaaDoor
