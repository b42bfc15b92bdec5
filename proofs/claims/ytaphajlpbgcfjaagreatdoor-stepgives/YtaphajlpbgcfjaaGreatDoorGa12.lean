/-
  Some of the texts of this proof, one behind the other.
-/
import Derived.Deep.RegionWith
import Derived.Test.YtaphajlpbgcfjaaGreatDoorGa11
set_option maxRecDepth 100000
set_option maxHeartbeats 400000000
namespace Go.Proofs.YtaphajlpbgcfjaaGreatDoor
open _root_.Go.Proofs.Tryz
section
open Go.RowKit Tf Cu Go.Deep
attribute [local go_sem] aK aL aP aQ aR aV aW aE
namespace St
open Ss Fc
theorem row7{w:World}{g:Nat}{a b c d e f h x y z p q r s:Value}{T:TypeId}(k:w.heap[g]? =some (.cells #[a,b,c,d,e,f,h] T)):
  (((((((w.setCell ⟨g,0,none⟩ x).setCell ⟨g,1,none⟩ y).setCell ⟨g,2,none⟩ z).setCell ⟨g,3,none⟩ p).setCell ⟨g,4,none⟩ q).setCell ⟨g,5,none⟩ r).setCell ⟨g,6,none⟩ s).heap[g]? =some (.cells #[x,y,z,p,q,r,s] T):=by
 have h1:=aM (v:=x) (k:=0) k
 have h2:=aM (v:=y) (k:=1) h1
 have h3:=aM (v:=z) (k:=2) h2
 have h4:=aM (v:=p) (k:=3) h3
 have h5:=aM (v:=q) (k:=4) h4
 have h6:=aM (v:=r) (k:=5) h5
 have h7:=aM (v:=s) (k:=6) h6
 simpa using h7
theorem AH:(Tryz.prog.info? 22).map (fun i=>(i.zero,i.size,i.bytes))=some (some (.float .f64 0),1,8):=by kernel_rfl
theorem H4{gb:Nat}(w:World)(g:GridOf 1 gb w):
  Calls prog 38 #[.pointer (some ⟨gb,0,none⟩)] w fun e w'=> ∃b1 b2 b3 b4,e=.returned (.agg #[.slice (some ⟨b1,0,none⟩) 6 6,.slice (some ⟨b2,0,none⟩) 6 6,.slice (some ⟨b3,0,none⟩) 6 6,.slice (some ⟨b4,0,none⟩) 12 12,.int .i64 0,.int .i64 0])/\Below w.heap.size w w'/\(w'.rowIs b1 22 6 (fun _=>.float .f64 0)/\w'.rowIs b2 2 6 (fun i=>.int .i64 (w1 i))/\w'.rowIs b3 2 6 (fun _=>.int .i64 0)/\w'.rowIs b4 22 12 (fun _=>.float .f64 0))/\(w.heap.size<=b1/\w.heap.size<=b2/\w.heap.size<=b3/\w.heap.size<=b4)/\b1≠b2/\b1≠b3/\b1≠b4/\b2≠b3/\b2≠b4/\b3≠b4:=by
 have GA:Hid (∀v (c:Nat),Ab w v->c<6->Calls prog 88 #[.pointer (some ⟨gb,0,none⟩),.int .i64 (c:Nat)] v fun e w'=>e=.returned (.int .i64 1431655765)/\Below v.heap.size v w'):=fun v c a hc=>(fL (n:=1) (by omega) (by omega) (g.to a)).mono fun e w' h=>⟨by rw[h.1];have:=aw_ar c hc;unfold arC at this;rw[this],h.2⟩
 have M1: ∀v:World,(Instr.makeSlice 26 (.int .i64 6) (.int .i64 6)).run prog v=.ok (.slice (some ⟨v.heap.size,0,none⟩) 6 6) (v.alloc (Obj.cells (madeCells #[.float .f64 0] 6) 22)):=fun v=>by
  have h:=run_make_row' (P:=prog) 26 22 (.float .f64 0) 8 underlying26 AH rfl .i64 .i64 6 (by omega) (by omega) v
  simpa using h
 have M2: ∀v:World,(Instr.makeSlice 27 (.int .i64 6) (.int .i64 6)).run prog v=.ok (.slice (some ⟨v.heap.size,0,none⟩) 6 6) (v.alloc (Obj.cells (madeCells #[.int .i64 0] 6) 2)):=fun v=>by
  have h:=run_make_row' (P:=prog) 27 2 (.int .i64 0) 8 underlying27 Sh.eV rfl .i64 .i64 6 (by omega) (by omega) v
  simpa using h
 have M4: ∀v:World,(Instr.makeSlice 26 (.int .i64 12) (.int .i64 12)).run prog v=.ok (.slice (some ⟨v.heap.size,0,none⟩) 12 12) (v.alloc (Obj.cells (madeCells #[.float .f64 0] 12) 22)):=fun v=>by
  have h:=run_make_row' (P:=prog) 26 22 (.float .f64 0) 8 underlying26 AH rfl .i64 .i64 12 (by omega) (by omega) v
  simpa using h
 have AL: ∀v:World,(Instr.alloc 29 true (.tuple #[])).run prog v=.ok (.pointer (some ⟨v.heap.size,0,none⟩)) (v.alloc (.cells #[.slice none 0 0,.slice none 0 0,.slice none 0 0,.slice none 0 0,.int .i64 0,.int .i64 0] 29)):=fun v=>by
  simp[go_sem]
 obtain⟨A0,Q0⟩:=aO w (.cells #[.slice none 0 0,.slice none 0 0,.slice none 0 0,.slice none 0 0,.int .i64 0,.int .i64 0] 29)
 clear g
 go_enter func38,ntmps38
 go_upto_region 1 with fail
 generalize hW:World.alloc w _=V0 at*
 obtain⟨gr,hgr⟩:=aD w.heap.size
 have HG:Hid (w.heap.size<=gr):=by show _<=_;omega
 rw[hgr]at Q0 ⊢
 clear hgr hW
 go_cut [3]from 5 to 9 (fun s3 wx=> ∃g5 b1 b2 b3 b4,s3=.pointer (some ⟨g5,0,none⟩)/\Ab V0 wx/\wx.heap[g5]? =some (.cells #[.slice (some ⟨b1,0,none⟩) 6 6,.slice (some ⟨b2,0,none⟩) 6 6,.slice (some ⟨b3,0,none⟩) 6 6,.slice (some ⟨b4,0,none⟩) 12 12,.int .i64 0,.int .i64 0] 29)/\wx.heap[b1]? =some (Obj.cells (madeCells #[.float .f64 0] 6) 22)/\wx.heap[b2]? =some (Obj.cells (madeCells #[.int .i64 0] 6) 2)/\wx.heap[b3]? =some (Obj.cells (madeCells #[.int .i64 0] 6) 2)/\wx.heap[b4]? =some (Obj.cells (madeCells #[.float .f64 0] 12) 22)/\(V0.heap.size<=b1/\V0.heap.size<=b2/\V0.heap.size<=b3/\V0.heap.size<=b4/\V0.heap.size<=g5)/\(b1≠b2/\b1≠b3/\b1≠b4/\b2≠b3/\b2≠b4/\b3≠b4)/\(b1≠g5/\b2≠g5/\b3≠g5/\b4≠g5))
 case first=>
  obtain⟨UU,E,hF1,hF2⟩:=cls V0.drew
  have HU:=hid hF2
  clear hF1 hF2
  refine Cf.lM 6 (fun k=>if k=0 then some ((Obj.cells (madeCells #[.float .f64 0] 6) 22),fun b=>.slice (some ⟨b,0,none⟩) 6 6)else if k=1 then some ((Obj.cells (madeCells #[.int .i64 0] 6) 2),fun b=>.slice (some ⟨b,0,none⟩) 6 6)else if k=2 then some ((Obj.cells (madeCells #[.int .i64 0] 6) 2),fun b=>.slice (some ⟨b,0,none⟩) 6 6)else if k=3 then some ((Obj.cells (madeCells #[.float .f64 0] 12) 22),fun b=>.slice (some ⟨b,0,none⟩) 12 12)else if k=5 then some ((.cells #[.slice none 0 0,.slice none 0 0,.slice none 0 0,.slice none 0 0,.int .i64 0,.int .i64 0] 29),fun b=>.pointer (some ⟨b,0,none⟩))else none) (by kernel_rfl) (by kernel_rfl) (by kernel_rfl) ?_
  simp only[List.take_succ_cons,List.take_zero]
  refine Cf.eB (ob:=(Obj.cells (madeCells #[.float .f64 0] 6) 22)) (mk:=fun b=>.slice (some ⟨b,0,none⟩) 6 6) (by rfl) (by kernel_rfl) ?_ ?_
  ·refine Cf.kJ (oI (vx:=.int .i64 6) (vy:=.int .i64 6) (ob:=(Obj.cells (madeCells #[.float .f64 0] 6) 22)) (mk:=fun b=>.slice (some ⟨b,0,none⟩) 6 6) rfl ?_ ?_ ?_)
   ·rfl
   ·rfl
   ·exact M1
  intro b1 fb1
  simp only[Act.put,List.setIfInBounds_toArray,List.set_cons_succ,List.set_cons_zero]
  refine Cf.eB (ob:=(Obj.cells (madeCells #[.int .i64 0] 6) 2)) (mk:=fun b=>.slice (some ⟨b,0,none⟩) 6 6) (by rfl) (by kernel_rfl) ?_ ?_
  ·refine Cf.kJ (oI (vx:=.int .i64 6) (vy:=.int .i64 6) (ob:=(Obj.cells (madeCells #[.int .i64 0] 6) 2)) (mk:=fun b=>.slice (some ⟨b,0,none⟩) 6 6) rfl ?_ ?_ ?_)
   ·rfl
   ·rfl
   ·exact M2
  intro b2 fb2
  simp only[Act.put,List.setIfInBounds_toArray,List.set_cons_succ,List.set_cons_zero]
  refine Cf.eB (ob:=(Obj.cells (madeCells #[.int .i64 0] 6) 2)) (mk:=fun b=>.slice (some ⟨b,0,none⟩) 6 6) (by rfl) (by kernel_rfl) ?_ ?_
  ·refine Cf.kJ (oI (vx:=.int .i64 6) (vy:=.int .i64 6) (ob:=(Obj.cells (madeCells #[.int .i64 0] 6) 2)) (mk:=fun b=>.slice (some ⟨b,0,none⟩) 6 6) rfl ?_ ?_ ?_)
   ·rfl
   ·rfl
   ·exact M2
  intro b3 fb3
  simp only[Act.put,List.setIfInBounds_toArray,List.set_cons_succ,List.set_cons_zero]
  refine Cf.eB (ob:=(Obj.cells (madeCells #[.float .f64 0] 12) 22)) (mk:=fun b=>.slice (some ⟨b,0,none⟩) 12 12) (by rfl) (by kernel_rfl) ?_ ?_
  ·refine Cf.kJ (oI (vx:=.int .i64 12) (vy:=.int .i64 12) (ob:=(Obj.cells (madeCells #[.float .f64 0] 12) 22)) (mk:=fun b=>.slice (some ⟨b,0,none⟩) 12 12) rfl ?_ ?_ ?_)
   ·rfl
   ·rfl
   ·exact M4
  intro b4 fb4
  simp only[Act.put,List.setIfInBounds_toArray,List.set_cons_succ,List.set_cons_zero]
  refine Cf.dX HU (by rfl) (by rfl) ?_
  go_big_quiet_step (with_reducible rfl)
  refine wpQuiet_nil ?_
  refine Cf.eB (ob:=(.cells #[.slice none 0 0,.slice none 0 0,.slice none 0 0,.slice none 0 0,.int .i64 0,.int .i64 0] 29)) (mk:=fun b=>.pointer (some ⟨b,0,none⟩)) (by rfl) (by kernel_rfl) ?_ ?_
  ·refine Cf.kJ (Hk (ob:=(.cells #[.slice none 0 0,.slice none 0 0,.slice none 0 0,.slice none 0 0,.int .i64 0,.int .i64 0] 29)) (mk:=fun b=>.pointer (some ⟨b,0,none⟩)) rfl ?_)
   exact AL
  intro g5 fg5
  simp only[Act.put,List.setIfInBounds_toArray,List.set_cons_succ,List.set_cons_zero]
  refine Cf.nC ?_
  intro wz hz
  have h1:=hz.at (i:=0) (b:=b1) (ob:=(Obj.cells (madeCells #[.float .f64 0] 6) 22)) (by rfl) (by rfl)
  have h2:=hz.at (i:=1) (b:=b2) (ob:=(Obj.cells (madeCells #[.int .i64 0] 6) 2)) (by rfl) (by rfl)
  have h3:=hz.at (i:=2) (b:=b3) (ob:=(Obj.cells (madeCells #[.int .i64 0] 6) 2)) (by rfl) (by rfl)
  have h4:=hz.at (i:=3) (b:=b4) (ob:=(Obj.cells (madeCells #[.float .f64 0] 12) 22)) (by rfl) (by rfl)
  have h5:=hz.at (i:=5) (b:=g5) (ob:=(.cells #[.slice none 0 0,.slice none 0 0,.slice none 0 0,.slice none 0 0,.int .i64 0,.int .i64 0] 29)) (by rfl) (by rfl)
  have n12:b1≠b2:=fb2.2 0 b1 (by rfl)
  have n13:b1≠b3:=fb3.2 0 b1 (by rfl)
  have n14:b1≠b4:=fb4.2 0 b1 (by rfl)
  have n15:b1≠g5:=fg5.2 0 b1 (by rfl)
  have n23:b2≠b3:=fb3.2 1 b2 (by rfl)
  have n24:b2≠b4:=fb4.2 1 b2 (by rfl)
  have n25:b2≠g5:=fg5.2 1 b2 (by rfl)
  have n34:b3≠b4:=fb4.2 2 b3 (by rfl)
  have n35:b3≠g5:=fg5.2 2 b3 (by rfl)
  have n45:b4≠g5:=fg5.2 3 b4 (by rfl)
  have AZ:Ab V0 wz:=(Ab.refl V0).drew.trans hz.1
  have RZ:=hid h5.1
  have HH:=hid (And.intro h1 (And.intro h2 (And.intro h3 (And.intro h4 h5))))
  have NN:=hid (And.intro (And.intro n12 (And.intro n13 (And.intro n14 (And.intro n23 (And.intro n24 n34))))) (And.intro n15 (And.intro n25 (And.intro n35 n45))))
  have HAZ:=hid AZ
  clear hz fb1 fb2 fb3 fb4 fg5 h1 h2 h3 h4 h5 n12 n13 n14 n15 n23 n24 n25 n34 n35 n45 AZ HU
  clear E UU
  have t0:=aF RZ.out
  have f0:=iX RZ.out
  simp only[List.drop_succ_cons,List.drop_zero]
  go_wp2_with fail
  go_meet
  obtain⟨⟨k1,l1⟩,⟨k2,l2⟩,⟨k3,l3⟩,⟨k4,l4⟩,⟨k5,l5⟩⟩:=HH.out
  have st_: ∀(b:Nat) (o:Obj),b≠g5->wz.heap[b]? =some o-> ∀x0 x1 x2 x3 x4 x5,((((((wz.setCell ⟨g5,0,none⟩ x0).setCell ⟨g5,1,none⟩ x1).setCell ⟨g5,2,none⟩ x2).setCell ⟨g5,3,none⟩ x3).setCell ⟨g5,4,none⟩ x4).setCell ⟨g5,5,none⟩ x5).heap[b]? =some o:=fun b o hb h x0 x1 x2 x3 x4 x5=>by
   rw[bM hb,bM hb,bM hb,bM hb,bM hb,bM hb]
   exact h
  refine⟨g5,b1,b2,b3,b4,rfl,?_,row6 k5,st_ b1 _ NN.out.2.1 k1 _ _ _ _ _ _,st_ b2 _ NN.out.2.2.1 k2 _ _ _ _ _ _,st_ b3 _ NN.out.2.2.2.1 k3 _ _ _ _ _ _,st_ b4 _ NN.out.2.2.2.2 k4 _ _ _ _ _ _,⟨l1,l2,l3,l4,l5⟩,NN.out.1,NN.out.2⟩
  exact(((((HAZ.out.setk l5 _).setk l5 _).setk l5 _).setk l5 _).setk l5 _).setk l5 _
 case rest=>
  obtain⟨g5,b1,b2,b3,b4,rfl,a3,r5,m1',m2',m3,m4,hl,hne,hng⟩:=hcut
  rename World=>v3
  have A3:Hid (Ab V0 v3):=a3
  have R5:=hid r5
  have N1:Hid (v3.rowIs b1 22 6 (fun _=>.float .f64 0)):=lF m1'
  have N2:Hid (v3.rowIs b2 2 6 (fun _=>.int .i64 0)):=lF m2'
  have N3:Hid (v3.rowIs b3 2 6 (fun _=>.int .i64 0)):=lF m3
  have N4:Hid (v3.rowIs b4 22 12 (fun _=>.float .f64 0)):=lF m4
  have LL:=hid hl
  have NN:=hid hne
  have NG:=hid hng
  clear a3 r5 m1' m2' m3 m4 hl hne hng M1 M2 M4 AL
  go_wp2
  go_loopw [4] (fun iv wr=> ∃(k:Nat),k<=6/\iv=.int .i64 (k:Nat)/\Ab V0 wr/\wr.heap[g5]? =some (.cells #[.slice (some ⟨b1,0,none⟩) 6 6,.slice (some ⟨b2,0,none⟩) 6 6,.slice (some ⟨b3,0,none⟩) 6 6,.slice (some ⟨b4,0,none⟩) 12 12,.int .i64 0,.int .i64 0] 29)/\wr.rowIs b1 22 6 (fun _=>.float .f64 0)/\wr.rowIs b2 2 6 (fun i=>.int .i64 (if i<k then 1431655765 else 0))/\wr.rowIs b3 2 6 (fun _=>.int .i64 0)/\wr.rowIs b4 22 12 (fun _=>.float .f64 0)) (fun iv _=>6 - (intOf iv).toNat)
  case atStart=>exact⟨0,by omega,rfl,A3.out,R5.out,N1.out,N2.out.congr (fun i _=>by simp),N3.out,N4.out⟩
  case round=>
   obtain⟨k,hk,rfl,ar',h5,r1,r2,r3,r4⟩:=hrel
   have AW:=hid ar'
   have H5:=hid h5
   have P1:=hid r1
   have P2:=hid r2
   have P3:=hid r3
   have P4:=hid r4
   clear ar' h5 r1 r2 r3 r4 N1 N2 N3 N4 R5 A3
   by_cases hkn:k<6
   ·have HK:=hid hkn
    have kI:(k:Int)<6:=by omega
    have CA:Hid (∀v,Ab wr v->Calls prog 88 #[.pointer (some ⟨gb,0,none⟩),.int .i64 (k:Nat)] v fun e w'=>e=.returned (.int .i64 1431655765)/\Below v.heap.size v w'):=fun v a=>GA.out v k (A0.out.trans (AW.out.trans a)) hkn
    clear hkn hk
    go_upto_region 5 with fail
    obtain⟨UU,E,hF1,hF2⟩:=cls wr
    have HU:=hid hF2
    have HU1:=hid hF1
    have y0: ∀u,(E u).cell? ⟨g5,1,none⟩=some (.slice (some ⟨b2,0,none⟩) 6 6):=fun u=>aA 1 ((hF1 u).heap H5.out)
    have DD0:=HU.out _ (Ab.refl wr).drew
    clear hF1 hF2
    refine cP 7 E (by kernel_rfl) (by kernel_rfl) (by kernel_rfl) DD0 ?_
    simp only[List.take_succ_cons,List.take_zero,List.drop_succ_cons,List.drop_zero]
    repeat(go_big_quiet_step (first | (go_at_call 88;exact aH HU HU1 (CA.out _ (HU1.out _))) | (with_reducible rfl)))
    refine wpQuiet_nil ?_
    intro z hwz
    obtain⟨u0,hu⟩:=hwz
    have AZ:Hid (Ab wr z):=by rw[hu];exact HU1.out u0
    clear hu u0
    clear HU HU1 DD0 y0
    clear E UU
    have z1:=(rowIs.ab P2.out AZ.out).cell HK.out
    have z2:=(rowIs.ab P2.out AZ.out).frozen k
    go_wp2_with fail
    refine⟨⟨k+1,by have:=HK.out;omega,by simp,(AW.out.trans AZ.out).setk LL.out.2.1 _,(bM (Ne.symm NG.out.2.1)).trans (Ab.heap AZ.out H5.out),(rowIs.ab P1.out AZ.out).setOther (a:=⟨b2,k,none⟩) NN.out.1 _,((rowIs.ab P2.out AZ.out).set k _).congr (fun i _=> ?_),(rowIs.ab P3.out AZ.out).setOther (a:=⟨b2,k,none⟩) (Ne.symm NN.out.2.2.2.1) _,(rowIs.ab P4.out AZ.out).setOther (a:=⟨b2,k,none⟩) (Ne.symm NN.out.2.2.2.2.1) _⟩,by have:=HK.out;simp[intOf];omega⟩
    by_cases e:i=k
    ·subst e;simp
    ·have e2:(i<k+1) ↔ i<k:=by omega
     simp[e,e2]
   ·have e6:k=6:=by omega
    subst e6
    have QW:Hid (wr.heap[gr]? =some (.cells #[.slice none 0 0,.slice none 0 0,.slice none 0 0,.slice none 0 0,.int .i64 0,.int .i64 0] 29)):=Ab.heap AW.out Q0.out
    have GL:Hid (gr<V0.heap.size):=Rv.bE Q0.out
    clear hkn hk
    have o0:=aF H5.out
    have t0:=aF QW.out
    have f0:=iX QW.out
    go_wp2_with fail
    have RY:=hid (row6 (x:=.slice (some ⟨b1,0,none⟩) 6 6) (y:=.slice (some ⟨b2,0,none⟩) 6 6) (z:=.slice (some ⟨b3,0,none⟩) 6 6) (p:=.slice (some ⟨b4,0,none⟩) 12 12) (q:=.int .i64 0) (r:=.int .i64 0) QW.out)
    (try simp only[Exit.inBlock,Exit.then])
    refine bodyPost_ret (v:=.agg #[.slice (some ⟨b1,0,none⟩) 6 6,.slice (some ⟨b2,0,none⟩) 6 6,.slice (some ⟨b3,0,none⟩) 6 6,.slice (some ⟨b4,0,none⟩) 12 12,.int .i64 0,.int .i64 0]) ?_ rfl ?_
    ·exact results_cell_row results38 _ _ gr _ _ (0,0) _ rfl RY.out underlying29 rfl (by kernel_rfl)
    obtain⟨l1,l2,l3,l4,l5⟩:=LL.out
    obtain⟨n12,n13,n14,n23,n24,n34⟩:=NN.out
    have gl:=GL.out
    have hg:=HG.out
    have hs:=A0.out.size
    have st_: ∀(b n:Nat) (t:TypeId) (f:Nat->Value),b≠gr->wr.rowIs b t n f-> ∀x0 x1 x2 x3 x4 x5,((((((wr.setCell ⟨gr,0,none⟩ x0).setCell ⟨gr,1,none⟩ x1).setCell ⟨gr,2,none⟩ x2).setCell ⟨gr,3,none⟩ x3).setCell ⟨gr,4,none⟩ x4).setCell ⟨gr,5,none⟩ x5).rowIs b t n f:=fun b n t f hb h x0 x1 x2 x3 x4 x5=>(((((h.setOther (a:=⟨gr,0,none⟩) hb x0).setOther (a:=⟨gr,1,none⟩) hb x1).setOther (a:=⟨gr,2,none⟩) hb x2).setOther (a:=⟨gr,3,none⟩) hb x3).setOther (a:=⟨gr,4,none⟩) hb x4).setOther (a:=⟨gr,5,none⟩) hb x5
    exact⟨b1,b2,b3,b4,rfl,(((((((A0.out.trans AW.out).setk hg _).setk hg _).setk hg _).setk hg _).setk hg _).setk hg _),⟨st_ b1 _ _ _ (by omega) P1.out _ _ _ _ _ _,(st_ b2 _ _ _ (by omega) P2.out _ _ _ _ _ _).congr (fun i hi=>by simp[hi,w1]),st_ b3 _ _ _ (by omega) P3.out _ _ _ _ _ _,st_ b4 _ _ _ (by omega) P4.out _ _ _ _ _ _⟩,⟨by omega,by omega,by omega,by omega⟩,n12,n13,n14,n23,n24,n34⟩
theorem Dg(w:World):
  Calls prog 39 #[] w fun e w'=>e=.returned (.agg #[.int .i64 1,.float .f64 4602678819172646912,.float .f64 4607182418800017408,.float .f64 0,.int .i64 0,.bool false,.slice none 0 0])/\Below w.heap.size w w':=by
 obtain⟨A0,Q0⟩:=aO w (.cells #[.int .i64 0,.float .f64 0,.float .f64 0,.float .f64 0,.int .i64 0,.bool false,.slice none 0 0] 25)
 go_enter func39,ntmps39
 go_upto_region 1 with fail
 generalize hW:World.alloc w _=V0 at*
 obtain⟨gr,hgr⟩:=aD w.heap.size
 have HG:Hid (w.heap.size<=gr):=by show _<=_;omega
 rw[hgr]at Q0 ⊢
 clear hgr hW
 have t0:=aN Q0.out
 have f0:=aG Q0.out 0
 have f1:=aG Q0.out 1
 have f2:=aG Q0.out 2
 have f3:=aG Q0.out 3
 have f4:=aG Q0.out 4
 have f5:=aG Q0.out 5
 have f6:=aG Q0.out 6
 go_wp2_with fail
 refine bodyPost_ret (v:=.agg #[.int .i64 1,.float .f64 4602678819172646912,.float .f64 4607182418800017408,.float .f64 0,.int .i64 0,.bool false,.slice none 0 0]) ?_ rfl ?_
 ·exact results_cell_row results39 _ _ gr _ _ (0,0) _ rfl (row7 Q0.out) underlying25 rfl (by kernel_rfl)
 ·have hg:=HG.out
  exact⟨rfl,((((((A0.out.setk hg _).setk hg _).setk hg _).setk hg _).setk hg _).setk hg _).setk hg _⟩
theorem good21_0(sd:Int)(dt gr dr:Nat)(lim:Int)(rv:Bool)(pr:Option Addr)(lr cr:Nat)(pb:Option Addr)(lb cb:Nat)(pw:Option Addr)(lw cw:Nat)(pt:Option Addr)(lt ct:Nat)(ps:Option Addr)(ls cs:Nat)(sky st:Int)(pe:Int)(w:World)(h0:(pe != 0)=true)
  (CP:Hid (∀v,Ab w v->Calls prog 11 #[.agg #[.int .i64 sd,.float .f64 dt,.float .f64 gr,.float .f64 dr,.int .i64 lim,.bool rv,.slice pr lr cr]] v fun e w'=>e=.returned (.int .i64 pe)/\Below v.heap.size v w')):
  Calls prog 10 #[.agg #[.int .i64 sd,.float .f64 dt,.float .f64 gr,.float .f64 dr,.int .i64 lim,.bool rv,.slice pr lr cr],.agg #[.slice pb lb cb,.slice pw lw cw,.slice pt lt ct,.slice ps ls cs,.int .i64 sky,.int .i64 st]] w fun e w'=>e=.returned (.tuple #[.pointer none,.bool false])/\Below w.heap.size w w':=by
 obtain⟨A0,R0,Q0⟩:=bV w (.cells #[.int .i64 sd,.float .f64 dt,.float .f64 gr,.float .f64 dr,.int .i64 lim,.bool rv,.slice pr lr cr] 25) (.cells #[.slice pb lb cb,.slice pw lw cw,.slice pt lt ct,.slice ps ls cs,.int .i64 sky,.int .i64 st] 29)
 go_enter func10,ntmps10
 go_upto_region 1 with fail
 generalize hW:World.alloc (World.alloc w _) _=V0 at*
 obtain⟨ga,hga⟩:=aD w.heap.size
 obtain⟨gq,hgq⟩:=aD (w.heap.size+1)
 rw[hgq]at Q0 ⊢
 rw[hga]at R0 ⊢
 clear hga hgq hW
 have x0:=aN R0.out
 go_wp2_with fail
 refine(CP.out V0 A0.out).mono ?_
 rintro e9 v1 ⟨rfl,b1⟩
 have A1:Hid (Ab w v1):=A0.out.trans b1
 have R1:=hid (Ab.heap b1 R0.out)
 have Q1:=hid (Ab.heap b1 Q0.out)
 clear b1 x0
 go_wp2
 go_ret2
 exact⟨rfl,A1.out⟩
theorem good21_1(sd:Int)(dt gr dr:Nat)(lim:Int)(rv:Bool)(pr:Option Addr)(lr cr:Nat)(pb:Option Addr)(lb cb:Nat)(pw:Option Addr)(lw cw:Nat)(pt:Option Addr)(lt ct:Nat)(ps:Option Addr)(ls cs:Nat)(sky st:Int)(pe:Int)(ca ce:Int)(w:World)(h0:(pe != 0)=false)(h1:(ce != 0)=true)
  (CP:Hid (∀v,Ab w v->Calls prog 11 #[.agg #[.int .i64 sd,.float .f64 dt,.float .f64 gr,.float .f64 dr,.int .i64 lim,.bool rv,.slice pr lr cr]] v fun e w'=>e=.returned (.int .i64 pe)/\Below v.heap.size v w'))
  (CC:Hid (∀v,Ab w v->Calls prog 12 #[.int .i64 sd,.agg #[.slice pb lb cb,.slice pw lw cw,.slice pt lt ct,.slice ps ls cs,.int .i64 sky,.int .i64 st]] v fun e w'=>e=.returned (.tuple #[.int .i64 ca,.int .i64 ce])/\Below v.heap.size v w')):
  Calls prog 10 #[.agg #[.int .i64 sd,.float .f64 dt,.float .f64 gr,.float .f64 dr,.int .i64 lim,.bool rv,.slice pr lr cr],.agg #[.slice pb lb cb,.slice pw lw cw,.slice pt lt ct,.slice ps ls cs,.int .i64 sky,.int .i64 st]] w fun e w'=>e=.returned (.tuple #[.pointer none,.bool false])/\Below w.heap.size w w':=by
 obtain⟨A0,R0,Q0⟩:=bV w (.cells #[.int .i64 sd,.float .f64 dt,.float .f64 gr,.float .f64 dr,.int .i64 lim,.bool rv,.slice pr lr cr] 25) (.cells #[.slice pb lb cb,.slice pw lw cw,.slice pt lt ct,.slice ps ls cs,.int .i64 sky,.int .i64 st] 29)
 go_enter func10,ntmps10
 go_upto_region 1 with fail
 generalize hW:World.alloc (World.alloc w _) _=V0 at*
 obtain⟨ga,hga⟩:=aD w.heap.size
 obtain⟨gq,hgq⟩:=aD (w.heap.size+1)
 rw[hgq]at Q0 ⊢
 rw[hga]at R0 ⊢
 clear hga hgq hW
 have x0:=aN R0.out
 go_wp2_with fail
 refine(CP.out V0 A0.out).mono ?_
 rintro e9 v1 ⟨rfl,b1⟩
 have A1:Hid (Ab w v1):=A0.out.trans b1
 have R1:=hid (Ab.heap b1 R0.out)
 have Q1:=hid (Ab.heap b1 Q0.out)
 clear b1 x0
 have x0:=aN R1.out
 have y0:=aF Q1.out
 go_wp2_with fail
 refine(CC.out v1 A1.out).mono ?_
 rintro e9 v2 ⟨rfl,b2⟩
 have A2:Hid (Ab w v2):=A1.out.trans b2
 have R2:=hid (Ab.heap b2 R1.out)
 clear b2 x0 y0
 go_wp2
 go_ret2
 exact⟨rfl,A2.out⟩
theorem good21_2(n:Nat)(sd:Int)(dt gr dr:Nat)(lim:Int)(rv:Bool)(pr:Option Addr)(lr cr:Nat)(pb:Option Addr)(lb cb:Nat)(pw:Option Addr)(lw cw:Nat)(pt:Option Addr)(lt ct:Nat)(ps:Option Addr)(ls cs:Nat)(sky st:Int)(pe:Int)(ca ce:Int)(w:World)(h0:(pe != 0)=false)(h1:(ce != 0)=false)
  (CP:Hid (∀v,Ab w v->Calls prog 11 #[.agg #[.int .i64 sd,.float .f64 dt,.float .f64 gr,.float .f64 dr,.int .i64 lim,.bool rv,.slice pr lr cr]] v fun e w'=>e=.returned (.int .i64 pe)/\Below v.heap.size v w'))
  (CC:Hid (∀v,Ab w v->Calls prog 12 #[.int .i64 sd,.agg #[.slice pb lb cb,.slice pw lw cw,.slice pt lt ct,.slice ps ls cs,.int .i64 sky,.int .i64 st]] v fun e w'=>e=.returned (.tuple #[.int .i64 ca,.int .i64 ce])/\Below v.heap.size v w'))
  (NW:Hid (∀v,Ab w v->Calls prog 13 #[.int .i64 sd] v fun e w'=> ∃gb,e=.returned (.tuple #[.pointer (some ⟨gb,0,none⟩),.int .i64 0])/\Below v.heap.size v w'/\GridOf n gb w')):
  Calls prog 10 #[.agg #[.int .i64 sd,.float .f64 dt,.float .f64 gr,.float .f64 dr,.int .i64 lim,.bool rv,.slice pr lr cr],.agg #[.slice pb lb cb,.slice pw lw cw,.slice pt lt ct,.slice ps ls cs,.int .i64 sky,.int .i64 st]] w fun e w'=> ∃gb,e=.returned (.tuple #[.pointer (some ⟨gb,0,none⟩),.bool true])/\Below w.heap.size w w'/\GridOf n gb w':=by
 obtain⟨A0,R0,Q0⟩:=bV w (.cells #[.int .i64 sd,.float .f64 dt,.float .f64 gr,.float .f64 dr,.int .i64 lim,.bool rv,.slice pr lr cr] 25) (.cells #[.slice pb lb cb,.slice pw lw cw,.slice pt lt ct,.slice ps ls cs,.int .i64 sky,.int .i64 st] 29)
 go_enter func10,ntmps10
 go_upto_region 1 with fail
 generalize hW:World.alloc (World.alloc w _) _=V0 at*
 obtain⟨ga,hga⟩:=aD w.heap.size
 obtain⟨gq,hgq⟩:=aD (w.heap.size+1)
 rw[hgq]at Q0 ⊢
 rw[hga]at R0 ⊢
 clear hga hgq hW
 have x0:=aN R0.out
 go_wp2_with fail
 refine(CP.out V0 A0.out).mono ?_
 rintro e9 v1 ⟨rfl,b1⟩
 have A1:Hid (Ab w v1):=A0.out.trans b1
 have R1:=hid (Ab.heap b1 R0.out)
 have Q1:=hid (Ab.heap b1 Q0.out)
 clear b1 x0
 have x0:=aN R1.out
 have y0:=aF Q1.out
 go_wp2_with fail
 refine(CC.out v1 A1.out).mono ?_
 rintro e9 v2 ⟨rfl,b2⟩
 have A2:Hid (Ab w v2):=A1.out.trans b2
 have R2:=hid (Ab.heap b2 R1.out)
 clear b2 x0 y0
 have x0:=aN R2.out
 go_wp2_with fail
 refine(NW.out v2 A2.out).mono ?_
 rintro e9 v3 ⟨gb,rfl,b3,g3⟩
 have A3:Hid (Ab w v3):=A2.out.trans b3
 have G3:=hid g3
 clear b3 g3 x0
 go_wp2
 go_ret2
 exact⟨gb,rfl,A3.out,G3.out⟩
def er2(sd:Int)(dt gr dr:Nat)(lim:Int)(lr:Nat)(R:Nat->Int × Int × Int × Int)(lb lw lt ls:Nat)(B:Nat->Nat)(W T:Nat->Int)(S:Nat->Nat)(sky st:Int):Int:=if plE sd dt gr dr lim lr R≠0 then plE sd dt gr dr lim lr R else(chk sd lb lw lt ls B W T S sky st).2
theorem er2_side{sd:Int}{dt gr dr:Nat}{lim:Int}{lr:Nat}{R:Nat->Int × Int × Int × Int}{lb lw lt ls:Nat}{B:Nat->Nat}{W T:Nat->Int}{S:Nat->Nat}{sky st:Int}(h:er2 sd dt gr dr lim lr R lb lw lt ls B W T S sky st=0):(1<=sd/\sd<=32)/\plE sd dt gr dr lim lr R=0/\(chk sd lb lw lt ls B W T S sky st).2=0:=by
 unfold er2 at h
 by_cases a:plE sd dt gr dr lim lr R=0
 ·rw[if_neg (fun q=>q a)]at h
  exact⟨(yC a).1,a,h⟩
 ·rw[if_pos a]at h
  exact absurd h a
theorem H7(PB:PlanB)(CB:CheckB)(sd:Int)(dt gr dr:Nat)(lim:Int)(rv:Bool)(pr:Option Addr)(lr cr:Nat)(R:Nat->Int × Int × Int × Int)(pb:Option Addr)(lb cb:Nat)(B:Nat->Nat)(pw:Option Addr)(lw cw:Nat)(W:Nat->Int)(pt:Option Addr)(lt ct:Nat)(T:Nat->Int)(ps:Option Addr)(ls cs:Nat)(S:Nat->Nat)(sky st:Int)(w:World)(hF:Fr w)(h64:Sh.W64 sd/\Sh.W64 lim/\Sh.W64 sky/\Sh.W64 st)(hf:dt<18446744073709551616/\gr<18446744073709551616/\dr<18446744073709551616)(hlr:lr<=281474976710656)(hl:(lb<=281474976710656/\lw<=281474976710656/\lt<=281474976710656/\ls<=281474976710656))(ir:Rn.IsRn w pr lr R)(i1:IsFl w pb lb B)(i2:Sh.IsI w pw lw W)(i3:Sh.IsI w pt lt T)(i4:IsFl w ps ls S):
  (er2 sd dt gr dr lim lr R lb lw lt ls B W T S sky st=0->Calls prog 10 #[.agg #[.int .i64 sd,.float .f64 dt,.float .f64 gr,.float .f64 dr,.int .i64 lim,.bool rv,.slice pr lr cr],.agg #[.slice pb lb cb,.slice pw lw cw,.slice pt lt ct,.slice ps ls cs,.int .i64 sky,.int .i64 st]] w fun e w'=> ∃gb,e=.returned (.tuple #[.pointer (some ⟨gb,0,none⟩),.bool true])/\Below w.heap.size w w'/\GridOf sd.toNat gb w')/\
  (er2 sd dt gr dr lim lr R lb lw lt ls B W T S sky st≠0->Calls prog 10 #[.agg #[.int .i64 sd,.float .f64 dt,.float .f64 gr,.float .f64 dr,.int .i64 lim,.bool rv,.slice pr lr cr],.agg #[.slice pb lb cb,.slice pw lw cw,.slice pt lt ct,.slice ps ls cs,.int .i64 sky,.int .i64 st]] w fun e w'=>e=.returned (.tuple #[.pointer none,.bool false])/\Below w.heap.size w w'):=by
 have CP:=fun v (a:Ab w v)=>PB sd dt gr dr lim rv pr lr cr R v h64.1 h64.2.1 hf hlr (ir.below a)
 have CC:=fun v (a:Ab w v)=>CB sd pb lb cb B pw lw cw W pt lt ct T ps ls cs S sky st v h64.1 h64.2.2.1 h64.2.2.2 hl (i1.below a) (i2.below a) (i3.below a) (i4.below a)
 by_cases h0:plE sd dt gr dr lim lr R=0
 ·by_cases h1:(chk sd lb lw lt ls B W T S sky st).2=0
  ·have e:er2 sd dt gr dr lim lr R lb lw lt ls B W T S sky st=0:=by
    unfold er2
    rw[if_neg (fun q=>q h0),h1]
   refine⟨fun _=> ?_,fun q=>absurd e q⟩
   obtain⟨n,rfl⟩: ∃n:Nat,sd=(n:Nat):=⟨sd.toNat,by have:=(yC h0).1;omega⟩
   have hn:1<=n/\n<=32:=by have:=(yC h0).1;omega
   rw[Int.toNat_natCast]
   exact good21_2 n n dt gr dr lim rv pr lr cr pb lb cb pw lw cw pt lt ct ps ls cs sky st _ _ _ w (by rw[h0];rfl) (by rw[h1];rfl) CP CC (fun v a=>(new_at n v hn (hF.to a)).mono fun e w' h=>by
    obtain⟨gb,rfl,a1,-,g⟩:=h
    exact⟨gb,rfl,a1,g⟩)
  ·have e:er2 sd dt gr dr lim lr R lb lw lt ls B W T S sky st=(chk sd lb lw lt ls B W T S sky st).2:=by
    unfold er2
    rw[if_neg (fun q=>q h0)]
   refine⟨fun q=>absurd (e.symm.trans q) h1,fun _=> ?_⟩
   exact good21_1 sd dt gr dr lim rv pr lr cr pb lb cb pw lw cw pt lt ct ps ls cs sky st _ _ _ w (by rw[h0];rfl) (bne_iff_ne.2 h1) CP CC
 ·have e:er2 sd dt gr dr lim lr R lb lw lt ls B W T S sky st=plE sd dt gr dr lim lr R:=by
   unfold er2
   rw[if_pos h0]
  refine⟨fun q=>absurd (e.symm.trans q) h0,fun _=> ?_⟩
  exact good21_0 sd dt gr dr lim rv pr lr cr pb lb cb pw lw cw pt lt ct ps ls cs sky st _ w (bne_iff_ne.2 h0) CP
end St
end
section
open Go.RowKit Tf Cu Go.Deep
namespace St
open Ss Fc
theorem aw_pl(R:Nat->Int × Int × Int × Int):plE 1 4602678819172646912 4607182418800017408 0 0 0 R=0:=by
 unfold plE
 rw[if_neg (by omega),if_neg (fun q=>q ⟨by decide+kernel,by decide+kernel,by decide+kernel,by decide+kernel,by omega,by omega⟩),if_neg (fun q=>q ⟨by omega,fun k hk=>absurd hk (Nat.not_lt_zero k)⟩)]
theorem aw_okP(R:Nat->Int × Int × Int × Int):okP 1 4607182418800017408 4602678819172646912 0 0 R:=⟨by omega,⟨by omega,by omega,by omega⟩,by omega,fun k hk=>absurd hk (Nat.not_lt_zero k)⟩
theorem aw_okN{W:Nat->Int}(h0: ∀i,i<6->0<=W i)(h1:Sh.sumN W 6<=4503599627370496):okN 6 (fun _=>0) W (fun _=>0) (fun _=>0) 0 0:=
 ⟨fun _ _=>by show(!btw 0 13920626448202203136 4697254411347427328)=false;decide+kernel,by omega,⟨h0,by omega⟩,⟨fun _ _=>Int.le_refl 0,by decide⟩,fun _ _=>by show(!btw 0 13875590451928498176 4652218415073722368)=false;decide+kernel,by omega,by omega⟩
theorem nD:okN 6 (fun _=>0) w1 (fun _=>0) (fun _=>0) 0 0:=aw_okN (fun i _=>by unfold w1;omega) (by decide)
theorem aw_ok2:okN 6 (fun _=>0) w2 (fun _=>0) (fun _=>0) 0 0:=aw_okN (fun i _=>by unfold w2;split<;>omega) (by decide)
theorem aw_s{W:Nat->Int}(h:okN 6 (fun _=>0) W (fun _=>0) (fun _=>0) 0 0):okS 1 (fun _=>0) W (fun _=>0) (fun _=>0) 0 0:=⟨h,fun _ _=>(by show 0<_;omega),fun _ _=>(by show 0<_;omega)⟩
theorem aw_er{W:Nat->Int}(h:okN 6 (fun _=>0) W (fun _=>0) (fun _=>0) 0 0)(R:Nat->Int × Int × Int × Int):erS 1 1 4602678819172646912 4607182418800017408 0 0 0 R 6 6 6 12 (fun _=>0) W (fun _=>0) (fun _=>0) 0 0=0:=
 FF (by rfl) (aw_pl R) (congrArg Prod.snd (chk_zero (side:=1) (lb:=6) (lw:=6) (lt:=6) (ls:=12) (by omega) ⟨rfl,rfl,rfl,rfl⟩ h))
theorem mM:rest 1 (fun _=>0) w1 (fun _=>0):=fun e he=>by
 refine⟨rfl,fun _=> ?_⟩
 obtain⟨t1,t2,t3⟩:=bO (n:=1) (by omega) he
 have c1:eL 1 e<6:=aX t1
 have c2:eR 1 e<6:=aX (cQ (n:=1) (by omega) t1)
 unfold lvC w1
 rw[aw_ar _ c1,aw_ar _ c2]
theorem ri_0{n:Nat}{lim:Int}{G dt D:Nat}{R:Nat->Int × Int × Int × Int}{B:Nat->Nat}{W T:Nat->Int}{S:Nat->Nat}{sky st:Int}:riX n lim G dt D false 0 R B W T S sky st=(mvW n lim G dt D B W S,mvT n lim G dt D B W T S):=by
 unfold riX raX
 rw[if_neg (by decide)]
 rfl
end St
end
section
open Go.RowKit Tf Cu Go.Deep
attribute [local go_sem] aK aL aP aQ aR aV aW aE
namespace Ss
def SeaP(g:Nat)(p1:Option Addr)(c1:Nat)(p2:Option Addr)(c2:Nat)(p3:Option Addr)(c3:Nat)(p4:Option Addr)(c4:Nat)(n1 n2 n3 n4:Nat)(A:Nat->Nat)(B C:Nat->Int)(D:Nat->Nat)(sk st:Int)(v:World):Prop:=v.heap[g]? =some (.cells #[.slice p1 n1 c1,.slice p2 n2 c2,.slice p3 n3 c3,.slice p4 n4 c4,.int .i64 sk,.int .i64 st] 29)/\IsFl v p1 n1 A/\Sh.IsI v p2 n2 B/\Sh.IsI v p3 n3 C/\IsFl v p4 n4 D
theorem FJ{U z:World}{g:Nat}{vv:Value}{n1 n2 n3 n4:Nat}{A:Nat->Nat}{B C:Nat->Int}{D:Nat->Nat}{sk st:Int}(q:U.heap[g]? =some (.cells #[.slice none 0 0,.slice none 0 0,.slice none 0 0,.slice none 0 0,.int .i64 0,.int .i64 0] 29))(b:Ab U z)(os:OwnS U.heap.size vv n1 n2 n3 n4 A B C D sk st z)(hb:Bnd n1 n2 n3 n4 A B C D):
  ∃p1 c1 p2 c2 p3 c3 p4 c4,vv=.agg #[.slice p1 n1 c1,.slice p2 n2 c2,.slice p3 n3 c3,.slice p4 n4 c4,.int .i64 sk,.int .i64 st]/\z.heap[g]? =some (.cells #[.slice none 0 0,.slice none 0 0,.slice none 0 0,.slice none 0 0,.int .i64 0,.int .i64 0] 29)/\SeaP g p1 c1 p2 c2 p3 c3 p4 c4 n1 n2 n3 n4 A B C D sk st ((((((z.setCell ⟨g,0,none⟩ (.slice p1 n1 c1)).setCell ⟨g,1,none⟩ (.slice p2 n2 c2)).setCell ⟨g,2,none⟩ (.slice p3 n3 c3)).setCell ⟨g,3,none⟩ (.slice p4 n4 c4)).setCell ⟨g,4,none⟩ (.int .i64 sk)).setCell ⟨g,5,none⟩ (.int .i64 st)):=by
 obtain⟨p1,c1,p2,c2,p3,c3,p4,c4,e,⟨i1,i2,i3,i4⟩,⟨o1,o2,o3,o4⟩,dj⟩:=yB os hb.1 hb.2.1 hb.2.2.1 hb.2.2.2
 have lt:=Rv.bE q
 have ne: ∀(t:TypeId) (p:Option Addr) (n c:Nat) (l:List Value),OV t U.heap.size (.slice p n c) l z-> ∀b o,p=some ⟨b,o,none⟩->b≠g:=fun t p n c l h b o e=>by
  subst e
  have:=(h.blk (k:=b) rfl).1
  omega
 have fl: ∀(p:Option Addr) (n c:Nat) (f:Nat->Nat) (l:List Value),OV 22 U.heap.size (.slice p n c) l z->IsFl z p n f->IsFl ((((((z.setCell ⟨g,0,none⟩ (.slice p1 n1 c1)).setCell ⟨g,1,none⟩ (.slice p2 n2 c2)).setCell ⟨g,2,none⟩ (.slice p3 n3 c3)).setCell ⟨g,3,none⟩ (.slice p4 n4 c4)).setCell ⟨g,4,none⟩ (.int .i64 sk)).setCell ⟨g,5,none⟩ (.int .i64 st)) p n f:=fun p n c f l o i=>kG _ (kG _ (kG _ (kG _ (kG _ (kG _ i (ne _ _ _ _ _ o)) (ne _ _ _ _ _ o)) (ne _ _ _ _ _ o)) (ne _ _ _ _ _ o)) (ne _ _ _ _ _ o)) (ne _ _ _ _ _ o)
 have ii: ∀(p:Option Addr) (n c:Nat) (f:Nat->Int) (l:List Value),OV 2 U.heap.size (.slice p n c) l z->Sh.IsI z p n f->Sh.IsI ((((((z.setCell ⟨g,0,none⟩ (.slice p1 n1 c1)).setCell ⟨g,1,none⟩ (.slice p2 n2 c2)).setCell ⟨g,2,none⟩ (.slice p3 n3 c3)).setCell ⟨g,3,none⟩ (.slice p4 n4 c4)).setCell ⟨g,4,none⟩ (.int .i64 sk)).setCell ⟨g,5,none⟩ (.int .i64 st)) p n f:=fun p n c f l o i=>kH _ (kH _ (kH _ (kH _ (kH _ (kH _ i (ne _ _ _ _ _ o)) (ne _ _ _ _ _ o)) (ne _ _ _ _ _ o)) (ne _ _ _ _ _ o)) (ne _ _ _ _ _ o)) (ne _ _ _ _ _ o)
 exact⟨p1,c1,p2,c2,p3,c3,p4,c4,e,b.heap q,row6 (b.heap q),fl _ _ _ _ _ o1 i1,ii _ _ _ _ _ o2 i2,ii _ _ _ _ _ o3 i3,fl _ _ _ _ _ o4 i4⟩
end Ss
end
end Go.Proofs.YtaphajlpbgcfjaaGreatDoor
