/-
  Some of the texts of this proof, one behind the other.
-/
import Derived.Deep.QuietTactic
import Derived.Test.YtmhnilnaffjhmaaGreatDoorCeg14
set_option maxRecDepth 100000
set_option maxHeartbeats 400000000
namespace Go.Proofs.YtmhnilnaffjhmaaGreatDoor
open _root_.Go.Proofs.Tryz
section
open Go.RowKit Tf Cu Go.Deep
attribute [local go_sem] aJ aK aN aO aP aQ aV aD
namespace Co
open Ss Fc St
theorem infoIntC:(Tryz.prog.info? 3).map (fun i=>(i.zero,i.size,i.bytes))=some (some (.int .i64 0),1,8):=by kernel_rfl
theorem oL{x:Int}(h1: -9223372036854775808<=x)(h2:x<=9223372036854775807):wrap64 x=x:=by unfold wrap64;omega
theorem two_fl{v:World}{b x y:Nat}(hx:x<18446744073709551616)(hy:y<18446744073709551616)(h:v.heap[b]? =some (.cells #[.float .f64 x,.float .f64 y] 35)):IsFl v (some ⟨b,0,none⟩) 2 (fun k=>if k=0 then x else y):=fun k hk=>by
 have c0:=aA 0 h
 have c1:=aA 1 h
 by_cases e:k=0
 ·subst e
  exact⟨by simpa using hx,b,0,rfl,Rv.bX h,by simpa using c0⟩
 ·obtain rfl:k=1:=by omega
  exact⟨by simpa using hy,b,0,rfl,Rv.bX h,by simpa using c1⟩
theorem sf_at(b1 o1 c1 b2 o2 c2 n:Nat)(f:Nat->Nat)(w:World)(hn:n<=16)(I1:Hid (IsFl w (some ⟨b1,o1,none⟩) n f))(I2:Hid (IsFl w (some ⟨b2,o2,none⟩) n f)):
  Calls prog 14 #[.slice (some ⟨b1,o1,none⟩) n c1,.slice (some ⟨b2,o2,none⟩) n c2] w fun e w'=>e=.returned (.bool true)/\Below w.heap.size w w':=by
 have HN:=hid hn
 have nm:((n:Int) != (n:Int))=false:=by simp
 clear hn
 go_enter func14,ntmps14
 go_wp2
 clear nm
 go_loopw [13] (fun iv wr=> ∃c:Nat,c<=n/\iv=.int .i64 (c:Nat)/\Ab w wr) (fun iv _=>n - (intOf iv).toNat)
 case atStart=>exact⟨0,by omega,rfl,Ab.refl _⟩
 case round=>
  obtain⟨c,hc,rfl,ar'⟩:=hrel
  have AR:=hid ar'
  clear ar'
  by_cases hcn:c<n
  ·have HC:=hid hcn
   have cI:(c:Int)<n:=by omega
   have cB:(c:Int)<=16:=by have:=HN.out;omega
   have dN:decide (c<n)=true:=decide_eq_true hcn
   have X1:Hid (∀v,Ab wr v->v.cell? ⟨b1,o1+c,none⟩=some (.float .f64 (f c))/\v.cell? ⟨b2,o2+c,none⟩=some (.float .f64 (f c))):=fun v a=>⟨((I1.out.below (AR.out.trans a)).at0 hcn).2.2,((I2.out.below (AR.out.trans a)).at0 hcn).2.2⟩
   obtain⟨x,hx⟩:=aB (f c)
   rw[hx]at X1
   have ne:((x:Int) != (x:Int))=false:=by simp
   clear hx hcn hc
   go_upto_region 6 with fail
   obtain⟨UU,E,hF1,hF2⟩:=cls wr
   have HU:=hid hF2
   have HU1:=hid hF1
   have x0: ∀u,(E u).cell? ⟨b1,o1+c,none⟩=some (.float .f64 x):=fun u=>(X1.out _ (hF1 u)).1
   have x1: ∀u,(E u).cell? ⟨b2,o2+c,none⟩=some (.float .f64 x):=fun u=>(X1.out _ (hF1 u)).2
   have DD0:=HU.out _ (Ab.refl wr).drew
   clear hF1 hF2
   refine aM E (by kernel_rfl) (by kernel_rfl) DD0 ?_
   repeat(go_big_quiet_step (with_reducible rfl))
   refine wpQuiet_nil ?_
   intro z hwz
   obtain⟨u0,hu⟩:=hwz
   have AZ:Hid (Ab wr z):=by rw[hu];exact HU1.out u0
   clear hu u0
   clear HU HU1 DD0 x0 x1
   clear E UU
   go_wp2
   exact⟨⟨c+1,by have:=HC.out;omega,by simp,AR.out.trans AZ.out⟩,by have:=HC.out;simp[intOf];omega⟩
  ·have e6:n=c:=by omega
   subst e6
   clear hcn hc
   go_wp2
   go_ret
   exact⟨rfl,AR.out⟩
theorem Fg(sd:Int)(w:World)(h1:decide (sd<1)=true)
  (LV:Hid (∀v,Ab w v->Calls prog 5 #[] v fun e w'=>e=.returned (.bool true)/\Below v.heap.size v w'))
  (NW:Hid (∀v,Ab w v->Calls prog 6 #[.int .i64 sd] v fun e w'=>e=.returned (.tuple #[.pointer none,.int .i64 10])/\Below v.heap.size v w')):
  Calls prog 3 #[.int .i64 sd] w fun e w'=>e=.returned (.bool true)/\Below w.heap.size w w':=by
 go_enter func3,ntmps3
 go_wp2_with fail
 refine(LV.out w (Ab.refl w)).mono ?_
 rintro e9 v1 ⟨rfl,b1⟩
 have A1:Ab w v1:=b1
 go_wp2_with fail
 refine(NW.out v1 A1).mono ?_
 rintro e9 v2 ⟨rfl,b2⟩
 go_wp2
 go_ret
 exact⟨rfl,A1.trans b2⟩
theorem Fh(sd:Int)(w:World)(h1:decide (sd<1)=false)(h2:decide (32<sd)=true)
  (LV:Hid (∀v,Ab w v->Calls prog 5 #[] v fun e w'=>e=.returned (.bool true)/\Below v.heap.size v w'))
  (NW:Hid (∀v,Ab w v->Calls prog 6 #[.int .i64 sd] v fun e w'=>e=.returned (.tuple #[.pointer none,.int .i64 10])/\Below v.heap.size v w')):
  Calls prog 3 #[.int .i64 sd] w fun e w'=>e=.returned (.bool true)/\Below w.heap.size w w':=by
 go_enter func3,ntmps3
 go_wp2_with fail
 refine(LV.out w (Ab.refl w)).mono ?_
 rintro e9 v1 ⟨rfl,b1⟩
 have A1:Ab w v1:=b1
 go_wp2_with fail
 refine(NW.out v1 A1).mono ?_
 rintro e9 v2 ⟨rfl,b2⟩
 go_wp2
 go_ret
 exact⟨rfl,A1.trans b2⟩
theorem edges_go(n N M:Nat)(lc sc rc bk ln gp:Nat->Nat)(ar:Nat->Int)(w:World)(hn:n<=32)(hN:0<N/\N<=6144)(eN:N=6*n*n)(eM:M=2*N)
  (LV:Hid (∀v,Ab w v->Calls prog 5 #[] v fun e w'=>e=.returned (.bool true)/\Below v.heap.size v w'))
  (NW:Hid (∀v,Ab w v->Calls prog 6 #[.int .i64 (n:Nat)] v fun e w'=> ∃gb,e=.returned (.tuple #[.pointer (some ⟨gb,0,none⟩),.int .i64 0])/\Below v.heap.size v w'/\GridOf n gb w'))
  (GC:Hid (∀v gb,GridOf n gb v->Calls prog 7 #[.pointer (some ⟨gb,0,none⟩)] v fun e w'=>e=.returned (.int .i64 (N:Nat))/\Below v.heap.size v w'))
  (GE':Hid (∀v gb,GridOf n gb v->Calls prog 8 #[.pointer (some ⟨gb,0,none⟩)] v fun e w'=>e=.returned (.int .i64 (M:Nat))/\Below v.heap.size v w'))
  (GS:Hid (∀v gb,GridOf n gb v->Calls prog 9 #[.pointer (some ⟨gb,0,none⟩)] v fun e w'=>e=.returned (.int .i64 (n:Nat))/\Below v.heap.size v w'))
  (ED:Hid (∀v gb (i:Nat),GridOf n gb v->i<M->Calls prog 10 #[.pointer (some ⟨gb,0,none⟩),.int .i64 (i:Nat)] v fun e w'=>e=.returned (.tuple #[.agg #[.int .i64 (lc i:Nat),.int .i64 (sc i:Nat),.int .i64 (rc i:Nat),.int .i64 (bk i:Nat)],.bool true])/\Below v.heap.size v w'))
  (O1:Hid (∀v gb (i:Nat),GridOf n gb v->i<M->Calls prog 11 #[.pointer (some ⟨gb,0,none⟩),.int .i64 (lc i:Nat),.int .i64 (sc i:Nat)] v fun e w'=>e=.returned (.tuple #[.int .i64 (i:Nat),.int .i64 1])/\Below v.heap.size v w'))
  (O2:Hid (∀v gb (i:Nat),GridOf n gb v->i<M->Calls prog 11 #[.pointer (some ⟨gb,0,none⟩),.int .i64 (rc i:Nat),.int .i64 (bk i:Nat)] v fun e w'=>e=.returned (.tuple #[.int .i64 (i:Nat),.int .i64 (-1)])/\Below v.heap.size v w'))
  (L1:Hid (∀v (i:Nat),Ab w v->i<M->Calls prog 12 #[.int .i64 (n:Nat),.int .i64 (lc i:Nat),.int .i64 (sc i:Nat)] v fun e w'=>e=.returned (.float .f64 (ln i))/\Below v.heap.size v w'))
  (L2:Hid (∀v (i:Nat),Ab w v->i<M->Calls prog 12 #[.int .i64 (n:Nat),.int .i64 (rc i:Nat),.int .i64 (bk i:Nat)] v fun e w'=>e=.returned (.float .f64 (ln i))/\Below v.heap.size v w'))
  (K1:Hid (∀v (i:Nat),Ab w v->i<M->Calls prog 13 #[.int .i64 (n:Nat),.int .i64 (lc i:Nat),.int .i64 (sc i:Nat)] v fun e w'=>e=.returned (.float .f64 (gp i))/\Below v.heap.size v w'))
  (K2:Hid (∀v (i:Nat),Ab w v->i<M->Calls prog 13 #[.int .i64 (n:Nat),.int .i64 (rc i:Nat),.int .i64 (bk i:Nat)] v fun e w'=>e=.returned (.float .f64 (gp i))/\Below v.heap.size v w'))
  (L3:Hid (∀v gb (i:Nat),GridOf n gb v->i<M->Calls prog 15 #[.pointer (some ⟨gb,0,none⟩),.int .i64 (i:Nat)] v fun e w'=>e=.returned (.float .f64 (ln i))/\Below v.heap.size v w'))
  (K3:Hid (∀v gb (i:Nat),GridOf n gb v->i<M->Calls prog 16 #[.pointer (some ⟨gb,0,none⟩),.int .i64 (i:Nat)] v fun e w'=>e=.returned (.float .f64 (gp i))/\Below v.heap.size v w'))
  (A1':Hid (∀v gb (c:Nat),GridOf n gb v->c<N->Calls prog 17 #[.pointer (some ⟨gb,0,none⟩),.int .i64 (c:Nat)] v fun e w'=>e=.returned (.int .i64 (ar c))/\Below v.heap.size v w'))
  (A2':Hid (∀v (c:Nat),c<N->Calls prog 18 #[.int .i64 (n:Nat),.int .i64 (c:Nat)] v fun e w'=>e=.returned (.int .i64 (ar c))/\Below v.heap.size v w'))
  (LR:Hid (∀i,i<M->lc i<rc i/\rc i<N)) (PS:Hid (∀i,i<M->(ln i<18446744073709551616/\gp i<18446744073709551616)/\fgt (ln i) 0=true/\fgt (gp i) 0=true)) (AP:Hid (∀c,1<=ar c))
  (S0:Hid (∀c,sn n 0 c=0)) (SI:Hid (∀i c,0<=sn n i c/\sn n i c<=4)) (SA:Hid (∀c,c<N->sn n M c=4)) (SH:Hid (∀i,i<M->sn n (i+1) (lc i)=sn n i (lc i)+1/\sn n (i+1) (rc i)=sn n i (rc i)+1)) (SM:Hid (∀i c,i<M->c<N->c≠lc i->c≠rc i->sn n (i+1) c=sn n i c)):
  Calls prog 3 #[.int .i64 (n:Nat)] w fun e w'=>e=.returned (.bool true)/\Below w.heap.size w w':=by
 have HB:=hid (And.intro hN (And.intro eM hn))
 have M2: ∀v:World,(Instr.makeSlice 28 (.int .i64 (N:Nat)) (.int .i64 (N:Nat))).run prog v=.ok (.slice (some ⟨v.heap.size,0,none⟩) N N) (v.alloc (Obj.cells (madeCells #[.int .i64 0] N) 3)):=fun v=>run_make_row' (P:=prog) 28 3 (.int .i64 0) 8 underlying28 infoIntC rfl .i64 .i64 N (by omega) (by omega) v
 have k1:wrap64 (6*(n:Int))=6*(n:Int):=oL (by omega) (by omega)
 have k2:(6*(n:Int))*(n:Int)=(N:Int):=by rw[eN];push_cast;rfl
 have k3:wrap64 (N:Int)=(N:Int):=oL (by omega) (by omega)
 have k4:wrap64 (2*(N:Int))=(M:Int):=by rw[oL (by omega) (by omega)];omega
 have n1:((N:Int) != (N:Int))=false:=by simp
 have n2:((M:Int) != (M:Int))=false:=by simp
 have n3:((n:Int) != (n:Int))=false:=by simp
 have N0:(0:Int)<=(N:Int):=by omega
 clear hN eM hn eN
 go_enter func3,ntmps3
 go_wp2_with fail
 refine(LV.out w (Ab.refl w)).mono ?_
 rintro e9 v1 ⟨rfl,b1⟩
 have A1:Hid (Ab w v1):=b1
 clear b1 LV
 go_wp2_with fail
 refine(NW.out v1 A1.out).mono ?_
 rintro e9 v2 ⟨gb,rfl,b2,g2⟩
 have A2:Hid (Ab w v2):=A1.out.trans b2
 have G2:=hid g2
 clear b2 g2 A1 NW
 go_wp2_with fail
 refine(GC.out v2 gb G2.out).mono ?_
 rintro e9 v3 ⟨rfl,b3⟩
 have B3:Hid (Ab v2 v3):=b3
 clear b3 GC
 go_wp2_with fail
 refine(GE'.out v3 gb (G2.out.to B3.out)).mono ?_
 rintro e9 v4 ⟨rfl,b4⟩
 have B4:Hid (Ab v2 v4):=B3.out.trans b4
 clear b4 B3 GE'
 go_wp2_with fail
 refine(GS.out v4 gb (G2.out.to B4.out)).mono ?_
 rintro e9 v5 ⟨rfl,b5⟩
 have B5:Hid (Ab v2 v5):=B4.out.trans b5
 clear b5 B4 GS
 go_upto_region 10 with fail
 have R6:Hid ((v5.alloc (Obj.cells (madeCells #[.int .i64 0] N) 3)).rowIs v5.heap.size 3 N (fun c=>.int .i64 (sn n 0 c))):=(jZ (heap_alloc_new v5 _)).congr (fun c _=>by rw[S0.out])
 have B6:Hid (Ab v2 (v5.alloc (Obj.cells (madeCells #[.int .i64 0] N) 3))):=B5.out.trans (bl1 _ _)
 generalize hW:World.alloc v5 _=v6 at*
 obtain⟨bs,hbs⟩:=aB v5.heap.size
 have LB:Hid (v2.heap.size<=bs):=by show _<=_;rw[<- hbs];exact B5.out.size
 rw[hbs]at R6 ⊢
 clear hbs hW B5 M2 k1 k2 k3 n1 n2 n3 N0
 go_wp2
 go_loopw [7] (fun iv wr=> ∃i:Nat,i<=M/\iv=.int .i64 (i:Nat)/\wr.rowIs bs 3 N (fun c=>.int .i64 (sn n i c))/\Ab v2 wr) (fun iv _=>M - (intOf iv).toNat)
 case atStart=>exact⟨0,by omega,rfl,R6.out,B6.out⟩
 case round=>
  obtain⟨i,hi,rfl,r1,ar'⟩:=hrel
  have AR:=hid ar'
  have RW:=hid r1
  clear ar' r1 R6 B6
  by_cases him:i<M
  ·have HI:=hid him
   have iI:(i:Int)<M:=by omega
   have iB:(i:Int)<12288:=by have:=HB.out;omega
   have dN:decide (i<M)=true:=decide_eq_true him
   have dI:decide ((i:Int)<2*(N:Int))=true:=decide_eq_true (by have:=HB.out;omega)
   have dJ:decide (i<2*N)=true:=decide_eq_true (by have:=HB.out;omega)
   have lr:=LR.out i him
   have lI:(lc i:Int)<N:=by omega
   have rI:(rc i:Int)<N:=lr.2 |> fun h=>by omega
   have lrI: ¬(rc i:Int)<=(lc i:Int):=by omega
   have nB:(N:Int)<=6144:=by have:=HB.out;omega
   have CE:=hid (ED.out wr gb i (G2.out.to AR.out) him)
   have sl:=SI.out i (lc i)
   have sr:=SI.out i (rc i)
   have NX:Hid (∀(v:World) (x y:Value),v.rowIs bs 3 N (fun c=>.int .i64 (sn n i c))->x=.int .i64 (sn n i (lc i)+1)->y=.int .i64 (sn n i (rc i)+1)->((v.setCell ⟨bs,lc i,none⟩ x).setCell ⟨bs,rc i,none⟩ y).rowIs bs 3 N (fun c=>.int .i64 (sn n (i+1) c))):=fun v x y h hx hy=>by
    refine((h.set (lc i) x).set (rc i) y).congr (fun c hc=> ?_)
    have hh:=SH.out i him
    by_cases e2:c=rc i
    ·subst e2
     simp only[if_true]
     rw[hy,<- hh.2]
    ·by_cases e1:c=lc i
     ·subst e1
      rw[if_neg e2]
      simp only[if_true]
      rw[hx,<- hh.1]
     ·rw[if_neg e2,if_neg e1]
      rw[SM.out i c him hc e1 e2]
   have CO1:=hid (fun v (a:Ab v2 v)=>O1.out v gb i (G2.out.to a) him)
   have CO2:=hid (fun v (a:Ab v2 v)=>O2.out v gb i (G2.out.to a) him)
   have CL1:=hid (fun v (a:Ab v2 v)=>L1.out v i (A2.out.trans a) him)
   have CL2:=hid (fun v (a:Ab v2 v)=>L2.out v i (A2.out.trans a) him)
   have CK1:=hid (fun v (a:Ab v2 v)=>K1.out v i (A2.out.trans a) him)
   have CK2:=hid (fun v (a:Ab v2 v)=>K2.out v i (A2.out.trans a) him)
   have CL3:=hid (fun v (a:Ab v2 v)=>L3.out v gb i (G2.out.to a) him)
   have CK3:=hid (fun v (a:Ab v2 v)=>K3.out v gb i (G2.out.to a) him)
   have ps:=PS.out i him
   obtain⟨l,hl⟩:=aB (lc i)
   obtain⟨r,hr⟩:=aB (rc i)
   obtain⟨s_,hs_⟩:=aB (sc i)
   obtain⟨k_,hk_⟩:=aB (bk i)
   obtain⟨x,hx⟩:=aB (ln i)
   obtain⟨y,hy⟩:=aB (gp i)
   obtain⟨xl,hxl⟩:=aB (sn n i (lc i))
   obtain⟨xr,hxr⟩:=aB (sn n i (rc i))
   have VL:Hid (sn n i l=xl/\sn n i r=xr/\l<N/\r<N/\l≠r):=by rw[<- hl,<- hr];exact⟨hxl,hxr,by omega,by omega,by omega⟩
   rw[hl,hr]at lr lrI
   rw[hl]at lI
   rw[hr]at rI
   rw[hxl]at sl
   rw[hxr]at sr
   rw[hxl,hxr,hl,hr]at NX
   rw[hl,hs_]at CO1
   rw[hr,hk_]at CO2
   rw[hl,hs_,hx]at CL1
   rw[hr,hk_,hx]at CL2
   rw[hl,hs_,hy]at CK1
   rw[hr,hk_,hy]at CK2
   rw[hx]at CL3
   rw[hy]at CK3
   rw[hx,hy]at ps
   rw[hl,hr,hs_,hk_]at CE
   have PX:=hid ps
   clear hl hr hs_ hk_ hx hy hxl hxr lr ps him hi
   go_wp2_with fail
   refine CE.out.mono ?_
   rintro e9 u2 ⟨rfl,c2⟩
   have B2:Hid (Ab wr (u2.alloc (.cells #[.int .i64 (l:Nat),.int .i64 (s_:Nat),.int .i64 (r:Nat),.int .i64 (k_:Nat)] 30))):=(show Ab wr u2 from c2).trans (bl1 _ _)
   have E2:=hid (heap_alloc_new u2 (.cells #[.int .i64 (l:Nat),.int .i64 (s_:Nat),.int .i64 (r:Nat),.int .i64 (k_:Nat)] 30))
   have LE:Hid (bs<u2.heap.size):=Nat.lt_of_lt_of_le RW.out.lt (show Ab wr u2 from c2).size
   clear c2 CE
   go_upto_region 14 with fail
   generalize hW:World.alloc u2 _=V at*
   obtain⟨ge,hg⟩:=aB u2.heap.size
   rw[hg]at E2 LE ⊢
   clear hg hW
   have AV:Hid (Ab v2 V):=AR.out.trans B2.out
   have RV:=hid (rowIs.ab RW.out B2.out)
   clear B2 RW AR
   have e0:=aA 0 E2.out
   have e2:=aA 2 E2.out
   have z1:=RV.out.cell VL.out.2.2.1
   have z2:=RV.out.cell VL.out.2.2.2.1
   have f1:=RV.out.frozen l
   have f2:=RV.out.frozen r
   rw[VL.out.1]at z1
   rw[VL.out.2.1]at z2
   have nlr:=VL.out.2.2.2.2
   have nrl:=Ne.symm nlr
   have nge:bs≠ge:=by have:=LE.out;omega
   have neg:=Ne.symm nge
   go_upto_region 18 with fail
   clear e0 e2 z1 z2 f1 f2 nlr nrl
   have AS:Hid (Ab v2 ((V.setCell ⟨bs,l,none⟩ (.int .i64 (xl+1))).setCell ⟨bs,r,none⟩ (.int .i64 (xr+1)))):=(AV.out.setk LB.out _).setk LB.out _
   have RS:=hid (NX.out V _ _ RV.out rfl rfl)
   have ES:Hid (((V.setCell ⟨bs,l,none⟩ (.int .i64 (xl+1))).setCell ⟨bs,r,none⟩ (.int .i64 (xr+1))).heap[ge]? =some (.cells #[.int .i64 (l:Nat),.int .i64 (s_:Nat),.int .i64 (r:Nat),.int .i64 (k_:Nat)] 30)):=(aE neg).trans ((aE neg).trans E2.out)
   clear AV RV E2 NX nge neg sl sr VL LE
   generalize World.setCell (World.setCell V _ _) _ _=Y at*
   clear V
   have y0:=aA 0 ES.out
   have y1:=aA 1 ES.out
   go_wp2_with fail
   refine(CO1.out Y AS.out).mono ?_
   rintro e9 Y1 ⟨rfl,c1⟩
   have B1:Hid (Ab Y Y1):=c1
   clear c1 CO1 y0 y1
   have y0:=aA 2 (Ab.heap B1.out ES.out)
   have y1:=aA 3 (Ab.heap B1.out ES.out)
   go_wp2_with fail
   refine(CO2.out Y1 (AS.out.trans B1.out)).mono ?_
   rintro e9 Y2 ⟨rfl,c1⟩
   have B2:Hid (Ab Y Y2):=B1.out.trans c1
   clear c1 CO2 y0 y1 B1
   have y0:=aA 0 (Ab.heap B2.out ES.out)
   have y1:=aA 1 (Ab.heap B2.out ES.out)
   have ii:((i:Int) != (i:Int))=false:=by simp
   go_wp2_with fail
   refine(CL1.out Y2 (AS.out.trans B2.out)).mono ?_
   rintro e9 Y3 ⟨rfl,c1⟩
   have B3:Hid (Ab Y Y3):=B2.out.trans c1
   clear c1 CL1 y0 y1 B2 ii
   have y0:=aA 0 (Ab.heap B3.out ES.out)
   have y1:=aA 1 (Ab.heap B3.out ES.out)
   go_wp2_with fail
   refine(CK1.out Y3 (AS.out.trans B3.out)).mono ?_
   rintro e9 Y4 ⟨rfl,c1⟩
   have B4:Hid (Ab Y Y4):=B3.out.trans c1
   clear c1 CK1 y0 y1 B3
   have gx:=PX.out.2.1
   have gy:=PX.out.2.2
   go_upto_region 24 with fail
   have A4:Hid (Ab v2 Y4):=AS.out.trans B4.out
   have R4:=hid (rowIs.ab RS.out B4.out)
   have E4:=hid (Ab.heap B4.out ES.out)
   clear AS RS ES B4
   go_cut [193]from 152 to 193 (fun s9 wx=>s9=.bool false/\Ab Y4 wx)
   case first=>
    have av:Ab Y4 Y4:=Ab.refl _
    have BL: ∀v:World,(Instr.buildSlice 38 2 #[(0,.float .f64 x),(1,.float .f64 y)]).run prog v=.ok (.slice (some ⟨v.heap.size,0,none⟩) 2 2) (v.alloc (.cells #[.float .f64 x,.float .f64 y] 35)):=fun v=>by simp[go_sem,Instr.buildSlice,run_underlying underlying38]
    have KS:Hid (∀w',Ab Y4 w'->Ab Y4 w'/\w'.cell? ⟨ge,2,none⟩=some (.int .i64 (r:Nat))/\w'.cell? ⟨ge,3,none⟩=some (.int .i64 (k_:Nat))):=fun w' a=>⟨a,aA 2 (Ab.heap a E4.out),aA 3 (Ab.heap a E4.out)⟩
    have SX:Hid (∀(v:World) (p q:Nat),v.heap[p]? =some (.cells #[.float .f64 x,.float .f64 y] 35)->v.heap[q]? =some (.cells #[.float .f64 x,.float .f64 y] 35)->Calls prog 14 #[.slice (some ⟨p,0,none⟩) 2 2,.slice (some ⟨q,0,none⟩) 2 2] v fun e w'=>e=.returned (.bool true)/\Below v.heap.size v w'):=fun v p q h1 h2=>sf_at p 0 2 q 0 2 2 (fun k=>if k=0 then x else y) v (by omega) (hid (two_fl PX.out.1.1 PX.out.1.2 h1)) (hid (two_fl PX.out.1.1 PX.out.1.2 h2))
    have SX2:Hid (∀V:World,Calls prog 14 #[.slice (some ⟨V.heap.size,0,none⟩) 2 2,.slice (some ⟨V.heap.size+1,0,none⟩) 2 2] ((V.alloc (.cells #[.float .f64 x,.float .f64 y] 35)).alloc (.cells #[.float .f64 x,.float .f64 y] 35)) fun e w'=>e=.returned (.bool true)/\Ab V w'):=fun V=>(SX.out _ _ _ (heap_alloc2_old V (.cells #[.float .f64 x,.float .f64 y] 35) (.cells #[.float .f64 x,.float .f64 y] 35)) (heap_alloc2_new V (.cells #[.float .f64 x,.float .f64 y] 35) (.cells #[.float .f64 x,.float .f64 y] 35))).mono fun e w' h=>⟨h.1,(show Ab V _ from bl2 V (.cells #[.float .f64 x,.float .f64 y] 35) (.cells #[.float .f64 x,.float .f64 y] 35)).trans h.2⟩
    have SX3:Hid (∀V:World,Calls prog 14 #[.slice (some ⟨V.heap.size+1,0,none⟩) 2 2,.slice (some ⟨V.heap.size,0,none⟩) 2 2] ((V.alloc (.cells #[.float .f64 x,.float .f64 y] 35)).alloc (.cells #[.float .f64 x,.float .f64 y] 35)) fun e w'=>e=.returned (.bool true)/\Ab V w'):=fun V=>(SX.out _ _ _ (heap_alloc2_new V (.cells #[.float .f64 x,.float .f64 y] 35) (.cells #[.float .f64 x,.float .f64 y] 35)) (heap_alloc2_old V (.cells #[.float .f64 x,.float .f64 y] 35) (.cells #[.float .f64 x,.float .f64 y] 35))).mono fun e w' h=>⟨h.1,(show Ab V _ from bl2 V (.cells #[.float .f64 x,.float .f64 y] 35) (.cells #[.float .f64 x,.float .f64 y] 35)).trans h.2⟩
    go_region_held3 (fun w'=>Ab Y4 w'/\w'.cell? ⟨ge,2,none⟩=some (.int .i64 (r:Nat))/\w'.cell? ⟨ge,3,none⟩=some (.int .i64 (k_:Nat))) ((refine KS.out _ ?_;(with_reducible (repeat(first | assumption | apply Ab.drew | apply Ab.alloc)));done)) (first
     | (go_at_call 12;refine(CL2.out _ (A4.out.trans (show Ab Y4 _ by with_reducible (repeat(first | assumption | apply Ab.drew | apply Ab.alloc))))).mono ?_;rintro e9 z1 ⟨rfl,c1⟩;have d1:Ab _ z1:=c1;have az1:Ab Y4 z1:=(show Ab Y4 _ by with_reducible (repeat(first | assumption | apply Ab.drew | apply Ab.alloc))).trans c1)
     | (go_at_call 13;refine(CK2.out _ (A4.out.trans (show Ab Y4 _ by with_reducible (repeat(first | assumption | apply Ab.drew | apply Ab.alloc))))).mono ?_;rintro e9 z2 ⟨rfl,c2⟩;have d2:Ab _ z2:=c2;have az2:Ab Y4 z2:=(show Ab Y4 _ by with_reducible (repeat(first | assumption | apply Ab.drew | apply Ab.alloc))).trans c2)
     | (go_at_call 15;refine(CL3.out _ (A4.out.trans (show Ab Y4 _ by with_reducible (repeat(first | assumption | apply Ab.drew | apply Ab.alloc))))).mono ?_;rintro e9 z4 ⟨rfl,c4⟩;have d4:Ab _ z4:=c4;have az4:Ab Y4 z4:=(show Ab Y4 _ by with_reducible (repeat(first | assumption | apply Ab.drew | apply Ab.alloc))).trans c4)
     | (go_at_call 16;refine(CK3.out _ (A4.out.trans (show Ab Y4 _ by with_reducible (repeat(first | assumption | apply Ab.drew | apply Ab.alloc))))).mono ?_;rintro e9 z5 ⟨rfl,c5⟩;have d5:Ab _ z5:=c5;have az5:Ab Y4 z5:=(show Ab Y4 _ by with_reducible (repeat(first | assumption | apply Ab.drew | apply Ab.alloc))).trans c5)
     | (go_at_call_of 14 (#[Value.slice (some ⟨z3.heap.size,0,none⟩) 2 2,Value.slice (some ⟨z5.heap.size,0,none⟩) 2 2]);refine(SX.out (z5.alloc (.cells #[.float .f64 x,.float .f64 y] 35)) (z3.heap.size) (z5.heap.size) (Ab.heap (Ab.alloc (d4.trans d5) (.cells #[.float .f64 x,.float .f64 y] 35)) (heap_alloc_new z3 (.cells #[.float .f64 x,.float .f64 y] 35))) (heap_alloc_new z5 (.cells #[.float .f64 x,.float .f64 y] 35))).mono ?_;rintro e9 z3 ⟨rfl,c3⟩;have d3:Ab _ z3:=c3;have az3:Ab Y4 z3:=(show Ab Y4 _ by with_reducible (repeat(first | assumption | apply Ab.drew | apply Ab.alloc))).trans c3)
     | (go_at_call_of 14 (#[Value.slice (some ⟨z4.heap.size,0,none⟩) 2 2,Value.slice (some ⟨z5.heap.size,0,none⟩) 2 2]);refine(SX.out (z5.alloc (.cells #[.float .f64 x,.float .f64 y] 35)) (z4.heap.size) (z5.heap.size) (Ab.heap (Ab.alloc d5 (.cells #[.float .f64 x,.float .f64 y] 35)) (heap_alloc_new z4 (.cells #[.float .f64 x,.float .f64 y] 35))) (heap_alloc_new z5 (.cells #[.float .f64 x,.float .f64 y] 35))).mono ?_;rintro e9 z3 ⟨rfl,c3⟩;have d3:Ab _ z3:=c3;have az3:Ab Y4 z3:=(show Ab Y4 _ by with_reducible (repeat(first | assumption | apply Ab.drew | apply Ab.alloc))).trans c3)
     | (go_at_call_of 14 (#[Value.slice (some ⟨Y4.heap.size,0,none⟩) 2 2,Value.slice (some ⟨z2.heap.size,0,none⟩) 2 2]);refine(SX.out (z2.alloc (.cells #[.float .f64 x,.float .f64 y] 35)) (Y4.heap.size) (z2.heap.size) (Ab.heap (Ab.alloc (((Ab.refl (Y4.alloc (.cells #[.float .f64 x,.float .f64 y] 35))).drew.trans d1).trans d2) (.cells #[.float .f64 x,.float .f64 y] 35)) (heap_alloc_new Y4 (.cells #[.float .f64 x,.float .f64 y] 35))) (heap_alloc_new z2 (.cells #[.float .f64 x,.float .f64 y] 35))).mono ?_;rintro e9 z3 ⟨rfl,c3⟩;have d3:Ab _ z3:=c3;have az3:Ab Y4 z3:=(show Ab Y4 _ by with_reducible (repeat(first | assumption | apply Ab.drew | apply Ab.alloc))).trans c3)
     | (go_at_call_of 14 (#[Value.slice (some ⟨z1.heap.size,0,none⟩) 2 2,Value.slice (some ⟨z2.heap.size,0,none⟩) 2 2]);refine(SX.out (z2.alloc (.cells #[.float .f64 x,.float .f64 y] 35)) (z1.heap.size) (z2.heap.size) (Ab.heap (Ab.alloc d2 (.cells #[.float .f64 x,.float .f64 y] 35)) (heap_alloc_new z1 (.cells #[.float .f64 x,.float .f64 y] 35))) (heap_alloc_new z2 (.cells #[.float .f64 x,.float .f64 y] 35))).mono ?_;rintro e9 z3 ⟨rfl,c3⟩;have d3:Ab _ z3:=c3;have az3:Ab Y4 z3:=(show Ab Y4 _ by with_reducible (repeat(first | assumption | apply Ab.drew | apply Ab.alloc))).trans c3)
     | (go_at_call 14;have q0:=az5;with_reducible refine(SX2.out z5).mono ?_;rintro e9 z3 ⟨rfl,c3⟩;have az3:Ab Y4 z3:=az5.trans c3)
     | (go_at_call 14;have q0:=az5;with_reducible refine(SX3.out z5).mono ?_;rintro e9 z3 ⟨rfl,c3⟩;have az3:Ab Y4 z3:=az5.trans c3)
     | (go_at_call 14;have q0:=az2;with_reducible refine(SX2.out z2).mono ?_;rintro e9 z3 ⟨rfl,c3⟩;have az3:Ab Y4 z3:=az2.trans c3)
     | (go_at_call 14;have q0:=az2;with_reducible refine(SX3.out z2).mono ?_;rintro e9 z3 ⟨rfl,c3⟩;have az3:Ab Y4 z3:=az2.trans c3))
    all_goals(try go_wp2_with fail)
    all_goals(try go_meet)
    all_goals exact⟨rfl,(by with_reducible (repeat(first | assumption | apply Ab.drew | apply Ab.alloc)))⟩
   case rest=>
    obtain⟨rfl,ac⟩:=hcut
    rename World=>Y5
    have A5:Hid (Ab v2 Y5):=A4.out.trans ac
    have R5:=hid (rowIs.ab R4.out ac)
    clear ac A4 R4 E4
    go_wp2
    exact⟨⟨i+1,by have:=HI.out;omega,by simp,R5.out,A5.out⟩,by have:=HI.out;simp[intOf];omega⟩
  ·have e6:M=i:=by omega
   subst e6
   clear him hi
   have dI:decide ((M:Int)<2*(N:Int))=false:=decide_eq_false (by have:=HB.out;omega)
   have dJ:decide (M<2*N)=false:=decide_eq_false (by have:=HB.out;omega)
   have nB:(N:Int)<=6144:=by have:=HB.out;omega
   have R5:Hid (wr.rowIs bs 3 N (fun _=>.int .i64 4)):=RW.out.congr (fun c hc=>by rw[SA.out c hc])
   clear RW
   go_wp2
   clear dI dJ
   go_loopw [196] (fun iv wq=> ∃c:Nat,c<=N/\iv=.int .i64 (c:Nat)/\Ab wr wq) (fun iv _=>N - (intOf iv).toNat)
   case atStart=>exact⟨0,by omega,rfl,Ab.refl _⟩
   case round=>
    obtain⟨c,hc,rfl,ar'⟩:=hrel
    rename World=>U
    have AU:Hid (Ab wr U):=ar'
    clear ar'
    by_cases hcn:c<N
    ·have HC:=hid hcn
     have cI:(c:Int)<N:=by omega
     have cB:(c:Int)<=6144:=by omega
     have dN:decide (c<N)=true:=decide_eq_true hcn
     have C1:=hid (fun v (a:Ab U v)=>A1'.out v gb c (G2.out.to (AR.out.trans (AU.out.trans a))) hcn)
     have C2:=hid (fun v=>A2'.out v c hcn)
     have ap:=AP.out c
     obtain⟨x,hx⟩:=aB (ar c)
     rw[hx]at C1 C2 ap
     have xe:(x != x)=false:=by simp
     have xl:decide (x<1)=false:=decide_eq_false (by omega)
     have z0:=(rowIs.ab R5.out AU.out).cell hcn
     clear hx hcn hc ap
     go_wp2_with fail
     refine(C1.out U (Ab.refl _)).mono ?_
     rintro e9 u3 ⟨rfl,c1⟩
     have K1':Hid (Ab U u3):=c1
     clear c1 z0
     go_wp2_with fail
     refine(C2.out u3).mono ?_
     rintro e9 u4 ⟨rfl,c1⟩
     have K2':Hid (Ab U u4):=K1'.out.trans c1
     clear c1 K1'
     go_wp2_with fail
     refine(C1.out u4 K2'.out).mono ?_
     rintro e9 u5 ⟨rfl,c1⟩
     have K3':Hid (Ab U u5):=K2'.out.trans c1
     clear c1 K2'
     go_wp2
     exact⟨⟨c+1,by have:=HC.out;omega,by simp,AU.out.trans K3'.out⟩,by have:=HC.out;simp[intOf];omega⟩
    ·have e6:N=c:=by omega
     subst e6
     clear hcn hc
     go_wp2
     go_ret
     exact⟨rfl,A2.out.trans (AR.out.trans AU.out)⟩
end Co
end
section
open Go.RowKit Tf Cu Go.Deep
namespace Co
open Ss Fc St
theorem DN{x:Nat}(h:1<=x/\x<=4611686018427387904):fgt x 0=true:=by
 rw[cM (by omega)]
 exact bV.2 (by omega)
theorem edges_at(OF:OneF)(sd:Int)(w:World)(hF:Fr w):
  Calls prog 3 #[.int .i64 sd] w fun e w'=>e=.returned (.bool true)/\Below w.heap.size w w':=by
 have LV:=fun v (a:Ab w v)=>moves_at OF v (hF.to a)
 by_cases hs:1<=sd/\sd<=32
 ·obtain⟨n,rfl⟩: ∃n:Nat,sd=(n:Nat):=⟨sd.toNat,by omega⟩
  have hn:1<=n/\n<=32:=by omega
  have p1:n*n<=32*32:=Nat.mul_le_mul hn.2 hn.2
  have p0:0<n*n:=Nat.mul_pos (by omega) (by omega)
  have q6:6*n*n=6*(n*n):=Nat.mul_assoc _ _ _
  have q12:12*n*n=12*(n*n):=Nat.mul_assoc _ _ _
  have ff:=fun i (hi:i<12*n*n)=>bM hn.1 hi
  have md:=fun i (hi:i<12*n*n)=>eO hn.1 (ff i hi).1
  have sd4: ∀i,edT n i%4<4:=fun i=>by omega
  have er: ∀i,i<12*n*n->eR n i=bsC n (edT n i/4) (edT n i%4):=fun i hi=>(md i hi).1
  have bl:=fun i (hi:i<12*n*n)=>qJ hn.1 (aW (ff i hi).1) (sd4 i)
  have lb:=fun i (hi:i<12*n*n)=>Aq hn.1 (aW (ff i hi).1) (sd4 i) (bl i hi).1 (bl i hi).2
  have gb':=fun i (hi:i<12*n*n)=>AX hn.1 (aW (ff i hi).1) (sd4 i)
  have e1: ∀i,i<12*n*n->eE n (edT n i)=i/\eS n (edT n i)=1:=fun i hi=>⟨by unfold eE;rw[if_pos (ff i hi).2.1,(ff i hi).2.2],by unfold eS;rw[if_pos (ff i hi).2.1]⟩
  have e2: ∀i,i<12*n*n->eE n (mt n (edT n i))=i/\eS n (mt n (edT n i))= -1:=fun i hi=>⟨by rw[Sh.rT hn.1 (ff i hi).1,(e1 i hi).1],by rw[Sh.yM hn.1 (ff i hi).1,(e1 i hi).2]⟩
  refine edges_go n (6*n*n) (12*n*n) (eL n) (fun i=>edT n i%4) (eR n) (fun i=>bsS n (edT n i/4) (edT n i%4)) (fun i=>LnC n (edT n i/4) (edT n i%4)) (fun i=>GpC n (edT n i/4) (edT n i%4)) (arC n) w hn.2 ⟨by omega,by omega⟩ rfl (by omega) LV (fun v a=>(new_at n v hn (hF.to a)).mono fun e w' h=> ?_) (fun v gb g=>(dT g).mono fun e w' h=>⟨h.1,by rw[h.2];exact Below.refl _ _⟩) (fun v gb g=>(bZ g).mono fun e w' h=>⟨h.1,by rw[h.2];exact Below.refl _ _⟩) (fun v gb g=>(yB g).mono fun e w' h=>⟨h.1,by rw[h.2];exact Below.refl _ _⟩) (fun v gb i g hi=>gEdgeN hn hi g) (fun v gb i g hi=> ?_) (fun v gb i g hi=> ?_) (fun v i a hi=>Au n _ _ v hn (aW (ff i hi).1) (sd4 i)) (fun v i a hi=> ?_) (fun v i a hi=>Av n _ _ v hn (aW (ff i hi).1) (sd4 i) (hF.to a)) (fun v i a hi=> ?_) (fun v gb i g hi=>rM hn hi g) (fun v gb i g hi=>De hn hi g) (fun v gb c g hc=>fX hn hc g) (fun v c hc=>vQ n c v hn hc) (fun i hi=>eL_eR hn.1 hi) (fun i hi=> ?_) (fun c=>(cO n c).1) (fun c=>sn_0 n c) (fun i c=>sn_in n i c) (fun c hc=>sn_all hn.1 hc) (fun i hi=>sn_hit hn.1 hi) (fun i c hi hc h1 h2=>sn_miss hn.1 hi hc h1 h2)
  ·obtain⟨gb,rfl,a1,-,g⟩:=h
   exact⟨gb,rfl,a1,g⟩
  ·have h:=uC hn (aW (ff i hi).1) (sd4 i) g
   rw[show 4*(edT n i/4)+edT n i%4=edT n i by omega,(e1 i hi).1,(e1 i hi).2]at h
   exact h
  ·have h:=uC hn (bl i hi).1 (bl i hi).2 g
   rw[show 4*bsC n (edT n i/4) (edT n i%4)+bsS n (edT n i/4) (edT n i%4)=mt n (edT n i)from rfl,(e2 i hi).1,(e2 i hi).2]at h
   rw[er i hi]
   exact h
  ·have h:=Au n _ _ v hn (bl i hi).1 (bl i hi).2
   rw[lb i hi]at h
   rw[er i hi]
   exact h
  ·have h:=Av n _ _ v hn (bl i hi).1 (bl i hi).2 (hF.to a)
   rw[gb' i hi]at h
   rw[er i hi]
   exact h
  ·have l:=LnC_le hn (aW (ff i hi).1) (sd4 i)
   have g:=GpC_le hn (aW (ff i hi).1) (sd4 i)
   exact⟨⟨by omega,by omega⟩,DN l,DN g⟩
 ·have NW:=fun v (_:Ab w v)=>(new_no sd v hs).mono fun e w' h=>(⟨h.1,by rw[h.2];exact Below.refl _ _⟩:e=.returned (.tuple #[.pointer none,.int .i64 10])/\Below v.heap.size v w')
  by_cases h1:sd<1
  ·exact Fg sd w (decide_eq_true h1) LV NW
  ·exact Fh sd w (decide_eq_false h1) (decide_eq_true (by omega)) LV NW
end Co
end
section
open Go.RowKit
namespace Rl
def updV(x:Nat->Value)(i:Nat)(v:Value):Nat->Value:=fun j=>if j=i then v else x j
def putAll:List Oper->Nat->(Nat->Value)->Act->Act
 | [],_,_,a=>a
 | o :: r,i,x,a=>putAll r (i+1) x (a.put o.dst (x i))
def depB(o:Oper)(j:Nat):Bool:=o.after.any fun e=>e.on==j&&Region.binds .any e
def relAll(P:Program)(l:List Oper)(a:Act)(R:Nat->Value->Prop)(C:World->Prop)(Q:Exit->Act->World->Prop):Nat->List Oper->Prop
 | _,[]=>True
 | i,o :: rest=>(∀(x:Nat->Value) (w:World),C w->(∀j,depB o j=true->R j (x j))-> ∀K:Act->World->Prop,Hid (∀v w',R i v->C w'->K ((putAll l 0 x a).put o.dst v) w')->o.wp P (putAll l 0 x a) w K Q)/\relAll P l a R C Q (i+1) rest
theorem aR{P:Program}{l:List Oper}{a:Act}{R:Nat->Value->Prop}{C:World->Prop}{Q:Exit->Act->World->Prop}{i:Nat}{o:Oper}{rest:List Oper}(j:Nat)(Ri:Value->Prop)(hRi:R i=Ri)(hj:i+1=j)
  (h: ∀(x:Nat->Value) (w:World),C w->(∀k,depB o k=true->R k (x k))-> ∀K:Act->World->Prop,Hid (∀v w',Ri v->C w'->K ((putAll l 0 x a).put o.dst v) w')->o.wp P (putAll l 0 x a) w K Q)
  (t:relAll P l a R C Q j rest):relAll P l a R C Q i (o :: rest):=by
 subst hRi
 subst hj
 exact⟨h,t⟩
theorem wM{P:Program}{l:List Oper}{a:Act}{R:Nat->Value->Prop}{C:World->Prop}{Q:Exit->Act->World->Prop}{i:Nat}:relAll P l a R C Q i []:=trivial
def plainB:List Oper->Bool
 | []=>true
 | o :: r=>o.guard.isNone&&(match o.dst with | some d=>r.all (fun p=>p.dst != some d) | none=>true)&&plainB r
theorem put_put(a:Act)(d:Option Tmp)(u v:Value):(a.put d u).put d v=a.put d v:=by
 cases d with
 | none=>rfl
 | some d=>simp[Act.put]
theorem jN: ∀(l:List Oper) (i:Nat) (x:Nat->Value) (k:Nat) (v:Value) (a:Act),k<i->putAll l i (updV x k v) a=putAll l i x a
 | [],_,_,_,_,_,_=>rfl
 | o :: r,i,x,k,v,a,h=>by
  show putAll r (i+1) (updV x k v) (a.put o.dst (updV x k v i))=putAll r (i+1) x (a.put o.dst (x i))
  have e:updV x k v i=x i:=by unfold updV;rw[if_neg (by omega)]
  rw[e,jN r (i+1) x k v _ (by omega)]
theorem sI: ∀(l:List Oper) (i:Nat) (x:Nat->Value) (a:Act) (d:Option Tmp) (v:Value),(∀t,d=some t->l.all (fun p=>p.dst != some t)=true)->putAll l i x (a.put d v)=(putAll l i x a).put d v
 | [],_,_,_,_,_,_=>rfl
 | o :: r,i,x,a,d,v,h=>by
  show putAll r (i+1) x ((a.put d v).put o.dst (x i))=(putAll r (i+1) x (a.put o.dst (x i))).put d v
  rw[Act.put_comm a v (x i) (fun t ht=>by have:=h t ht;simp at this;exact this.1)]
  exact sI r (i+1) x _ d v (fun t ht=>by have:=h t ht;simp at this ⊢;exact this.2)
theorem sJ: ∀(l:List Oper) (i:Nat) (x:Nat->Value) (a:Act) (k:Nat) (o:Oper) (v:Value),plainB l=true->l[k]? =some o->putAll l i (updV x (i+k) v) a=(putAll l i x a).put o.dst v
 | [],_,_,_,_,_,_,_,h=>by simp at h
 | p :: r,i,x,a,0,o,v,hp,h=>by
  simp at h
  subst h
  show putAll r (i+1) (updV x i v) (a.put p.dst (updV x i v i))=(putAll r (i+1) x (a.put p.dst (x i))).put p.dst v
  have e:updV x i v i=v:=by unfold updV;rw[if_pos rfl]
  simp only[plainB,Bool.and_eq_true]at hp
  rw[e,jN r (i+1) x i v _ (by omega),<- sI r (i+1) x _ p.dst v (fun t ht=>by have:=hp.1.2;rw[ht]at this;exact this),put_put]
 | p :: r,i,x,a,k+1,o,v,hp,h=>by
  simp at h
  simp only[plainB,Bool.and_eq_true]at hp
  show putAll r (i+1) (updV x (i+(k+1)) v) (a.put p.dst (updV x (i+(k+1)) v i))=(putAll r (i+1) x (a.put p.dst (x i))).put o.dst v
  have e:updV x (i+(k+1)) v i=x i:=by unfold updV;rw[if_neg (by omega)]
  rw[e,show i+(k+1)=i+1+k by omega]
  exact sJ r (i+1) x _ k o v hp.2 h
theorem put_own(a:Act)(d:Option Tmp):a.put d (match d with | some t=>a.tmps.getD t undef | none=>undef)=a:=by
 cases d with
 | none=>rfl
 | some t=>
  show{a with tmps:=a.tmps.setIfInBounds t (a.tmps.getD t undef)}=a
  have:a.tmps.setIfInBounds t (a.tmps.getD t undef)=a.tmps:=by
   by_cases h:t<a.tmps.size
   ·refine Array.ext (by simp) fun i h1 h2=> ?_
    rw[Array.getElem_setIfInBounds (by simpa using h2)]
    split
    ·rename_i e;subst e;simp
    ·rfl
   ·exact Array.setIfInBounds_eq_of_size_le (Nat.le_of_not_lt h)
  rw[this]
theorem sK: ∀(l:List Oper) (i:Nat) (a:Act),∃x,putAll l i x a=a
 | [],_,_=>⟨fun _=>undef,rfl⟩
 | o :: r,i,a=>by
  obtain⟨x,hx⟩:=sK r (i+1) a
  refine⟨updV x i (match o.dst with | some t=>a.tmps.getD t undef | none=>undef),?_⟩
  show putAll r (i+1) _ (a.put o.dst (updV x i _ i))=a
  have e: ∀v,updV x i v i=v:=fun v=>by unfold updV;rw[if_pos rfl]
  rw[e,put_own,jN r (i+1) x i _ _ (by omega),hx]
theorem uK{P:Program}{l:List Oper}{a:Act}{R:Nat->Value->Prop}{C:World->Prop}{Q:Exit->Act->World->Prop}: ∀(r:List Oper) (i k:Nat) (o:Oper),relAll P l a R C Q i r->r[k]? =some o->
  ∀(x:Nat->Value) (w:World),C w->(∀j,depB o j=true->R j (x j))-> ∀K:Act->World->Prop,(∀v w',R (i+k) v->C w'->K ((putAll l 0 x a).put o.dst v) w')->o.wp P (putAll l 0 x a) w K Q
 | [],_,_,_,_,h=>by simp at h
 | p :: r,i,0,o,h,he=>by
  simp at he
  subst he
  exact fun x w hC hR K hK=>h.1 x w hC hR K hK
 | p :: r,i,k+1,o,h,he=>by
  simp at he
  have:=uK r (i+1) k o h.2 he
  rw[show i+1+k=i+(k+1)by omega]at this
  exact this
def Inv(l:List Oper)(a:Act)(R:Nat->Value->Prop)(C:World->Prop)(listed:Array Bool)(b:Act)(w:World):Prop:=
 ∃x,b=putAll l 0 x a/\C w/\ ∀i,listed.getD i false=true->R i (x i)
theorem Fi{P:Program}{l:List Oper}{a:Act}{R:Nat->Value->Prop}{C:World->Prop}{Q:Exit->Act->World->Prop}(hp:plainB l=true)(hb:backB .any l.toArray l.length=true)
  (H:relAll P l a R C Q 0 l) (fin: ∀(x:Nat->Value) (w:World),C w->(∀i,i<l.length->R i (x i))->Q .normal (putAll l 0 x a) w):
  ∀(fuel:Nat) (listed:Array Bool) (b:Act) (w:World),listed.size=l.length->l.length<=fuel+(listed.toList.filter id).length->Inv l a R C listed b w->wpAny P .any l.toArray Q fuel listed b w:=by
 have guard: ∀{i:Nat} {o:Oper},l[i]? =some o->o.guard=none:=by
  intro i o h
  have aux: ∀(r:List Oper) (i:Nat),plainB r=true->r[i]? =some o->o.guard=none:=by
   intro r
   induction r with
   | nil=>intro i _ h;simp at h
   | cons p r ih=>
    intro i hp h
    simp only[plainB,Bool.and_eq_true]at hp
    cases i with
    | zero=>simp at h;subst h;simpa using hp.1.1
    | succ i=>simp at h;exact ih i hp.2 h
  exact aux l i hp h
 have allr: ∀{listed:Array Bool},listed.size=l.length->Region.ready .any l.toArray listed=[]-> ∀i,i<l.length->listed.getD i false=true:=by
  intro listed hs h0 i hi
  rcases eF (md:=.any) (ops:=l.toArray) (n:=l.length) (by simp) hb (listed:=listed) (by omega)with all | ⟨j,_,hj⟩
  ·rw[mR (d':=true) (by omega)];exact all i hi
  ·rw[h0]at hj;cases hj
 intro fuel
 induction fuel with
 | zero=>
  intro listed b w hs hc inv
  have full: ∀i,i<l.length->listed.getD i true=true:=by
   intro i hi
   have e:(listed.toList.filter id).length=listed.toList.length:=by
    have:=List.length_filter_le id listed.toList
    simp at hc this ⊢
    omega
   have e2:=List.length_filter_eq_length_iff.1 e
   have hm:listed.getD i true=listed[i]'(by omega):=by simp[show i<listed.size by omega]
   rw[hm]
   exact e2 _ (by simp)
  have h0:Region.ready .any l.toArray listed=[]:=by
   rw[List.eq_nil_iff_forall_not_mem]
   intro i hi
   obtain⟨u,o,ho,_⟩:=mem_ready.1 hi
   have lt:i<l.length:=by have:=(Array.getElem?_eq_some_iff.1 ho).1;simpa using this
   rw[full i lt]at u
   cases u
  obtain⟨x,rfl,hC,hR⟩:=inv
  exact⟨h0,fin x w hC (fun i hi=>hR i (by rw[mR (d':=true) (by omega)];exact full i hi))⟩
 | succ fuel ih=>
  intro listed b w hs hc inv
  obtain⟨x,rfl,hC,hR⟩:=inv
  refine⟨fun h0=>fin x w hC (fun i hi=>hR i (allr hs h0 i hi)),fun i hi=> ?_⟩
  obtain⟨u,o,ho,hd⟩:=mem_ready.1 hi
  have lt:i<l.length:=by have:=(Array.getElem?_eq_some_iff.1 ho).1;simpa using this
  have ho':l[i]? =some o:=by simpa using ho
  have cnt:l.length<=fuel+((listed.setIfInBounds i true).toList.filter id).length:=by
   have hf:listed.toList[i]? =some false:=by
    have:listed.getD i true=listed[i]'(by omega):=by simp[show i<listed.size by omega]
    rw[this]at u
    simp[show i<listed.size by omega,u]
   have aux: ∀(t:List Bool) (i:Nat),t[i]? =some false->((t.set i true).filter id).length=(t.filter id).length+1:=by
    intro t
    induction t with
    | nil=>intro i h;simp at h
    | cons b t ih=>
     intro i h
     cases i with
     | zero=>simp at h;subst h;simp
     | succ i=>
      simp at h
      have:=ih i h
      cases b<;>simp[this]
   have:=aux listed.toList i hf
   simp only[Array.toList_setIfInBounds]
   rw[this]
   omega
  unfold wpOp
  rw[ho]
  have hg:o.guard=none:=guard ho'
  have hw:Region.wanted o (yielded l.toArray (putAll l 0 x a).tmps)=true:=by simp[Region.wanted,hg]
  simp only[hw,if_true]
  left
  have step:=uK l 0 i o H ho' x w hC (fun j hj=>by
   unfold depB at hj
   rw[<- Array.any_toList]at hj
   obtain⟨e,he',h2⟩:=List.any_eq_true.1 hj
   have he:e ∈ o.after:=Array.mem_toList_iff.1 he'
   simp at h2
   have:=hd e he h2.2
   rw[h2.1]at this
   exact hR j this)
  rw[Nat.zero_add]at step
  refine step _ (fun v w' hv hC'=>ih _ _ w' (by simpa using hs) cnt ⟨updV x i v,?_,hC',fun j hj=> ?_⟩)
  ·have:=sJ l 0 x a i o v hp ho'
   rw[Nat.zero_add]at this
   exact this.symm
  ·by_cases e:j=i
   ·subst e;unfold updV;rw[if_pos rfl];exact hv
   ·have:listed.getD j false=true:=by rw[getD_set_ne false (Ne.symm e)]at hj;exact hj
    unfold updV;rw[if_neg e];exact hR j this
theorem lV{P:Program}{id:Nat}{Q:Exit->Act->World->Prop}{a:Act}{w:World}{l:List Oper}(R:Nat->Value->Prop)(C:World->Prop)(hm:P.follows .mixedOrders=true)(hp:plainB l=true)(hb:backB .any l.toArray l.length=true)(hC:C w.drew)
  (H:relAll P l a R C Q 0 l) (fin: ∀(x:Nat->Value) (w:World),C w->(∀i,i<l.length->R i (x i))->Q .normal (putAll l 0 x a) w):(Code.region id l.toArray true).wp P Q a w:=by
 refine wp_region_any hm ?_
 obtain⟨x,hx⟩:=sK l 0 a
 exact Fi hp hb H fin _ _ a w.drew (by simp) (by simp) ⟨x,hx.symm,hC,fun i hi=>by rw[getD_replicate_false]at hi;cases hi⟩
end Rl
end
section
open Go.RowKit Tf
attribute [local go_sem] aJ aK aN aO aP aQ aV
theorem isC_eq{r c:Nat}(h:IsC r c)(c0:0<c)(c1:c<=9218868437227405312):r=c:=by
 have e:=h.2
 unfold canonB at e
 split at e
 ·unfold quiet at e;omega
 ·split at e
  ·omega
  ·exact e
theorem add_can{P:Program}(w:World)(s x:Nat)(hs:s<18446744073709551616)(hx:x<18446744073709551616):
  ∃r n,(∀t,(binOp .add t (.float .f64 s) (.float .f64 x)).run P w=.ok (.float .f64 r) (w.drewN n))/\IsC r (addB s x):=by
 cases e:Ieee.double.add s x with
 | none=>exact⟨nanOf w s x,1,fun t=>jV w t s x e,fW _ _ _,by rw[aX e];unfold canonB;rw[if_pos (dS _ _ _)]⟩
 | some r=>exact⟨r,0,fun t=>run_float_arith w .add t .f64 s x r e,by
   have q:=IsQ.add (IsQ.self hs) (IsQ.self hx) e
   exact q.1,by rw[bE e]⟩
theorem depth_no(n a:Int)(w:World)(h:n<1\/a<1):
  Calls prog 134 #[.int .i64 n,.int .i64 a] w fun e w'=>e=.returned (.float .f64 0)/\w'=w:=by
 by_cases c:n<1
 ·go_enter func134,ntmps134
  go_wp2
  go_ret
  exact⟨rfl,rfl⟩
 ·have d:a<1:=by omega
  clear h
  go_enter func134,ntmps134
  go_wp2
  go_ret
  exact⟨rfl,rfl⟩
theorem Fj(n a:Int)(w:World)(h1:1<=n)(h2:1<=a)(n2:n<=9223372036854775807)(a2:a<=9223372036854775807):
  Calls prog 134 #[.int .i64 n,.int .i64 a] w fun e w'=>e=.returned (.float .f64 (dpB n a))/\ ∃k,w'=w.drewN k:=by
 obtain⟨r,k,hr,hc⟩:=gJ (P:=prog) w (fw n) (fw a)
 have e:=isC_eq hc (by rw[<- dp_of h1 h2];have:=dp_in h1 h2 n2 a2;omega) (by rw[<- dp_of h1 h2];have:=dp_in h1 h2 n2 a2;omega)
 rw[dp_of h1 h2,<- e]
 clear e hc
 have F1:=hid (jX n w)
 have F2:=hid (jX a w)
 rw[show rn false (n*one)=fw n from rfl]at F1
 rw[show rn false (a*one)=fw a from rfl]at F2
 generalize fw n=x at*
 generalize fw a=y at*
 go_enter func134,ntmps134
 go_wp2_with fail
 refine F1.out.mono ?_
 rintro e w' ⟨rfl,rfl⟩
 go_wp2_with fail
 refine F2.out.mono ?_
 rintro e w' ⟨rfl,rfl⟩
 go_wp2
 go_ret
 exact⟨rfl,k,rfl⟩
theorem kG(n a:Int)(w:World)(n2:n<=9223372036854775807)(a2:a<=9223372036854775807):
  Calls prog 134 #[.int .i64 n,.int .i64 a] w fun e w'=>e=.returned (.float .f64 (dpB n a))/\ ∃k,w'=w.drewN k:=by
 by_cases c:n<1\/a<1
 ·rw[Dq c]
  exact(depth_no n a w c).mono fun _ _ h=>⟨h.1,0,h.2⟩
 ·exact Fj n a w (by omega) (by omega) n2 a2
theorem sM(b:Nat)(n a:Int)(w:World)(hb:b<18446744073709551616)(n2:n<=9223372036854775807)(a2:a<=9223372036854775807):
  Calls prog 175 #[.float .f64 b,.int .i64 n,.int .i64 a] w fun e w'=>e=.returned (.float .f64 (lvl b n a))/\ ∃k,w'=w.drewN k:=by
 have D:=hid (kG n a w n2 a2)
 have e0:lvl b n a=addB b (dpB n a):=rfl
 rw[e0]
 have hd:dpB n a<18446744073709551616:=by have:=pA n2 a2;omega
 clear e0
 generalize dpB n a=d at*
 have AD:Hid (∀k:Nat,∃r m,(∀t,(binOp .add t (.float .f64 b) (.float .f64 d)).run prog (w.drewN k)=.ok (.float .f64 r) ((w.drewN k).drewN m))/\IsC r (addB b d)):=fun k=>add_can _ b d hb hd
 generalize addB b d=y at*
 go_enter func175,ntmps175
 go_wp2_with fail
 refine D.out.mono ?_
 rintro e w' ⟨rfl,k,rfl⟩
 obtain⟨r,m,hr,hc⟩:=AD.out k
 have C:=hid (bN r (w.drewN (k+m)) hc.1)
 rw[hc.2]at C
 go_wp2_with fail
 refine C.out.mono ?_
 rintro e w' ⟨rfl,rfl⟩
 go_wp2
 go_ret
 exact⟨rfl,k+m,rfl⟩
end
section
open Go.RowKit Tf Cu Go.Deep
attribute [local go_sem] aJ aK aN aO aP aQ aV aD
namespace Fc
def shB(w1:Int)(b1 l2:Nat):Bool:= !decide (0<w1)&&(flt l2 b1||feq l2 b1)
theorem Bu(b:Nat)(wt ar:Int)(w:World):Calls prog 167 #[.agg #[.float .f64 b,.int .i64 wt,.int .i64 ar]] w fun e w'=>e=.returned (.bool (decide (0<wt)))/\Below w.heap.size w w':=by
 have A0:=jP (bl1 w (.cells #[.float .f64 b,.int .i64 wt,.int .i64 ar] 189))
 go_enter func167,ntmps167
 go_wp2
 go_ret
 exact⟨rfl,A0.out⟩
theorem oM(b:Nat)(wt ar:Int)(w:World)(hb:b<18446744073709551616)(h1:wt<=9223372036854775807)(h2:ar<=9223372036854775807):Calls prog 170 #[.agg #[.float .f64 b,.int .i64 wt,.int .i64 ar]] w fun e w'=>e=.returned (.float .f64 (lvl b wt ar))/\Below w.heap.size w w':=by
 have L:=hid (fun v=>sM b wt ar v hb h1 h2)
 have A0:=jP (bl1 w (.cells #[.float .f64 b,.int .i64 wt,.int .i64 ar] 189))
 clear hb h1 h2
 generalize lvl b wt ar=y at*
 go_enter func170,ntmps170
 go_wp2_with fail
 refine(L.out _).mono ?_
 rintro e w' ⟨rfl,k,rfl⟩
 go_wp2
 go_ret
 exact⟨rfl,Ab.drewN A0.out k⟩
theorem uM(b:Nat)(wt ar:Int)(w:World)(h1:wt<=9223372036854775807)(h2:ar<=9223372036854775807):Calls prog 171 #[.agg #[.float .f64 b,.int .i64 wt,.int .i64 ar]] w fun e w'=>e=.returned (.float .f64 (dpB wt ar))/\Below w.heap.size w w':=by
 have L:=hid (fun v=>kG wt ar v h1 h2)
 have A0:=jP (bl1 w (.cells #[.float .f64 b,.int .i64 wt,.int .i64 ar] 189))
 clear h1 h2
 generalize dpB wt ar=y at*
 go_enter func171,ntmps171
 go_wp2_with fail
 refine(L.out _).mono ?_
 rintro e w' ⟨rfl,k,rfl⟩
 go_wp2
 go_ret
 exact⟨rfl,Ab.drewN A0.out k⟩
theorem shut_go(b1 b2:Nat)(w1 a1 w2 a2:Int)(l:Nat)(d q:Bool)(w:World)(hq:(d=true/\q=false)\/(d=false/\(flt l b1||feq l b1)=q))
  (WT:Hid (∀v,Calls prog 167 #[.agg #[.float .f64 b1,.int .i64 w1,.int .i64 a1]] v fun e w'=>e=.returned (.bool d)/\Below v.heap.size v w'))
  (LV:Hid (∀v,Calls prog 170 #[.agg #[.float .f64 b2,.int .i64 w2,.int .i64 a2]] v fun e w'=>e=.returned (.float .f64 l)/\Below v.heap.size v w')):
  Calls prog 168 #[.agg #[.float .f64 b1,.int .i64 w1,.int .i64 a1],.agg #[.float .f64 b2,.int .i64 w2,.int .i64 a2]] w fun e w'=>e=.returned (.bool q)/\Below w.heap.size w w':=by
 obtain⟨W_W0,R1,R2⟩:=cA w (.cells #[.float .f64 b1,.int .i64 w1,.int .i64 a1] 189) (.cells #[.float .f64 b2,.int .i64 w2,.int .i64 a2] 189)
 go_enter func168,ntmps168
 go_upto_region 1 with fail
 generalize hW:World.alloc (World.alloc w _) _=W0 at*
 obtain⟨g1,hg1⟩:=aB w.heap.size
 obtain⟨g2,hg2⟩:=aB (w.heap.size+1)
 rw[hg2]at R2 ⊢
 rw[hg1]at R1 ⊢
 clear hg1 hg2 hW
 rcases hq with⟨rfl,rfl⟩ | ⟨rfl,hq⟩
 ·obtain⟨UU,E,hF1,hF2⟩:=cls W0
  have HU:=hid hF2
  have HU1:=hid hF1
  have HX:Hid (∀u,Ab w (E u)):=fun u=>W_W0.out.trans (hF1 u)
  have x0: ∀u,(E u).cell? ⟨g1,0,none⟩=some (.float .f64 b1):=fun u=>aA 0 ((hF1 u).heap R1.out)
  have x1: ∀u,(E u).cell? ⟨g1,1,none⟩=some (.int .i64 w1):=fun u=>aA 1 ((hF1 u).heap R1.out)
  have x2: ∀u,(E u).cell? ⟨g1,2,none⟩=some (.int .i64 a1):=fun u=>aA 2 ((hF1 u).heap R1.out)
  have y0: ∀u,(E u).cell? ⟨g2,0,none⟩=some (.float .f64 b2):=fun u=>aA 0 ((hF1 u).heap R2.out)
  have y1: ∀u,(E u).cell? ⟨g2,1,none⟩=some (.int .i64 w2):=fun u=>aA 1 ((hF1 u).heap R2.out)
  have y2: ∀u,(E u).cell? ⟨g2,2,none⟩=some (.int .i64 a2):=fun u=>aA 2 ((hF1 u).heap R2.out)
  have DD0:=HU.out _ (Ab.refl W0).drew
  clear hF1 hF2
  refine aM E (by kernel_rfl) (by kernel_rfl) DD0 ?_
  repeat(go_big_quiet_step (first
   | (with_reducible rfl)
   | (go_at_call 167;exact aH HU HU1 (WT.out _))
   | (go_at_call 170;exact aH HU HU1 (LV.out _))))
  refine wpQuiet_nil ?_
  intro z hwz
  obtain⟨u0,hu⟩:=hwz
  have AZ:Hid (Ab W0 z):=by rw[hu];exact HU1.out u0
  clear hu u0
  clear HU HU1 DD0 HX x0 x1 x2 y0 y1 y2
  clear E UU
  have W_z:Hid (Ab w z):=W_W0.out.trans AZ.out
  go_wp2
  go_ret
  exact⟨rfl,W_z.out⟩
 ·obtain⟨UU,E,hF1,hF2⟩:=cls W0
  have HU:=hid hF2
  have HU1:=hid hF1
  have HX:Hid (∀u,Ab w (E u)):=fun u=>W_W0.out.trans (hF1 u)
  have x0: ∀u,(E u).cell? ⟨g1,0,none⟩=some (.float .f64 b1):=fun u=>aA 0 ((hF1 u).heap R1.out)
  have x1: ∀u,(E u).cell? ⟨g1,1,none⟩=some (.int .i64 w1):=fun u=>aA 1 ((hF1 u).heap R1.out)
  have x2: ∀u,(E u).cell? ⟨g1,2,none⟩=some (.int .i64 a1):=fun u=>aA 2 ((hF1 u).heap R1.out)
  have y0: ∀u,(E u).cell? ⟨g2,0,none⟩=some (.float .f64 b2):=fun u=>aA 0 ((hF1 u).heap R2.out)
  have y1: ∀u,(E u).cell? ⟨g2,1,none⟩=some (.int .i64 w2):=fun u=>aA 1 ((hF1 u).heap R2.out)
  have y2: ∀u,(E u).cell? ⟨g2,2,none⟩=some (.int .i64 a2):=fun u=>aA 2 ((hF1 u).heap R2.out)
  have DD0:=HU.out _ (Ab.refl W0).drew
  clear hF1 hF2
  refine aM E (by kernel_rfl) (by kernel_rfl) DD0 ?_
  repeat(go_big_quiet_step (first
   | (with_reducible rfl)
   | (go_at_call 167;exact aH HU HU1 (WT.out _))
   | (go_at_call 170;exact aH HU HU1 (LV.out _))))
  refine wpQuiet_nil ?_
  intro z hwz
  obtain⟨u0,hu⟩:=hwz
  have AZ:Hid (Ab W0 z):=by rw[hu];exact HU1.out u0
  clear hu u0
  clear HU HU1 DD0 HX x0 x1 x2 y0 y1 y2
  clear E UU
  have W_z:Hid (Ab w z):=W_W0.out.trans AZ.out
  go_wp2
  go_ret
  exact⟨rfl,W_z.out⟩
theorem DP(b1 b2:Nat)(w1 a1 w2 a2:Int)(w:World)(h1:b2<18446744073709551616)(h2:w2<=9223372036854775807)(h3:a2<=9223372036854775807):Calls prog 168 #[.agg #[.float .f64 b1,.int .i64 w1,.int .i64 a1],.agg #[.float .f64 b2,.int .i64 w2,.int .i64 a2]] w fun e w'=>e=.returned (.bool (shB w1 b1 (lvl b2 w2 a2)))/\Below w.heap.size w w':=by
 refine shut_go b1 b2 w1 a1 w2 a2 (lvl b2 w2 a2) (decide (0<w1)) _ w ?_ (fun v=>Bu b1 w1 a1 v) (fun v=>oM b2 w2 a2 v h1 h2 h3)
 unfold shB
 cases decide (0<w1)
 ·right;exact⟨rfl,by simp⟩
 ·left;exact⟨rfl,by simp⟩
theorem eopen_go(bl br gap vu:Nat)(wl al wr ar:Int)(dl dr s1 s2 q:Bool)(w:World)(hq:(dl=false/\dr=false/\q=false)\/(dl=false/\dr=true/\s1=true/\q=false)\/(dl=false/\dr=true/\s1=false/\q= !s2)\/(dl=true/\s1=true/\q=false)\/(dl=true/\s1=false/\q= !s2))
  (WL:Hid (∀v,Calls prog 167 #[.agg #[.float .f64 bl,.int .i64 wl,.int .i64 al]] v fun e w'=>e=.returned (.bool dl)/\Below v.heap.size v w'))
  (WR:Hid (∀v,Calls prog 167 #[.agg #[.float .f64 br,.int .i64 wr,.int .i64 ar]] v fun e w'=>e=.returned (.bool dr)/\Below v.heap.size v w'))
  (SL:Hid (∀v,Calls prog 168 #[.agg #[.float .f64 bl,.int .i64 wl,.int .i64 al],.agg #[.float .f64 br,.int .i64 wr,.int .i64 ar]] v fun e w'=>e=.returned (.bool s1)/\Below v.heap.size v w'))
  (SR:Hid (∀v,Calls prog 168 #[.agg #[.float .f64 br,.int .i64 wr,.int .i64 ar],.agg #[.float .f64 bl,.int .i64 wl,.int .i64 al]] v fun e w'=>e=.returned (.bool s2)/\Below v.heap.size v w')):
  Calls prog 145 #[.agg #[.float .f64 bl,.int .i64 wl,.int .i64 al,.float .f64 br,.int .i64 wr,.int .i64 ar,.float .f64 gap,.float .f64 vu]] w fun e w'=>e=.returned (.bool q)/\Below w.heap.size w w':=by
 obtain⟨W_W0,R0⟩:=aL w (.cells #[.float .f64 bl,.int .i64 wl,.int .i64 al,.float .f64 br,.int .i64 wr,.int .i64 ar,.float .f64 gap,.float .f64 vu] 191)
 go_enter func145,ntmps145
 go_upto_region 1 with fail
 generalize hW:World.alloc w _=W0 at*
 obtain⟨g1,hg1⟩:=aB w.heap.size
 rw[hg1]at R0 ⊢
 clear hg1 hW
 have R_W0:=R0
 clear R0
 rcases hq with⟨rfl,rfl,rfl⟩ | ⟨rfl,rfl,rfl,rfl⟩ | ⟨rfl,rfl,rfl,rfl⟩ | ⟨rfl,rfl,rfl⟩ | ⟨rfl,rfl,rfl⟩
 ·have c0:=aA 0 R_W0.out
  have c1:=aA 1 R_W0.out
  have c2:=aA 2 R_W0.out
  have c3:=aA 3 R_W0.out
  have c4:=aA 4 R_W0.out
  have c5:=aA 5 R_W0.out
  go_wp2_with fail
  refine(WL.out _).mono ?_
  rintro e9 v0 ⟨rfl,k1⟩
  have W_v0:Hid (Ab w v0):=W_W0.out.call k1
  have R_v0:=hid (Ab.heap k1 R_W0.out)
  clear k1 c0 c1 c2 c3 c4 c5 W_W0 R_W0
  have c0:=aA 0 R_v0.out
  have c1:=aA 1 R_v0.out
  have c2:=aA 2 R_v0.out
  have c3:=aA 3 R_v0.out
  have c4:=aA 4 R_v0.out
  have c5:=aA 5 R_v0.out
  go_wp2_with fail
  refine(WR.out _).mono ?_
  rintro e9 v1 ⟨rfl,k1⟩
  have W_v1:Hid (Ab w v1):=W_v0.out.call k1
  have R_v1:=hid (Ab.heap k1 R_v0.out)
  clear k1 c0 c1 c2 c3 c4 c5 W_v0 R_v0
  go_wp2
  go_ret
  exact⟨rfl,W_v1.out⟩
 ·have c0:=aA 0 R_W0.out
  have c1:=aA 1 R_W0.out
  have c2:=aA 2 R_W0.out
  have c3:=aA 3 R_W0.out
  have c4:=aA 4 R_W0.out
  have c5:=aA 5 R_W0.out
  go_wp2_with fail
  refine(WL.out _).mono ?_
  rintro e9 v0 ⟨rfl,k1⟩
  have W_v0:Hid (Ab w v0):=W_W0.out.call k1
  have R_v0:=hid (Ab.heap k1 R_W0.out)
  clear k1 c0 c1 c2 c3 c4 c5 W_W0 R_W0
  have c0:=aA 0 R_v0.out
  have c1:=aA 1 R_v0.out
  have c2:=aA 2 R_v0.out
  have c3:=aA 3 R_v0.out
  have c4:=aA 4 R_v0.out
  have c5:=aA 5 R_v0.out
  go_wp2_with fail
  refine(WR.out _).mono ?_
  rintro e9 v1 ⟨rfl,k1⟩
  have W_v1:Hid (Ab w v1):=W_v0.out.call k1
  have R_v1:=hid (Ab.heap k1 R_v0.out)
  clear k1 c0 c1 c2 c3 c4 c5 W_v0 R_v0
  have c0:=aA 0 R_v1.out
  have c1:=aA 1 R_v1.out
  have c2:=aA 2 R_v1.out
  have c3:=aA 3 R_v1.out
  have c4:=aA 4 R_v1.out
  have c5:=aA 5 R_v1.out
  go_wp2_with fail
  refine(SL.out _).mono ?_
  rintro e9 v2 ⟨rfl,k1⟩
  have W_v2:Hid (Ab w v2):=W_v1.out.call k1
  have R_v2:=hid (Ab.heap k1 R_v1.out)
  clear k1 c0 c1 c2 c3 c4 c5 W_v1 R_v1
  go_wp2
  go_ret
  exact⟨rfl,W_v2.out⟩
 ·have c0:=aA 0 R_W0.out
  have c1:=aA 1 R_W0.out
  have c2:=aA 2 R_W0.out
  have c3:=aA 3 R_W0.out
  have c4:=aA 4 R_W0.out
  have c5:=aA 5 R_W0.out
  go_wp2_with fail
  refine(WL.out _).mono ?_
  rintro e9 v0 ⟨rfl,k1⟩
  have W_v0:Hid (Ab w v0):=W_W0.out.call k1
  have R_v0:=hid (Ab.heap k1 R_W0.out)
  clear k1 c0 c1 c2 c3 c4 c5 W_W0 R_W0
  have c0:=aA 0 R_v0.out
  have c1:=aA 1 R_v0.out
  have c2:=aA 2 R_v0.out
  have c3:=aA 3 R_v0.out
  have c4:=aA 4 R_v0.out
  have c5:=aA 5 R_v0.out
  go_wp2_with fail
  refine(WR.out _).mono ?_
  rintro e9 v1 ⟨rfl,k1⟩
  have W_v1:Hid (Ab w v1):=W_v0.out.call k1
  have R_v1:=hid (Ab.heap k1 R_v0.out)
  clear k1 c0 c1 c2 c3 c4 c5 W_v0 R_v0
  have c0:=aA 0 R_v1.out
  have c1:=aA 1 R_v1.out
  have c2:=aA 2 R_v1.out
  have c3:=aA 3 R_v1.out
  have c4:=aA 4 R_v1.out
  have c5:=aA 5 R_v1.out
  go_wp2_with fail
  refine(SL.out _).mono ?_
  rintro e9 v2 ⟨rfl,k1⟩
  have W_v2:Hid (Ab w v2):=W_v1.out.call k1
  have R_v2:=hid (Ab.heap k1 R_v1.out)
  clear k1 c0 c1 c2 c3 c4 c5 W_v1 R_v1
  have c0:=aA 0 R_v2.out
  have c1:=aA 1 R_v2.out
  have c2:=aA 2 R_v2.out
  have c3:=aA 3 R_v2.out
  have c4:=aA 4 R_v2.out
  have c5:=aA 5 R_v2.out
  go_wp2_with fail
  refine(SR.out _).mono ?_
  rintro e9 v3 ⟨rfl,k1⟩
  have W_v3:Hid (Ab w v3):=W_v2.out.call k1
  have R_v3:=hid (Ab.heap k1 R_v2.out)
  clear k1 c0 c1 c2 c3 c4 c5 W_v2 R_v2
  go_wp2
  go_ret
  exact⟨rfl,W_v3.out⟩
 ·have c0:=aA 0 R_W0.out
  have c1:=aA 1 R_W0.out
  have c2:=aA 2 R_W0.out
  have c3:=aA 3 R_W0.out
  have c4:=aA 4 R_W0.out
  have c5:=aA 5 R_W0.out
  go_wp2_with fail
  refine(WL.out _).mono ?_
  rintro e9 v0 ⟨rfl,k1⟩
  have W_v0:Hid (Ab w v0):=W_W0.out.call k1
  have R_v0:=hid (Ab.heap k1 R_W0.out)
  clear k1 c0 c1 c2 c3 c4 c5 W_W0 R_W0
  have c0:=aA 0 R_v0.out
  have c1:=aA 1 R_v0.out
  have c2:=aA 2 R_v0.out
  have c3:=aA 3 R_v0.out
  have c4:=aA 4 R_v0.out
  have c5:=aA 5 R_v0.out
  go_wp2_with fail
  refine(SL.out _).mono ?_
  rintro e9 v1 ⟨rfl,k1⟩
  have W_v1:Hid (Ab w v1):=W_v0.out.call k1
  have R_v1:=hid (Ab.heap k1 R_v0.out)
  clear k1 c0 c1 c2 c3 c4 c5 W_v0 R_v0
  go_wp2
  go_ret
  exact⟨rfl,W_v1.out⟩
 ·have c0:=aA 0 R_W0.out
  have c1:=aA 1 R_W0.out
  have c2:=aA 2 R_W0.out
  have c3:=aA 3 R_W0.out
  have c4:=aA 4 R_W0.out
  have c5:=aA 5 R_W0.out
  go_wp2_with fail
  refine(WL.out _).mono ?_
  rintro e9 v0 ⟨rfl,k1⟩
  have W_v0:Hid (Ab w v0):=W_W0.out.call k1
  have R_v0:=hid (Ab.heap k1 R_W0.out)
  clear k1 c0 c1 c2 c3 c4 c5 W_W0 R_W0
  have c0:=aA 0 R_v0.out
  have c1:=aA 1 R_v0.out
  have c2:=aA 2 R_v0.out
  have c3:=aA 3 R_v0.out
  have c4:=aA 4 R_v0.out
  have c5:=aA 5 R_v0.out
  go_wp2_with fail
  refine(SL.out _).mono ?_
  rintro e9 v1 ⟨rfl,k1⟩
  have W_v1:Hid (Ab w v1):=W_v0.out.call k1
  have R_v1:=hid (Ab.heap k1 R_v0.out)
  clear k1 c0 c1 c2 c3 c4 c5 W_v0 R_v0
  have c0:=aA 0 R_v1.out
  have c1:=aA 1 R_v1.out
  have c2:=aA 2 R_v1.out
  have c3:=aA 3 R_v1.out
  have c4:=aA 4 R_v1.out
  have c5:=aA 5 R_v1.out
  go_wp2_with fail
  refine(SR.out _).mono ?_
  rintro e9 v2 ⟨rfl,k1⟩
  have W_v2:Hid (Ab w v2):=W_v1.out.call k1
  have R_v2:=hid (Ab.heap k1 R_v1.out)
  clear k1 c0 c1 c2 c3 c4 c5 W_v1 R_v1
  go_wp2
  go_ret
  exact⟨rfl,W_v2.out⟩
theorem eopen_at(bl br gap vu:Nat)(wl al wr ar:Int)(w:World)(h1:bl<18446744073709551616)(h2:br<18446744073709551616)(h3:wl<=9223372036854775807)(h4:wr<=9223372036854775807)(h5:al<=9223372036854775807)(h6:ar<=9223372036854775807):
  Calls prog 145 #[.agg #[.float .f64 bl,.int .i64 wl,.int .i64 al,.float .f64 br,.int .i64 wr,.int .i64 ar,.float .f64 gap,.float .f64 vu]] w fun e w'=>e=.returned (.bool (opB wl wr (lvl bl wl al) (lvl br wr ar) bl br))/\Below w.heap.size w w':=by
 refine eopen_go bl br gap vu wl al wr ar (decide (0<wl)) (decide (0<wr)) (shB wl bl (lvl br wr ar)) (shB wr br (lvl bl wl al)) _ w ?_ (fun v=>Bu bl wl al v) (fun v=>Bu br wr ar v) (fun v=>DP bl br wl al wr ar v h2 h4 h6) (fun v=>DP br bl wr ar wl al v h1 h3 h5)
 unfold opB shB
 generalize(flt (lvl br wr ar) bl||feq (lvl br wr ar) bl)=p
 generalize(flt (lvl bl wl al) br||feq (lvl bl wl al) br)=q
 cases decide (0<wl)<;>cases decide (0<wr)<;>cases p<;>cases q<;>decide
end Fc
end
section
open Go.RowKit Tf
theorem mlB_qq(a b:Nat):mlB (qB a) (qB b)=mlB a b:=by unfold mlB;rw[nQ,nR]
theorem Bv(a b:Nat):mlB a (qB b)=mlB a b:=by unfold mlB;rw[nR]
theorem clampB_q{r q:Nat}(h:IsQ r q)(most:Int):clampB r most=clampB q most:=by
 have e:=h.2
 unfold qB at e
 split at e
 ·rename_i n
  have nq:isN q=true:=by rw[<- e];decide
  unfold clampB
  rw[if_pos n,if_pos nq]
 ·rw[e]
end
end Go.Proofs.YtmhnilnaffjhmaaGreatDoor
