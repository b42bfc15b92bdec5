/-
  Some of the texts of this proof, one behind the other.
-/
import Derived.ProofKit
import Derived.OpenShut
import Derived.WalkLawsBesides
import Derived.Stop.Joined
import Derived.Carry
import Derived.Lib.SmallJoins
import Derived.Deep.SlicePairs
import Derived.Deep.Slices
import Derived.Test.YtaphajlpbgcfjaaGreatDoorRa18
set_option maxRecDepth 100000
set_option maxHeartbeats 400000000
namespace Go.Proofs.YtaphajlpbgcfjaaGreatDoor
open _root_.Go.Proofs.Tryz
section
open Go.RowKit Tf Cu Go.Deep
attribute [local go_sem] aJ aK aP aQ aR aV aX aF
namespace Ss
theorem H6:(Tryz.prog.info? 22).map (fun i=>(i.zero,i.size,i.bytes))=some (some (.float .f64 0),1,8):=by kernel_rfl
theorem H7(gb N qb ob cb l:Nat)(B:Nat->Nat)(ar G:Nat->Int)(w:World)(hN:0<N/\N<=6144)
  (CA:Hid (∀v (c:Nat),Ab w v->c<N->Calls prog 88 #[.pointer (some ⟨gb,0,none⟩),.int .i64 (c:Nat)] v fun e w'=>e=.returned (.int .i64 (ar c))/\Below v.heap.size v w'))
  (CF:Hid (∀v (c:Nat),c<N->Calls prog 138 #[.float .f64 (B c),.int .i64 (ar c),.float .f64 l] v fun e w'=>e=.returned (.int .i64 (G c))/\Below v.heap.size v w'))
  (IB:Hid (IsFl w (some ⟨qb,ob,none⟩) N B)):
  Calls prog 94 #[.pointer (some ⟨gb,0,none⟩),.slice (some ⟨qb,ob,none⟩) N cb,.float .f64 l] w fun e w'=> ∃b,e=.returned (.slice (some ⟨b,0,none⟩) N N)/\Ab w w'/\w.heap.size<=b/\w'.rowIs b 2 N (fun i=>.int .i64 (G i)):=by
 have M2: ∀v:World,(Instr.makeSlice 27 (.int .i64 (N:Nat)) (.int .i64 (N:Nat))).run prog v=.ok (.slice (some ⟨v.heap.size,0,none⟩) N N) (v.alloc (Obj.cells (madeCells #[.int .i64 0] N) 2)):=fun v=>run_make_row' (P:=prog) 27 2 (.int .i64 0) 8 underlying27 eD rfl .i64 .i64 N (by omega) (by omega) v
 have HN:=hid hN
 have nB:(N:Int)<=6144:=by omega
 clear hN
 have A1:=fJ (bl1 w (Obj.cells (madeCells #[.int .i64 0] N) 2))
 have N1:Hid ((w.alloc (Obj.cells (madeCells #[.int .i64 0] N) 2)).rowIs w.heap.size 2 N (fun _=>.int .i64 0)):=dT (heap_alloc_new _ _)
 go_enter func94,ntmps94
 go_upto_region 2 with fail
 generalize hW:World.alloc w _=V1 at*
 obtain⟨b,hb⟩:=aB w.heap.size
 have LE:Hid (w.heap.size<=b):=by show _<=_;omega
 rw[hb]at N1 ⊢
 clear hb hW M2
 go_wp2
 go_loopw [15] (fun iv wr=> ∃k:Nat,k<=N/\iv=.int .i64 (k:Nat)/\Ab w wr/\wr.rowIs b 2 N (fun i=>.int .i64 (if i<k then G i else 0))) (fun iv _=>N - (intOf iv).toNat)
 case atStart=>exact⟨0,by omega,rfl,A1.out,N1.out.congr (fun i _=>by simp)⟩
 case round=>
  obtain⟨k,hk,rfl,ar',r2⟩:=hrel
  have AW:=hid ar'
  have P2:=hid r2
  clear ar' r2 N1 A1
  by_cases hkn:k<N
  ·have HK:=hid hkn
   have kI:(k:Int)<N:=by omega
   have kB:(k:Int)<=6144:=by have:=HN.out.1;omega
   have C1:=hid (fun v (a:Ab w v)=>CA.out v k a hkn)
   have C2:=hid (fun v=>CF.out v k hkn)
   obtain⟨x,hx⟩:=aB (B k)
   obtain⟨y,hy⟩:=aB (G k)
   obtain⟨a,ha⟩:=aB (ar k)
   have YE:=hid hy
   have yb:wr.cell? ⟨qb,ob+k,none⟩=some (.float .f64 x):=by rw[<- hx];exact((IB.out.below AW.out).at0 hkn).2.2
   rw[ha]at C1
   rw[hx,hy,ha]at C2
   clear hx hy ha hkn hk
   go_wp2_with fail
   refine(C1.out wr AW.out).mono ?_
   rintro e9 v4 ⟨rfl,b4⟩
   have A4:Hid (Ab wr v4):=b4
   clear b4 C1 yb
   go_wp2_with fail
   refine(C2.out v4).mono ?_
   rintro e9 v5 ⟨rfl,b5⟩
   have A5:Hid (Ab wr v5):=A4.out.trans b5
   clear b5 C2 A4
   have z1:=(rowIs.ab P2.out A5.out).cell HK.out
   have z2:=(rowIs.ab P2.out A5.out).frozen k
   go_wp2_with fail
   refine⟨⟨k+1,by have:=HK.out;omega,by simp,(AW.out.trans A5.out).setk LE.out _,((rowIs.ab P2.out A5.out).set k _).congr (fun i _=> ?_)⟩,by have:=HK.out;simp[intOf];omega⟩
   by_cases e:i=k
   ·subst e;simp[YE.out]
   ·have e2:(i<k+1) ↔ i<k:=by omega
    simp[e,e2]
  ·have e6:N=k:=by omega
   subst e6
   go_wp2
   go_ret
   exact⟨b,rfl,AW.out,LE.out,P2.out.congr (fun i hi=>by simp[hi])⟩
theorem lake_10(side:Int)(pb:Option Addr)(lb cb:Nat)(l:Nat)(nc:Int)(w:World)(h0:(nc==0)=true)
  (CC:Hid (∀v,Calls prog 41 #[.int .i64 side] v fun e w'=>e=.returned (.int .i64 nc)/\w'=v)):
  Calls prog 29 #[.int .i64 side,.slice pb lb cb,.float .f64 l] w fun e w'=>e=.returned (.tuple #[.agg #[.slice none 0 0,.slice none 0 0,.slice none 0 0,.slice none 0 0,.int .i64 0,.int .i64 0],.int .i64 10])/\Below w.heap.size w w':=by
 obtain⟨A0,Q0⟩:=aL w (.cells #[.slice none 0 0,.slice none 0 0,.slice none 0 0,.slice none 0 0,.int .i64 0,.int .i64 0] 29)
 go_enter func29,ntmps29
 go_upto_region 1 with fail
 generalize hW:World.alloc w _=V0 at*
 obtain⟨gr,hgr⟩:=aB w.heap.size
 have HG:Hid (w.heap.size<=gr):=by show _<=_;omega
 rw[hgr]at Q0 ⊢
 clear hgr hW
 go_wp2_with fail
 refine(CC.out V0).mono ?_
 rintro e9 v9 ⟨rfl,hv9⟩
 have hv8:=hv9.symm
 subst hv8
 have t0:=aE Q0.out
 have f0:=eA Q0.out
 go_wp2_with fail
 (try simp only[Exit.inBlock,Exit.then])
 refine bodyPost_ret (v:=.tuple #[.agg #[.slice none 0 0,.slice none 0 0,.slice none 0 0,.slice none 0 0,.int .i64 0,.int .i64 0],.int .i64 10]) ?_ rfl ?_
 ·exact cG results29 _ _ gr _ _ (0,0) _ _ rfl rfl (oD Q0.out) underlying29 rfl (by kernel_rfl)
 ·exact⟨rfl,(((((A0.out.setk HG.out _).setk HG.out _).setk HG.out _).setk HG.out _).setk HG.out _).setk HG.out _⟩
theorem lake_12(side:Int)(pb:Option Addr)(lb cb:Nat)(l:Nat)(nc:Int)(w:World)(h0:(nc==0)=false)(h1:((lb:Int) != nc)=true)
  (CC:Hid (∀v,Calls prog 41 #[.int .i64 side] v fun e w'=>e=.returned (.int .i64 nc)/\w'=v)):
  Calls prog 29 #[.int .i64 side,.slice pb lb cb,.float .f64 l] w fun e w'=>e=.returned (.tuple #[.agg #[.slice none 0 0,.slice none 0 0,.slice none 0 0,.slice none 0 0,.int .i64 0,.int .i64 0],.int .i64 12])/\Below w.heap.size w w':=by
 obtain⟨A0,Q0⟩:=aL w (.cells #[.slice none 0 0,.slice none 0 0,.slice none 0 0,.slice none 0 0,.int .i64 0,.int .i64 0] 29)
 go_enter func29,ntmps29
 go_upto_region 1 with fail
 generalize hW:World.alloc w _=V0 at*
 obtain⟨gr,hgr⟩:=aB w.heap.size
 have HG:Hid (w.heap.size<=gr):=by show _<=_;omega
 rw[hgr]at Q0 ⊢
 clear hgr hW
 go_wp2_with fail
 refine(CC.out V0).mono ?_
 rintro e9 v9 ⟨rfl,hv9⟩
 have hv8:=hv9.symm
 subst hv8
 have t0:=aE Q0.out
 have f0:=eA Q0.out
 go_wp2_with fail
 (try simp only[Exit.inBlock,Exit.then])
 refine bodyPost_ret (v:=.tuple #[.agg #[.slice none 0 0,.slice none 0 0,.slice none 0 0,.slice none 0 0,.int .i64 0,.int .i64 0],.int .i64 12]) ?_ rfl ?_
 ·exact cG results29 _ _ gr _ _ (0,0) _ _ rfl rfl (oD Q0.out) underlying29 rfl (by kernel_rfl)
 ·exact⟨rfl,(((((A0.out.setk HG.out _).setk HG.out _).setk HG.out _).setk HG.out _).setk HG.out _).setk HG.out _⟩
theorem lake_13(side:Int)(pb:Option Addr)(lb cb:Nat)(l:Nat)(nc:Int)(fb:Int)(w:World)(h0:(nc==0)=false)(h1:((lb:Int) != nc)=false)(h2:(fb != -1)=true)
  (CC:Hid (∀v,Calls prog 41 #[.int .i64 side] v fun e w'=>e=.returned (.int .i64 nc)/\w'=v))
  (CB:Hid (∀v,Ab w v->Calls prog 45 #[.slice pb lb cb,.float .f64 4697254411347427328] v fun e w'=>e=.returned (.int .i64 fb)/\w'=v)):
  Calls prog 29 #[.int .i64 side,.slice pb lb cb,.float .f64 l] w fun e w'=>e=.returned (.tuple #[.agg #[.slice none 0 0,.slice none 0 0,.slice none 0 0,.slice none 0 0,.int .i64 0,.int .i64 0],.int .i64 13])/\Below w.heap.size w w':=by
 obtain⟨A0,Q0⟩:=aL w (.cells #[.slice none 0 0,.slice none 0 0,.slice none 0 0,.slice none 0 0,.int .i64 0,.int .i64 0] 29)
 go_enter func29,ntmps29
 go_upto_region 1 with fail
 generalize hW:World.alloc w _=V0 at*
 obtain⟨gr,hgr⟩:=aB w.heap.size
 have HG:Hid (w.heap.size<=gr):=by show _<=_;omega
 rw[hgr]at Q0 ⊢
 clear hgr hW
 go_wp2_with fail
 refine(CC.out V0).mono ?_
 rintro e9 v9 ⟨rfl,hv9⟩
 have hv8:=hv9.symm
 subst hv8
 go_wp2_with fail
 refine(CB.out V0 A0.out).mono ?_
 rintro e9 v9 ⟨rfl,hv9⟩
 have hv8:=hv9.symm
 subst hv8
 have t0:=aE Q0.out
 have f0:=eA Q0.out
 go_wp2_with fail
 (try simp only[Exit.inBlock,Exit.then])
 refine bodyPost_ret (v:=.tuple #[.agg #[.slice none 0 0,.slice none 0 0,.slice none 0 0,.slice none 0 0,.int .i64 0,.int .i64 0],.int .i64 13]) ?_ rfl ?_
 ·exact cG results29 _ _ gr _ _ (0,0) _ _ rfl rfl (oD Q0.out) underlying29 rfl (by kernel_rfl)
 ·exact⟨rfl,(((((A0.out.setk HG.out _).setk HG.out _).setk HG.out _).setk HG.out _).setk HG.out _).setk HG.out _⟩
theorem lake_1(side:Int)(pb:Option Addr)(lb cb:Nat)(l:Nat)(nc:Int)(fb:Int)(w:World)(h0:(nc==0)=false)(h1:((lb:Int) != nc)=false)(h2:(fb != -1)=false)
  (CC:Hid (∀v,Calls prog 41 #[.int .i64 side] v fun e w'=>e=.returned (.int .i64 nc)/\w'=v))
  (CB:Hid (∀v,Ab w v->Calls prog 45 #[.slice pb lb cb,.float .f64 4697254411347427328] v fun e w'=>e=.returned (.int .i64 fb)/\w'=v))
  (CW:Hid (∀v,Calls prog 93 #[.float .f64 l,.float .f64 13920626448202203136,.float .f64 4697254411347427328] v fun e w'=>e=.returned (.bool false)/\w'=v)):
  Calls prog 29 #[.int .i64 side,.slice pb lb cb,.float .f64 l] w fun e w'=>e=.returned (.tuple #[.agg #[.slice none 0 0,.slice none 0 0,.slice none 0 0,.slice none 0 0,.int .i64 0,.int .i64 0],.int .i64 1])/\Below w.heap.size w w':=by
 obtain⟨A0,Q0⟩:=aL w (.cells #[.slice none 0 0,.slice none 0 0,.slice none 0 0,.slice none 0 0,.int .i64 0,.int .i64 0] 29)
 go_enter func29,ntmps29
 go_upto_region 1 with fail
 generalize hW:World.alloc w _=V0 at*
 obtain⟨gr,hgr⟩:=aB w.heap.size
 have HG:Hid (w.heap.size<=gr):=by show _<=_;omega
 rw[hgr]at Q0 ⊢
 clear hgr hW
 go_wp2_with fail
 refine(CC.out V0).mono ?_
 rintro e9 v9 ⟨rfl,hv9⟩
 have hv8:=hv9.symm
 subst hv8
 go_wp2_with fail
 refine(CB.out V0 A0.out).mono ?_
 rintro e9 v9 ⟨rfl,hv9⟩
 have hv8:=hv9.symm
 subst hv8
 go_wp2_with fail
 refine(CW.out V0).mono ?_
 rintro e9 v9 ⟨rfl,hv9⟩
 have hv8:=hv9.symm
 subst hv8
 have t0:=aE Q0.out
 have f0:=eA Q0.out
 go_wp2_with fail
 (try simp only[Exit.inBlock,Exit.then])
 refine bodyPost_ret (v:=.tuple #[.agg #[.slice none 0 0,.slice none 0 0,.slice none 0 0,.slice none 0 0,.int .i64 0,.int .i64 0],.int .i64 1]) ?_ rfl ?_
 ·exact cG results29 _ _ gr _ _ (0,0) _ _ rfl rfl (oD Q0.out) underlying29 rfl (by kernel_rfl)
 ·exact⟨rfl,(((((A0.out.setk HG.out _).setk HG.out _).setk HG.out _).setk HG.out _).setk HG.out _).setk HG.out _⟩
theorem lake_14(n N M:Nat)(qb ob cb l:Nat)(G:Nat->Int)(qw:Int)(w:World)(hN:0<N/\N<=6144)(hM:M<=12288)(hqw:(qw != -1)=true)
  (CC:Hid (∀v,Calls prog 41 #[.int .i64 (n:Nat)] v fun e w'=>e=.returned (.int .i64 (N:Nat))/\w'=v))
  (CB:Hid (∀v,Ab w v->Calls prog 45 #[.slice (some ⟨qb,ob,none⟩) N cb,.float .f64 4697254411347427328] v fun e w'=>e=.returned (.int .i64 (-1))/\w'=v))
  (CW:Hid (∀v,Calls prog 93 #[.float .f64 l,.float .f64 13920626448202203136,.float .f64 4697254411347427328] v fun e w'=>e=.returned (.bool true)/\w'=v))
  (NW:Hid (∀v,Ab w v->Calls prog 13 #[.int .i64 (n:Nat)] v fun e w'=> ∃rb,e=.returned (.tuple #[.pointer (some ⟨rb,0,none⟩),.int .i64 0])/\Below v.heap.size v w'/\GridOf n rb w'))
  (FI:Hid (∀v rb,Ab w v->GridOf n rb v->Calls prog 94 #[.pointer (some ⟨rb,0,none⟩),.slice (some ⟨qb,ob,none⟩) N cb,.float .f64 l] v fun e w'=> ∃b,e=.returned (.slice (some ⟨b,0,none⟩) N N)/\Ab v w'/\v.heap.size<=b/\w'.rowIs b 2 N (fun i=>.int .i64 (G i))))
  (QU:Hid (∀v b,Sh.IsI v (some ⟨b,0,none⟩) N G->Calls prog 46 #[.slice (some ⟨b,0,none⟩) N N,.int .i64 4503599627370496] v fun e w'=>e=.returned (.int .i64 qw)/\w'=v))
  (GW:Hid (∀c,c<N->Sh.W64 (G c))):
  Calls prog 29 #[.int .i64 (n:Nat),.slice (some ⟨qb,ob,none⟩) N cb,.float .f64 l] w fun e w'=>e=.returned (.tuple #[.agg #[.slice none 0 0,.slice none 0 0,.slice none 0 0,.slice none 0 0,.int .i64 0,.int .i64 0],.int .i64 14])/\Below w.heap.size w w':=by
 have h0:((N:Int)==0)=false:=by simp;omega
 have h1:((N:Int) != (N:Int))=false:=by simp
 have HN:=hid (And.intro hN hM)
 clear hN hM
 obtain⟨A0,Q0⟩:=aL w (.cells #[.slice none 0 0,.slice none 0 0,.slice none 0 0,.slice none 0 0,.int .i64 0,.int .i64 0] 29)
 go_enter func29,ntmps29
 go_upto_region 1 with fail
 generalize hW:World.alloc w _=V0 at*
 obtain⟨gr,hgr⟩:=aB w.heap.size
 have HG:Hid (w.heap.size<=gr):=by show _<=_;omega
 rw[hgr]at Q0 ⊢
 clear hgr hW
 go_wp2_with fail
 refine(CC.out V0).mono ?_
 rintro e9 v9 ⟨rfl,hv9⟩
 have hv8:=hv9.symm
 subst hv8
 go_wp2_with fail
 refine(CB.out V0 A0.out).mono ?_
 rintro e9 v9 ⟨rfl,hv9⟩
 have hv8:=hv9.symm
 subst hv8
 go_wp2_with fail
 refine(CW.out V0).mono ?_
 rintro e9 v9 ⟨rfl,hv9⟩
 have hv8:=hv9.symm
 subst hv8
 go_wp2_with fail
 refine(NW.out V0 A0.out).mono ?_
 rintro e9 v2 ⟨rb,rfl,b2,g2⟩
 have A2:Hid (Ab w v2):=A0.out.trans b2
 have Q2:=hid (Ab.heap b2 Q0.out)
 have G2:=hid g2
 clear b2 g2 Q0 A0 CC CB CW NW
 go_wp2_with fail
 refine(FI.out v2 rb A2.out G2.out).mono ?_
 rintro e9 v3 ⟨bw,rfl,b3,l3,r3⟩
 have A3:Hid (Ab w v3):=A2.out.trans b3
 have Q3:=hid (Ab.heap b3 Q2.out)
 have G3:=hid (G2.out.to b3)
 have P3:=hid r3
 have LW:Hid (w.heap.size<=bw/\gr<bw):=by
  show _/\_
  have h1:=Below.size A2.out
  have h2:=Rv.bG Q2.out
  omega
 have CQ:=hid (QU.out v3 bw (fun i hi=>⟨GW.out i hi,bw,0,rfl,P3.out.lt,by have h:=P3.out.cell hi;rw[Nat.zero_add];exact h⟩))
 clear b3 l3 r3 A2 Q2 G2 FI QU
 go_wp2_with fail
 refine CQ.out.mono ?_
 rintro e9 v9 ⟨rfl,hv9⟩
 have hv8:=hv9.symm
 subst hv8
 have t0:=aE Q3.out
 have f0:=eA Q3.out
 go_wp2_with fail
 (try simp only[Exit.inBlock,Exit.then])
 refine bodyPost_ret (v:=.tuple #[.agg #[.slice none 0 0,.slice none 0 0,.slice none 0 0,.slice none 0 0,.int .i64 0,.int .i64 0],.int .i64 14]) ?_ rfl ?_
 ·exact cG results29 _ _ gr _ _ (0,0) _ _ rfl rfl (oD Q3.out) underlying29 rfl (by kernel_rfl)
 ·exact⟨rfl,(((((A3.out.setk HG.out _).setk HG.out _).setk HG.out _).setk HG.out _).setk HG.out _).setk HG.out _⟩
theorem lake_go(n N M:Nat)(qb ob cb l:Nat)(B:Nat->Nat)(G:Nat->Int)(qw:Int)(w:World)(hN:0<N/\N<=6144)(hM:M<=12288)(hqw:(qw != -1)=false)
  (CC:Hid (∀v,Calls prog 41 #[.int .i64 (n:Nat)] v fun e w'=>e=.returned (.int .i64 (N:Nat))/\w'=v))
  (CB:Hid (∀v,Ab w v->Calls prog 45 #[.slice (some ⟨qb,ob,none⟩) N cb,.float .f64 4697254411347427328] v fun e w'=>e=.returned (.int .i64 (-1))/\w'=v))
  (CW:Hid (∀v,Calls prog 93 #[.float .f64 l,.float .f64 13920626448202203136,.float .f64 4697254411347427328] v fun e w'=>e=.returned (.bool true)/\w'=v))
  (NW:Hid (∀v,Ab w v->Calls prog 13 #[.int .i64 (n:Nat)] v fun e w'=> ∃rb,e=.returned (.tuple #[.pointer (some ⟨rb,0,none⟩),.int .i64 0])/\Below v.heap.size v w'/\GridOf n rb w'))
  (FI:Hid (∀v rb,Ab w v->GridOf n rb v->Calls prog 94 #[.pointer (some ⟨rb,0,none⟩),.slice (some ⟨qb,ob,none⟩) N cb,.float .f64 l] v fun e w'=> ∃b,e=.returned (.slice (some ⟨b,0,none⟩) N N)/\Ab v w'/\v.heap.size<=b/\w'.rowIs b 2 N (fun i=>.int .i64 (G i))))
  (QU:Hid (∀v b,Sh.IsI v (some ⟨b,0,none⟩) N G->Calls prog 46 #[.slice (some ⟨b,0,none⟩) N N,.int .i64 4503599627370496] v fun e w'=>e=.returned (.int .i64 qw)/\w'=v))
  (GC:Hid (∀v rb,GridOf n rb v->Calls prog 28 #[.pointer (some ⟨rb,0,none⟩)] v fun e w'=>e=.returned (.int .i64 (N:Nat))/\w'=v))
  (GE':Hid (∀v rb,GridOf n rb v->Calls prog 32 #[.pointer (some ⟨rb,0,none⟩)] v fun e w'=>e=.returned (.int .i64 (M:Nat))/\w'=v))
  (GW:Hid (∀c,c<N->Sh.W64 (G c))) (IB:Hid (IsFl w (some ⟨qb,ob,none⟩) N B)):
  Calls prog 29 #[.int .i64 (n:Nat),.slice (some ⟨qb,ob,none⟩) N cb,.float .f64 l] w fun e w'=> ∃v,e=.returned (.tuple #[v,.int .i64 0])/\Below w.heap.size w w'/\OwnS w.heap.size v N N N M B G (fun _=>0) (fun _=>0) 0 0 w':=by
 have h0:((N:Int)==0)=false:=by simp;omega
 have h1:((N:Int) != (N:Int))=false:=by simp
 have M2: ∀v:World,(Instr.makeSlice 27 (.int .i64 (N:Nat)) (.int .i64 (N:Nat))).run prog v=.ok (.slice (some ⟨v.heap.size,0,none⟩) N N) (v.alloc (Obj.cells (madeCells #[.int .i64 0] N) 2)):=fun v=>run_make_row' (P:=prog) 27 2 (.int .i64 0) 8 underlying27 eD rfl .i64 .i64 N (by omega) (by omega) v
 have M4: ∀v:World,(Instr.makeSlice 26 (.int .i64 (M:Nat)) (.int .i64 (M:Nat))).run prog v=.ok (.slice (some ⟨v.heap.size,0,none⟩) M M) (v.alloc (Obj.cells (madeCells #[.float .f64 0] M) 22)):=fun v=>run_make_row' (P:=prog) 26 22 (.float .f64 0) 8 underlying26 H6 rfl .i64 .i64 M (by omega) (by omega) v
 have HN:=hid (And.intro hN hM)
 clear hN hM
 obtain⟨A0,Q0⟩:=aL w (.cells #[.slice none 0 0,.slice none 0 0,.slice none 0 0,.slice none 0 0,.int .i64 0,.int .i64 0] 29)
 go_enter func29,ntmps29
 go_upto_region 1 with fail
 generalize hW:World.alloc w _=V0 at*
 obtain⟨gr,hgr⟩:=aB w.heap.size
 have HG:Hid (w.heap.size<=gr):=by show _<=_;omega
 rw[hgr]at Q0 ⊢
 clear hgr hW
 go_wp2_with fail
 refine(CC.out V0).mono ?_
 rintro e9 v9 ⟨rfl,hv9⟩
 have hv8:=hv9.symm
 subst hv8
 go_wp2_with fail
 refine(CB.out V0 A0.out).mono ?_
 rintro e9 v9 ⟨rfl,hv9⟩
 have hv8:=hv9.symm
 subst hv8
 go_wp2_with fail
 refine(CW.out V0).mono ?_
 rintro e9 v9 ⟨rfl,hv9⟩
 have hv8:=hv9.symm
 subst hv8
 go_wp2_with fail
 refine(NW.out V0 A0.out).mono ?_
 rintro e9 v2 ⟨rb,rfl,b2,g2⟩
 have A2:Hid (Ab w v2):=A0.out.trans b2
 have Q2:=hid (Ab.heap b2 Q0.out)
 have G2:=hid g2
 clear b2 g2 Q0 A0 CC CB CW NW
 go_wp2_with fail
 refine(FI.out v2 rb A2.out G2.out).mono ?_
 rintro e9 v3 ⟨bw,rfl,b3,l3,r3⟩
 have A3:Hid (Ab w v3):=A2.out.trans b3
 have Q3:=hid (Ab.heap b3 Q2.out)
 have G3:=hid (G2.out.to b3)
 have P3:=hid r3
 have LW:Hid (w.heap.size<=bw/\gr<bw):=by
  show _/\_
  have h1:=Below.size A2.out
  have h2:=Rv.bG Q2.out
  omega
 have CQ:=hid (QU.out v3 bw (fun i hi=>⟨GW.out i hi,bw,0,rfl,P3.out.lt,by have h:=P3.out.cell hi;rw[Nat.zero_add];exact h⟩))
 clear b3 l3 r3 A2 Q2 G2 FI QU
 go_wp2_with fail
 refine CQ.out.mono ?_
 rintro e9 v9 ⟨rfl,hv9⟩
 have hv8:=hv9.symm
 subst hv8
 go_upto_region 14 with fail
 obtain⟨UU,E,hF1,hF2⟩:=cls v3.drew
 have HU:=hid hF2
 have HU1:=hid hF1
 have C1:Hid (∀v,Ab v3.drew v->Calls prog 57 #[.slice (some ⟨qb,ob,none⟩) N cb] v (fun e w2=> ∃x,e=.returned (mkS N x)/\Ab v w2/\(∀b,x.1=some b->v.heap.size<=b/\b<w2.heap.size)/\(fun x w'=>OwnG w.heap.size (mkS N x) ((List.range N).map B) w') x w2)):=fun v a=>cloneF _ N cb B w.heap.size v (by have:=HN.out;omega) (IB.out.below (A3.out.trans ((Ab.refl v3).drew.trans a))) (A3.out.trans ((Ab.refl v3).drew.trans a)).size
 have C4:Hid (∀v,Ab v3.drew v->Calls prog 28 #[.pointer (some ⟨rb,0,none⟩)] v (fun e w2=> ∃x:Cg.Ix,e=.returned ((fun _=>.int .i64 (N:Nat)) x)/\Ab v w2/\(∀b,x.1=some b->v.heap.size<=b/\b<w2.heap.size)/\(fun _ _=>True) x w2)):=fun v a=>(GC.out v rb (G3.out.to ((Ab.refl v3).drew.trans a))).mono fun e w2 h=>⟨(none,0),h.1,by rw[h.2];exact Ab.refl v,fun b q=>(by cases q),trivial⟩
 have C7:Hid (∀v,Ab v3.drew v->Calls prog 32 #[.pointer (some ⟨rb,0,none⟩)] v (fun e w2=> ∃x:Cg.Ix,e=.returned ((fun _=>.int .i64 (M:Nat)) x)/\Ab v w2/\(∀b,x.1=some b->v.heap.size<=b/\b<w2.heap.size)/\(fun _ _=>True) x w2)):=fun v a=>(GE'.out v rb (G3.out.to ((Ab.refl v3).drew.trans a))).mono fun e w2 h=>⟨(none,0),h.1,by rw[h.2];exact Ab.refl v,fun b q=>(by cases q),trivial⟩
 have HM3:Hid (∀v,Ab v3.drew v->w.heap.size<=v.heap.size):=fun v a=>(A3.out.trans ((Ab.refl v3).drew.trans a)).size
 clear hF1 hF2
 have STB:Cg.Stable (fun k=>if k=1 then some ((fun x w'=>OwnG w.heap.size (mkS N x) ((List.range N).map B) w'),mkS N)else if k=4 then some ((fun _ _=>True),(fun _=>.int .i64 (N:Nat)))else if k=5 then some ((fun x w'=>Sh.Own w.heap.size (mkS N x) ((List.range N).map (fun _=>0)) w'),mkS N)else if k=7 then some ((fun _ _=>True),(fun _=>.int .i64 (M:Nat)))else if k=8 then some ((fun x w'=>OwnG w.heap.size (mkS M x) ((List.range M).map (fun _=>0)) w'),mkS M)else none):=fun i R mk h x v v' hr ha=>by
  by_cases q1:i=1
  ·subst q1
   simp only[if_true,Option.some.injEq,Prod.mk.injEq]at h
   obtain⟨h1,h2⟩:=h
   subst h1 h2
   exact OwnG.to hr ha
  ·by_cases q4:i=4
   ·subst q4
    simp only[if_true,if_neg (show¬(4:Nat)=1 by decide),Option.some.injEq,Prod.mk.injEq]at h
    obtain⟨h1,h2⟩:=h
    subst h1 h2
    trivial
   ·by_cases q5:i=5
    ·subst q5
     simp only[if_true,if_neg (show¬(5:Nat)=1 by decide),if_neg (show¬(5:Nat)=4 by decide),Option.some.injEq,Prod.mk.injEq]at h
     obtain⟨h1,h2⟩:=h
     subst h1 h2
     exact Sh.Own.to hr ha
    ·by_cases q7:i=7
     ·subst q7
      simp only[if_true,if_neg (show¬(7:Nat)=1 by decide),if_neg (show¬(7:Nat)=4 by decide),if_neg (show¬(7:Nat)=5 by decide),Option.some.injEq,Prod.mk.injEq]at h
      obtain⟨h1,h2⟩:=h
      subst h1 h2
      trivial
     ·by_cases q8:i=8
      ·subst q8
       simp only[if_true,if_neg (show¬(8:Nat)=1 by decide),if_neg (show¬(8:Nat)=4 by decide),if_neg (show¬(8:Nat)=5 by decide),if_neg (show¬(8:Nat)=7 by decide),Option.some.injEq,Prod.mk.injEq]at h
       obtain⟨h1,h2⟩:=h
       subst h1 h2
       exact OwnG.to hr ha
      ·simp only[if_neg q1,if_neg q4,if_neg q5,if_neg q7,if_neg q8]at h
       cases h
 refine Cg.jC 9 (fun k=>if k=1 then some ((fun x w'=>OwnG w.heap.size (mkS N x) ((List.range N).map B) w'),mkS N)else if k=4 then some ((fun _ _=>True),(fun _=>.int .i64 (N:Nat)))else if k=5 then some ((fun x w'=>Sh.Own w.heap.size (mkS N x) ((List.range N).map (fun _=>0)) w'),mkS N)else if k=7 then some ((fun _ _=>True),(fun _=>.int .i64 (M:Nat)))else if k=8 then some ((fun x w'=>OwnG w.heap.size (mkS M x) ((List.range M).map (fun _=>0)) w'),mkS M)else none) STB (by kernel_rfl) (by kernel_rfl) (by kernel_rfl) ?_
 simp only[List.take_succ_cons,List.take_zero]
 refine Cg.cM HU (by rfl) (by rfl) ?_
 go_big_quiet_step (with_reducible rfl)
 refine wpQuiet_nil ?_
 refine Cg.cO (ob:=(fun x w'=>OwnG w.heap.size (mkS N x) ((List.range N).map B) w')) (mk:=mkS N) (by rfl) (by kernel_rfl) ?_ ?_
 ·refine Cg.oO (f:=57) (args:= #[.slice (some ⟨qb,ob,none⟩) N cb]) ?_ C1.out
  intro v
  refine mF (x:=.tmp 47) (ats:= #[26]) (by rfl) (by rfl) func57 (by kernel_rfl) (by kernel_rfl) v
 intro x1 fx1
 simp only[Act.put,List.setIfInBounds_toArray,List.set_cons_succ,List.set_cons_zero]
 refine Cg.cM HU (by rfl) (by rfl) ?_
 go_big_quiet_step (with_reducible rfl)
 refine wpQuiet_nil ?_
 refine Cg.cM HU (by rfl) (by rfl) ?_
 go_big_quiet_step (with_reducible rfl)
 refine wpQuiet_nil ?_
 refine Cg.cO (ob:=(fun _ _=>True)) (mk:=(fun _=>.int .i64 (N:Nat))) (by rfl) (by kernel_rfl) ?_ ?_
 ·refine Cg.oO (f:=28) (args:= #[.pointer (some ⟨rb,0,none⟩)]) ?_ C4.out
  intro v
  refine mF (x:=.tmp 50) (ats:= #[31]) (by rfl) (by rfl) func28 (by kernel_rfl) (by kernel_rfl) v
 intro x4 fx4
 simp only[Act.put,List.setIfInBounds_toArray,List.set_cons_succ,List.set_cons_zero]
 refine Cg.cO (ob:=(fun x w'=>Sh.Own w.heap.size (mkS N x) ((List.range N).map (fun _=>0)) w')) (mk:=mkS N) (by rfl) (by kernel_rfl) ?_ ?_
 ·refine Cg.iA (O:=(Obj.cells (madeCells #[.int .i64 0] N) 2)) (c:=N) (fun v _=>Cg.run_make (x:=.tmp 51) (y:=.tmp 51) (vx:=.int .i64 (N:Nat)) (vy:=.int .i64 (N:Nat)) rfl rfl rfl (M2 v)) (fun v a=>AO (dT (heap_alloc_new _ _)) (HM3.out v a) (by have:=HN.out;unfold maxLen;omega))
 intro x5 fx5
 simp only[Act.put,List.setIfInBounds_toArray,List.set_cons_succ,List.set_cons_zero]
 refine Cg.cM HU (by rfl) (by rfl) ?_
 go_big_quiet_step (with_reducible rfl)
 refine wpQuiet_nil ?_
 refine Cg.cO (ob:=(fun _ _=>True)) (mk:=(fun _=>.int .i64 (M:Nat))) (by rfl) (by kernel_rfl) ?_ ?_
 ·refine Cg.oO (f:=32) (args:= #[.pointer (some ⟨rb,0,none⟩)]) ?_ C7.out
  intro v
  refine mF (x:=.tmp 53) (ats:= #[31]) (by rfl) (by rfl) func32 (by kernel_rfl) (by kernel_rfl) v
 intro x7 fx7
 simp only[Act.put,List.setIfInBounds_toArray,List.set_cons_succ,List.set_cons_zero]
 refine Cg.cO (ob:=(fun x w'=>OwnG w.heap.size (mkS M x) ((List.range M).map (fun _=>0)) w')) (mk:=mkS M) (by rfl) (by kernel_rfl) ?_ ?_
 ·refine Cg.iA (O:=(Obj.cells (madeCells #[.float .f64 0] M) 22)) (c:=M) (fun v _=>Cg.run_make (x:=.tmp 54) (y:=.tmp 54) (vx:=.int .i64 (M:Nat)) (vy:=.int .i64 (M:Nat)) rfl rfl rfl (M4 v)) (fun v a=>ownG_row (dT (heap_alloc_new _ _)) (HM3.out v a) (by have:=HN.out;unfold maxLen;omega))
 intro x8 fx8
 simp only[Act.put,List.setIfInBounds_toArray,List.set_cons_succ,List.set_cons_zero]
 refine Cg.kO ?_
 intro wz hz
 have h1:=hz.at (i:=1) (x:=x1) (R:=(fun x w'=>OwnG w.heap.size (mkS N x) ((List.range N).map B) w')) (mk:=mkS N) (by rfl) (by rfl)
 have h5:=hz.at (i:=5) (x:=x5) (R:=(fun x w'=>Sh.Own w.heap.size (mkS N x) ((List.range N).map (fun _=>0)) w')) (mk:=mkS N) (by rfl) (by rfl)
 have h8:=hz.at (i:=8) (x:=x8) (R:=(fun x w'=>OwnG w.heap.size (mkS M x) ((List.range M).map (fun _=>0)) w')) (mk:=mkS M) (by rfl) (by rfl)
 have n14:Dj (mkS N x1) (mkS M x8):=fun b q r=>by
  rw[oQ]at q r
  exact(fx8 b r).2 1 x1 (by rfl) q
 have n23:Dj (.slice (some ⟨bw,0,none⟩) N N) (mkS N x5):=fun b q r=>by
  rw[oQ]at r
  have q2:bw=b:=Option.some.inj q
  have h1:v3.heap.size<=b:=(h5.2 b r).1
  have h2:=P3.out.lt
  omega
 have AZ:Hid (Ab v3 wz):=(Ab.refl v3).drew.trans hz.1
 have G1:Hid (gr<v3.heap.size):=Rv.bG Q3.out
 have far: ∀(n:Nat) (x:Cg.Ix),(∀b,x.1=some b->v3.drew.heap.size<=b/\b<wz.heap.size)->(mkS n x).ownBlock≠some gr:=fun n x h q=>by
  rw[oQ]at q
  have h1:v3.heap.size<=gr:=(h gr q).1
  have h2:=G1.out
  omega
 have O1:Hid (OwnG w.heap.size (mkS N x1) ((List.range N).map B) wz/\(mkS N x1).ownBlock≠some gr):=⟨h1.1,far _ _ h1.2⟩
 have O3:Hid (Sh.Own w.heap.size (mkS N x5) ((List.range N).map (fun _=>0)) wz/\(mkS N x5).ownBlock≠some gr):=⟨h5.1,far _ _ h5.2⟩
 have O4:Hid (OwnG w.heap.size (mkS M x8) ((List.range M).map (fun _=>0)) wz/\(mkS M x8).ownBlock≠some gr):=⟨h8.1,far _ _ h8.2⟩
 have O2:Hid (Sh.Own w.heap.size (.slice (some ⟨bw,0,none⟩) N N) ((List.range N).map G) wz/\(Value.slice (some ⟨bw,0,none⟩) N N).ownBlock≠some gr):=⟨AO (rowIs.ab P3.out AZ.out) LW.out.1 (by have:=HN.out;unfold maxLen;omega),fun q=>by have q2:bw=gr:=Option.some.inj q;have:=LW.out.2;omega⟩
 have NN:=hid (And.intro n14 n23)
 have RZ:=hid (AZ.out.heap Q3.out)
 obtain⟨p1,m1,c1,q1⟩:=yM N x1
 obtain⟨p3,m3,c3,q3⟩:=yM N x5
 obtain⟨p4,m4,c4,q4⟩:=yM M x8
 rw[q1]at O1 NN ⊢
 rw[q3]at O3 NN ⊢
 rw[q4]at O4 NN ⊢
 clear hz fx1 fx4 fx5 fx7 fx8 h1 h5 h8 n14 n23 HU HU1 C1 C4 C7 STB q1 q3 q4 far HM3 M2 M4
 clear E UU
 have t0:=aE RZ.out
 have f0:=eA RZ.out
 simp only[List.drop_succ_cons,List.drop_zero]
 go_wp2_with fail
 have RY:=hid (oD (x:=.slice p1 m1 c1) (y:=.slice (some ⟨bw,0,none⟩) N N) (z:=.slice p3 m3 c3) (p:=.slice p4 m4 c4) (q:=.int .i64 0) (r:=.int .i64 0) RZ.out)
 (try simp only[Exit.inBlock,Exit.then])
 refine bodyPost_ret (v:=.tuple #[.agg #[.slice p1 m1 c1,.slice (some ⟨bw,0,none⟩) N N,.slice p3 m3 c3,.slice p4 m4 c4,.int .i64 0,.int .i64 0],.int .i64 0]) ?_ rfl ?_
 ·exact cG results29 _ _ gr _ _ (0,0) _ _ rfl rfl RY.out underlying29 rfl (by kernel_rfl)
 have hg:=HG.out
 refine⟨_,rfl,(((((((A3.out.trans AZ.out).setk hg _).setk hg _).setk hg _).setk hg _).setk hg _).setk hg _),_,_,_,_,rfl,?_,?_,?_,?_,NN.out.1,NN.out.2⟩
 ·exact dV O1.out.1 O1.out.2 _ _ _ _ _ _
 ·exact dV O2.out.1 O2.out.2 _ _ _ _ _ _
 ·exact dV O3.out.1 O3.out.2 _ _ _ _ _ _
 ·exact dV O4.out.1 O4.out.2 _ _ _ _ _ _
theorem lake_at(side:Int)(pb:Option Addr)(lb cb:Nat)(B:Nat->Nat)(l:Nat)(w:World)(hF:Fr w)(hl:l<18446744073709551616)(i1:IsFl w pb lb B):
  (lkE side lb B l=0->Calls prog 29 #[.int .i64 side,.slice pb lb cb,.float .f64 l] w fun e w'=> ∃v,e=.returned (.tuple #[v,.int .i64 0])/\Below w.heap.size w w'/\OwnS w.heap.size v lb lb lb (2*lb) B (lkW side.toNat B l) (fun _=>0) (fun _=>0) 0 0 w')/\
  (lkE side lb B l≠0->Calls prog 29 #[.int .i64 side,.slice pb lb cb,.float .f64 l] w fun e w'=>e=.returned (.tuple #[.agg #[.slice none 0 0,.slice none 0 0,.slice none 0 0,.slice none 0 0,.int .i64 0,.int .i64 0],.int .i64 (lkE side lb B l)])/\Below w.heap.size w w'):=by
 have CC:=fun v=>jK side v
 by_cases hs:1<=side/\side<=32
 ·obtain⟨n,rfl⟩: ∃n:Nat,side=(n:Nat):=⟨side.toNat,by omega⟩
  have hn:1<=n/\n<=32:=by omega
  rw[nL (n:=n) (by omega)]at CC
  have tn:(n:Int).toNat=n:=Int.toNat_natCast n
  have p1:0<n*n:=Nat.mul_pos (by omega) (by omega)
  have p2:n*n<=32*32:=Nat.mul_le_mul hn.2 hn.2
  have q6:6*n*n=6*(n*n):=Nat.mul_assoc _ _ _
  have q12:12*n*n=12*(n*n):=Nat.mul_assoc _ _ _
  have z0:((((6*n*n:Nat):Int))==0)=false:=by
   have:((6*n*n:Nat):Int)≠0:=by omega
   simpa using this
  by_cases e1:lb=6*n*n
  ·have CB:=fun v (a:Ab w v)=>qH pb lb cb B 4697254411347427328 13920626448202203136 (bB B) v (by decide+kernel) (by omega) (by omega) (i1.below a) (fun i _=>bed_fp i)
   have g1:=(vU (bB B) lb).1
   have z1:((lb:Int) != ((6*n*n:Nat):Int))=false:=by rw[e1];simp
   by_cases f2:0<=fp (bB B) lb
   ·have le:lkE n lb B l=13:=by
     unfold lkE
     rw[if_neg (fun q=>q hs),tn,if_neg (fun q=>q e1),if_pos f2]
    refine⟨fun q=>absurd (le.symm.trans q) (by decide),fun _=> ?_⟩
    rw[le]
    exact lake_13 n pb lb cb l _ _ w z0 z1 (wF f2) CC CB
   ·have k2:=wG f2 g1
    have CW:=fun v=>qG l 13920626448202203136 4697254411347427328 _ v rfl
    cases hw:((fgt l 13920626448202203136||feq l 13920626448202203136)&&(flt l 4697254411347427328||feq l 4697254411347427328))with
    | false=>
     have le:lkE n lb B l=1:=by
      unfold lkE
      rw[if_neg (fun q=>q hs),tn,if_neg (fun q=>q e1),if_neg f2,if_pos hw]
     rw[hw]at CW
     refine⟨fun q=>absurd (le.symm.trans q) (by decide),fun _=> ?_⟩
     rw[le]
     exact lake_1 n pb lb cb l _ _ w z0 z1 k2 CC CB CW
    | true=>
     rw[hw]at CW
     have fe:fp (bB B) lb= -1:=by omega
     rw[fe]at CB
     have N0:0<lb:=by omega
     obtain⟨qb,ob,rfl⟩:=i1.some0 N0
     have NW: ∀v,Ab w v->Calls prog 13 #[.int .i64 (n:Nat)] v fun e w'=> ∃rb,e=.returned (.tuple #[.pointer (some ⟨rb,0,none⟩),.int .i64 0])/\Below v.heap.size v w'/\GridOf n rb w':=fun v a=>(Cz n v hn (hF.to a)).mono fun e w' h=>by
      obtain⟨gb,rfl,a1,-,g⟩:=h
      exact⟨gb,rfl,a1,g⟩
     have FI:=fun v rb (a:Ab w v) (g:GridOf n rb v)=>H7 rb lb qb ob cb l B (arC n) (lkW n B l) v (by omega)
      (fun u c a2 hc=>eZ hn (by rw[<- e1];exact hc) (g.to a2))
      (fun u c hc=>by
       obtain hf:=fill_at (B c) (arC n c) l u (i1 c hc).1 hl (cQ n c).2
       refine hf.mono fun e w' h=> ?_
       obtain⟨h1,k,h2⟩:=h
       exact⟨h1,by rw[h2];exact(Ab.refl u).drewN k⟩)
      (i1.below a)
     have QU:=fun v b (h:Sh.IsI v (some ⟨b,0,none⟩) lb (lkW n B l))=>yN (some ⟨b,0,none⟩) lb lb (lkW n B l) 0 4503599627370496 v (by omega) h (by omega) (by omega)
     have g2:=(vU (bQ (lkW n B l) 0) lb).1
     have GW: ∀c,c<lb->Sh.W64 (lkW n B l c):=fun c hc=>by
      have h:=fil_in hl (i1 c hc).1 (cQ n c).2
      unfold Sh.W64 lkW
      omega
     have GC:=fun v rb (g:GridOf n rb v)=>eB g
     have GE1:=fun v rb (g:GridOf n rb v)=>cJ g
     have e12:12*n*n=2*lb:=by omega
     rw[<- e1]at GC CC
     rw[e12]at GE1
     by_cases f3:0<=fp (bQ (lkW n B l) 0) lb
     ·have le:lkE n lb B l=14:=by
       unfold lkE
       rw[if_neg (fun q=>q hs),tn,if_neg (fun q=>q e1),if_neg f2,if_neg (by rw[hw];decide),if_pos f3]
      refine⟨fun q=>absurd (le.symm.trans q) (by decide),fun _=> ?_⟩
      rw[le]
      exact lake_14 n lb (2*lb) qb ob cb l (lkW n B l) _ w (by omega) (by omega) (wF f3) CC CB CW NW FI QU GW
     ·have le:lkE n lb B l=0:=by
       unfold lkE
       rw[if_neg (fun q=>q hs),tn,if_neg (fun q=>q e1),if_neg f2,if_neg (by rw[hw];decide),if_neg f3]
      refine⟨fun _=> ?_,fun q=>absurd le q⟩
      rw[tn]
      exact lake_go n lb (2*lb) qb ob cb l B (lkW n B l) _ w (by omega) (by omega) (wG f3 g2) CC CB CW NW FI QU GC GE1 GW i1
  ·have le:lkE n lb B l=12:=by
    unfold lkE
    rw[if_neg (fun q=>q hs),tn,if_pos e1]
   refine⟨fun q=>absurd (le.symm.trans q) (by decide),fun _=> ?_⟩
   rw[le]
   exact lake_12 n pb lb cb l _ w z0 (bne_iff_ne.2 (by omega)) CC
 ·have le:lkE side lb B l=10:=by
   unfold lkE
   rw[if_pos hs]
  refine⟨fun q=>absurd (le.symm.trans q) (by decide),fun _=> ?_⟩
  rw[le]
  exact lake_10 side pb lb cb l _ w (by unfold clN;rw[if_neg hs];rfl) CC
theorem lakeC:LakeC:=fun side pb lb cb B l w hF _ _ hl i1=>lake_at side pb lb cb B l w hF hl i1
end Ss
end
section
open Go.ChangeShapes Go.WideShapes Go.ChangeAt Go.WideMaps Go.WideElems Go.RowKit Go.Deep
namespace Sh
theorem trod_int{H:Type}{enc:TypeId × Value->H}{P:Program}{w:World}{base:Nat}{spare:Nat->Bool}{held:Bool}{t:TypeId}{fuel:Nat}{v:Value}{x:DataW H × List MemPlace}(ht:P.underlying t=some (.int .i64))(h:DataW.trod enc P w base spare held fuel t [v]=some x):
  ∃b,v=.int .i64 b/\(-9223372036854775808<=b/\b<=9223372036854775807):=by
 obtain⟨k,e,_,wf⟩:=DataW.trod_int ht h
 simp at e
 simp only[Lit.wf,Bool.and_eq_true,decide_eq_true_eq]at wf
 have q1:IntKind.i64.min= -9223372036854775808:=by decide
 have q2:IntKind.i64.max=9223372036854775807:=by decide
 rw[q1,q2]at wf
 exact⟨k,e,wf⟩
theorem uD{w:World}{a:Addr}{v:Value}(h:w.cell? a=some v):a.block<w.heap.size:=by
 by_cases c:a.block<w.heap.size
 ·exact c
 ·exfalso
  have:w.heap[a.block]? =none:=by simp;omega
  simp[World.cell?,this]at h
theorem rO{α:Type}{n:Nat}{R:Nat->α->Prop}(d:α)(h: ∀i,i<n-> ∃x,R i x): ∃f:Nat->α,∀i,i<n->R i (f i):=by
 have: ∀i,∃x,i<n->R i x:=fun i=>by
  by_cases c:i<n
  ·obtain⟨x,h1⟩:=h i c
   exact⟨x,fun _=>h1⟩
  ·exact⟨d,fun h=>absurd h c⟩
 exact⟨fun i=>(this i).choose,fun i hi=>(this i).choose_spec hi⟩
theorem wH{H:Type}{enc:TypeId × Value->H}{W:World}{cs:List Value}{fuel:Nat}{x:DataW H × List MemPlace}
  (hf:DataW.trod enc prog W 0 (fun _=>true) true fuel 27 cs=some x): ∃a0 len cap xs,cs=[.slice a0 len cap]/\IsI W a0 len xs/\len<=cap/\cap<=maxLen:=by
 rcases open_slice1 underlying27 (by kernel_rfl) hf with⟨hcs,_⟩ | ⟨a,l,c,m,n,V,D,Pl,hcs,_,hl,hm,hmm,_,hx⟩
 ·exact⟨none,0,0,fun _=>0,hcs,fun k hk=>by omega,Nat.le_refl _,Nat.zero_le _⟩
 ·simp only[if_true]at hmm
  have each: ∀i,i<l-> ∃x:Int,W.cell? (a.add i)=some (.int .i64 x)/\(-9223372036854775808<=x/\x<=9223372036854775807):=by
   intro i hi
   obtain⟨h1,h2⟩:=hx i (by omega)
   obtain⟨x,e,wx⟩:=trod_int underlying2 h2
   rw[e]at h1
   exact⟨x,h1,wx⟩
  obtain⟨f,hf⟩:=rO 0 each
  refine⟨some a,l,c,f,hcs,fun k hk=>⟨(hf k hk).2,?_⟩,hl,hm⟩
  have h0:=(hf k hk).1
  have z:=(hf 0 (by omega)).1
  obtain⟨b,off,spot⟩:=a
  have hspot:spot=none:=by simpa [Addr.add]using World.cell?_spot z
  subst hspot
  rw[mD]at h0
  exact⟨b,off,rfl,uD h0,h0⟩
end Sh
end
end Go.Proofs.YtaphajlpbgcfjaaGreatDoor
