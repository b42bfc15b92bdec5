/-
  Some of the texts of this proof, one behind the other.
-/
import Derived.Deep.QuietTactic
import Derived.ProofKit
import Derived.OpenShut
import Derived.WalkLawsBesides
import Derived.Stop.Joined
import Derived.Carry
import Derived.Lib.SmallJoins
import Derived.Deep.SlicePairs
import Derived.Deep.Slices
import Derived.SizedLaws
import Derived.Test.YtjheiemgfibgpaaDoorTie
import Derived.Test.YtjheiemgfibgpaaDoorCards
import Derived.LaidMore
import Derived.Test.YtjheiemgfibgpaaDoorUf12
set_option maxRecDepth 100000
set_option maxHeartbeats 400000000
namespace Go.Proofs.YtjheiemgfibgpaaDoor
open _root_.Go.Proofs.Tryd
section
open Go.RowKit Tf Cu Go.Deep
attribute [local go_sem] aE
namespace Spl
theorem local_go(gb N M:Nat)(pc:Option Addr)(lc cc:Nat)(pe:Option Addr)(le ce:Nat)(ph:Option Addr)(lh ch:Nat)(C E H:Nat->Int)(qb ob cb qw ow cw qt ot ct qs os cs:Nat)(B:Nat->Nat)(Wt T:Nat->Int)(S:Nat->Nat)(sky st:Int)(w:World)
  (HN:Hid ((0<N/\N<=12288)/\(0<M/\M<=12288))) (HL:Hid (lc<=281474976710656/\le<=281474976710656/\lh<=281474976710656))
  (CF:Hid (∀v,Ab w v->Calls prog 37 #[.pointer (some ⟨gb,0,none⟩),.agg #[.slice (some ⟨qb,ob,none⟩) N cb,.slice (some ⟨qw,ow,none⟩) N cw,.slice (some ⟨qt,ot,none⟩) N ct,.slice (some ⟨qs,os,none⟩) M cs,.int .i64 sky,.int .i64 st]] v fun e w'=>e=.returned (.bool true)/\Below v.heap.size v w'))
  (CC:Hid (∀v,Ab w v->Calls prog 9 #[.pointer (some ⟨gb,0,none⟩)] v fun e w'=>e=.returned (.int .i64 (N:Nat))/\Below v.heap.size v w'))
  (CE:Hid (∀v,Ab w v->Calls prog 32 #[.pointer (some ⟨gb,0,none⟩)] v fun e w'=>e=.returned (.int .i64 (M:Nat))/\Below v.heap.size v w'))
  (C1:Hid (∀v,Ab w v->Calls prog 38 #[.slice pc lc cc,.int .i64 (N:Nat)] v fun e w'=>e=.returned (.bool true)/\Below v.heap.size v w'))
  (C2:Hid (∀v,Ab w v->Calls prog 38 #[.slice ph lh ch,.int .i64 (N:Nat)] v fun e w'=>e=.returned (.bool true)/\Below v.heap.size v w'))
  (C3:Hid (∀v,Ab w v->Calls prog 38 #[.slice pe le ce,.int .i64 (M:Nat)] v fun e w'=>e=.returned (.bool true)/\Below v.heap.size v w'))
  (IC:Hid (Sh.IsI w pc lc C)) (IE:Hid (Sh.IsI w pe le E)) (IH:Hid (Sh.IsI w ph lh H)) (WC:Hid (wi lc C N)) (WE:Hid (wi le E M)) (WH:Hid (wi lh H N))
  (I4:Hid (IsFl w (some ⟨qb,ob,none⟩) N B)) (I5:Hid (Sh.IsI w (some ⟨qw,ow,none⟩) N Wt)) (I6:Hid (Sh.IsI w (some ⟨qt,ot,none⟩) N T)) (I7:Hid (IsFl w (some ⟨qs,os,none⟩) M S)):
  Calls prog 13 #[.pointer (some ⟨gb,0,none⟩),.agg #[.slice pc lc cc,.slice pe le ce,.slice ph lh ch],.agg #[.slice (some ⟨qb,ob,none⟩) N cb,.slice (some ⟨qw,ow,none⟩) N cw,.slice (some ⟨qt,ot,none⟩) N ct,.slice (some ⟨qs,os,none⟩) M cs,.int .i64 sky,.int .i64 st]] w fun e w'=> ∃v,e=.returned (.tuple #[v,.int .i64 0])/\Below w.heap.size w w'/\OwnS w.heap.size v N N N M (shB (mk2 lc lh C H) B) (shW (mk2 lc lh C H) Wt) (shW (mk2 lc lh C H) T) (shB (hs le E) S) 0 st w':=by
 have C4:Hid (∀v x,Ab w v->(fun(x:Ch.Ix) (w':World)=> ∃b,x=(some b,2)/\w'.heap[b]? =some (.cells #[.slice pc lc cc,.slice ph lh ch] 32)) x v->Calls prog 39 #[.slice (some ⟨qb,ob,none⟩) N cb,mkS 2 x] v (fun e w2=> ∃y,e=.returned (mkS N y)/\Ab v w2/\(∀b,y.1=some b->v.heap.size<=b/\b<w2.heap.size)/\(fun(x:Ch.Ix) (w':World)=> ∃b,x=(some b,N)/\w.heap.size<=b/\w'.rowIs b 45 N (fun i=>.float .f64 (shB (mk2 lc lh C H) B i))) y w2)):=by
  rintro v x av ⟨b,rfl,hb⟩
  refine(oM b 2 N qb ob cb (fun j=>if j=0 then pc else ph) (fun j=>if j=0 then lc else lh) (fun j=>if j=0 then cc else ch) (fun j=>if j=0 then C else H) B v HN.out.1 (by decide) (hid (fun j hj=> ?_)) (hid (I4.out.below av))).mono ?_
  ·match j,hj with
   | 0,_=>exact⟨HL.out.1,aA 0 hb,lt_of_block hb,IC.out.below av,WC.out⟩
   | 1,_=>exact⟨HL.out.2.2,aA 1 hb,lt_of_block hb,IH.out.below av,WH.out⟩
  ·rintro e w2 ⟨y,rfl,a2,l2,r2⟩
   refine⟨(some y,N),rfl,a2,fun b e=>by injection e with e;subst e;exact⟨l2,r2.lt⟩,y,rfl,Nat.le_trans av.size l2,r2.congr (fun i _=> ?_)⟩
   unfold shB mk2 hsF
   simp[List.range_succ]
 have C5:Hid (∀v x,Ab w v->(fun(x:Ch.Ix) (w':World)=> ∃b,x=(some b,2)/\w'.heap[b]? =some (.cells #[.slice pc lc cc,.slice ph lh ch] 32)) x v->Calls prog 40 #[.slice (some ⟨qw,ow,none⟩) N cw,mkS 2 x] v (fun e w2=> ∃y,e=.returned (mkS N y)/\Ab v w2/\(∀b,y.1=some b->v.heap.size<=b/\b<w2.heap.size)/\(fun(x:Ch.Ix) (w':World)=> ∃b,x=(some b,N)/\w.heap.size<=b/\w'.rowIs b 2 N (fun i=>.int .i64 (shW (mk2 lc lh C H) Wt i))) y w2)):=by
  rintro v x av ⟨b,rfl,hb⟩
  refine(oO b 2 N qw ow cw (fun j=>if j=0 then pc else ph) (fun j=>if j=0 then lc else lh) (fun j=>if j=0 then cc else ch) (fun j=>if j=0 then C else H) Wt v HN.out.1 (by decide) (hid (fun j hj=> ?_)) (hid (I5.out.below av))).mono ?_
  ·match j,hj with
   | 0,_=>exact⟨HL.out.1,aA 0 hb,lt_of_block hb,IC.out.below av,WC.out⟩
   | 1,_=>exact⟨HL.out.2.2,aA 1 hb,lt_of_block hb,IH.out.below av,WH.out⟩
  ·rintro e w2 ⟨y,rfl,a2,l2,r2⟩
   refine⟨(some y,N),rfl,a2,fun b e=>by injection e with e;subst e;exact⟨l2,r2.lt⟩,y,rfl,Nat.le_trans av.size l2,r2.congr (fun i _=> ?_)⟩
   unfold shW mk2 hsF
   simp[List.range_succ]
 have C6:Hid (∀v x,Ab w v->(fun(x:Ch.Ix) (w':World)=> ∃b,x=(some b,2)/\w'.heap[b]? =some (.cells #[.slice pc lc cc,.slice ph lh ch] 32)) x v->Calls prog 40 #[.slice (some ⟨qt,ot,none⟩) N ct,mkS 2 x] v (fun e w2=> ∃y,e=.returned (mkS N y)/\Ab v w2/\(∀b,y.1=some b->v.heap.size<=b/\b<w2.heap.size)/\(fun(x:Ch.Ix) (w':World)=> ∃b,x=(some b,N)/\w.heap.size<=b/\w'.rowIs b 2 N (fun i=>.int .i64 (shW (mk2 lc lh C H) T i))) y w2)):=by
  rintro v x av ⟨b,rfl,hb⟩
  refine(oO b 2 N qt ot ct (fun j=>if j=0 then pc else ph) (fun j=>if j=0 then lc else lh) (fun j=>if j=0 then cc else ch) (fun j=>if j=0 then C else H) T v HN.out.1 (by decide) (hid (fun j hj=> ?_)) (hid (I6.out.below av))).mono ?_
  ·match j,hj with
   | 0,_=>exact⟨HL.out.1,aA 0 hb,lt_of_block hb,IC.out.below av,WC.out⟩
   | 1,_=>exact⟨HL.out.2.2,aA 1 hb,lt_of_block hb,IH.out.below av,WH.out⟩
  ·rintro e w2 ⟨y,rfl,a2,l2,r2⟩
   refine⟨(some y,N),rfl,a2,fun b e=>by injection e with e;subst e;exact⟨l2,r2.lt⟩,y,rfl,Nat.le_trans av.size l2,r2.congr (fun i _=> ?_)⟩
   unfold shW mk2 hsF
   simp[List.range_succ]
 have C7:Hid (∀v x,Ab w v->(fun(x:Ch.Ix) (w':World)=> ∃b,x=(some b,1)/\w'.heap[b]? =some (.cells #[.slice pe le ce] 32)) x v->Calls prog 39 #[.slice (some ⟨qs,os,none⟩) M cs,mkS 1 x] v (fun e w2=> ∃y,e=.returned (mkS M y)/\Ab v w2/\(∀b,y.1=some b->v.heap.size<=b/\b<w2.heap.size)/\(fun(x:Ch.Ix) (w':World)=> ∃b,x=(some b,M)/\w.heap.size<=b/\w'.rowIs b 45 M (fun i=>.float .f64 (shB (hs le E) S i))) y w2)):=by
  rintro v x av ⟨b,rfl,hb⟩
  refine(oM b 1 M qs os cs (fun _=>pe) (fun _=>le) (fun _=>ce) (fun _=>E) S v HN.out.2 (by decide) (hid (fun j hj=> ?_)) (hid (I7.out.below av))).mono ?_
  ·match j,hj with
   | 0,_=>exact⟨HL.out.2.1,aA 0 hb,lt_of_block hb,IE.out.below av,WE.out⟩
  ·rintro e w2 ⟨y,rfl,a2,l2,r2⟩
   refine⟨(some y,M),rfl,a2,fun b e=>by injection e with e;subst e;exact⟨l2,r2.lt⟩,y,rfl,Nat.le_trans av.size l2,r2.congr (fun i _=> ?_)⟩
   unfold shB hsF
   simp[List.range_succ]
 have A0:Hid (Ab w (((w.alloc (.cells #[.slice pc lc cc,.slice pe le ce,.slice ph lh ch] 34)).alloc (.cells #[.slice (some ⟨qb,ob,none⟩) N cb,.slice (some ⟨qw,ow,none⟩) N cw,.slice (some ⟨qt,ot,none⟩) N ct,.slice (some ⟨qs,os,none⟩) M cs,.int .i64 sky,.int .i64 st] 41)).alloc (.cells #[.slice none 0 0,.slice none 0 0,.slice none 0 0,.slice none 0 0,.int .i64 0,.int .i64 0] 41))):=Ab.trans (bl2 _ _ _) (bl1 _ _)
 have P0:Hid ((((w.alloc (.cells #[.slice pc lc cc,.slice pe le ce,.slice ph lh ch] 34)).alloc (.cells #[.slice (some ⟨qb,ob,none⟩) N cb,.slice (some ⟨qw,ow,none⟩) N cw,.slice (some ⟨qt,ot,none⟩) N ct,.slice (some ⟨qs,os,none⟩) M cs,.int .i64 sky,.int .i64 st] 41)).alloc (.cells #[.slice none 0 0,.slice none 0 0,.slice none 0 0,.slice none 0 0,.int .i64 0,.int .i64 0] 41)).heap[w.heap.size]? =some (.cells #[.slice pc lc cc,.slice pe le ce,.slice ph lh ch] 34)):=Ab.heap (bl1 _ _) (heap_alloc2_old _ _ _)
 have S0:Hid ((((w.alloc (.cells #[.slice pc lc cc,.slice pe le ce,.slice ph lh ch] 34)).alloc (.cells #[.slice (some ⟨qb,ob,none⟩) N cb,.slice (some ⟨qw,ow,none⟩) N cw,.slice (some ⟨qt,ot,none⟩) N ct,.slice (some ⟨qs,os,none⟩) M cs,.int .i64 sky,.int .i64 st] 41)).alloc (.cells #[.slice none 0 0,.slice none 0 0,.slice none 0 0,.slice none 0 0,.int .i64 0,.int .i64 0] 41)).heap[w.heap.size+1]? =some (.cells #[.slice (some ⟨qb,ob,none⟩) N cb,.slice (some ⟨qw,ow,none⟩) N cw,.slice (some ⟨qt,ot,none⟩) N ct,.slice (some ⟨qs,os,none⟩) M cs,.int .i64 sky,.int .i64 st] 41)):=Ab.heap (bl1 _ _) (heap_alloc2_new _ _ _)
 have Q0:Hid ((((w.alloc (.cells #[.slice pc lc cc,.slice pe le ce,.slice ph lh ch] 34)).alloc (.cells #[.slice (some ⟨qb,ob,none⟩) N cb,.slice (some ⟨qw,ow,none⟩) N cw,.slice (some ⟨qt,ot,none⟩) N ct,.slice (some ⟨qs,os,none⟩) M cs,.int .i64 sky,.int .i64 st] 41)).alloc (.cells #[.slice none 0 0,.slice none 0 0,.slice none 0 0,.slice none 0 0,.int .i64 0,.int .i64 0] 41)).heap[w.heap.size+1+1]? =some (.cells #[.slice none 0 0,.slice none 0 0,.slice none 0 0,.slice none 0 0,.int .i64 0,.int .i64 0] 41)):=by
  have h:=heap_alloc_new ((w.alloc (.cells #[.slice pc lc cc,.slice pe le ce,.slice ph lh ch] 34)).alloc (.cells #[.slice (some ⟨qb,ob,none⟩) N cb,.slice (some ⟨qw,ow,none⟩) N cw,.slice (some ⟨qt,ot,none⟩) N ct,.slice (some ⟨qs,os,none⟩) M cs,.int .i64 sky,.int .i64 st] 41)) (.cells #[.slice none 0 0,.slice none 0 0,.slice none 0 0,.slice none 0 0,.int .i64 0,.int .i64 0] 41)
  have e:((w.alloc (.cells #[.slice pc lc cc,.slice pe le ce,.slice ph lh ch] 34)).alloc (.cells #[.slice (some ⟨qb,ob,none⟩) N cb,.slice (some ⟨qw,ow,none⟩) N cw,.slice (some ⟨qt,ot,none⟩) N ct,.slice (some ⟨qs,os,none⟩) M cs,.int .i64 sky,.int .i64 st] 41)).heap.size=w.heap.size+1+1:=by rw[cY,cY]
  rw[e]at h
  exact h
 go_enter func13,ntmps13
 go_upto_region 1 with fail
 generalize hW:World.alloc (World.alloc (World.alloc w _) _) _=V0 at*
 obtain⟨gp,hgp⟩:=aB w.heap.size
 obtain⟨gs,hgs⟩:=aB (w.heap.size+1)
 obtain⟨gr,hgr⟩:=aB (w.heap.size+1+1)
 have HG:Hid (w.heap.size<=gr):=by show _<=_;omega
 rw[hgr]at Q0 ⊢
 rw[hgs]at S0 ⊢
 rw[hgp]at P0 ⊢
 clear hgp hgs hgr hW
 go_upto_region 3 with fail
 obtain⟨UU,E,hF1,hF2⟩:=cls V0
 have HU:=hid hF2
 have HU1:=hid hF1
 have HX:Hid (∀u,Ab w (E u)):=fun u=>Ab.trans A0.out (hF1 u)
 have p0: ∀u,(E u).cell? ⟨gp,0,none⟩=some (.slice pc lc cc):=fun u=>aA 0 ((hF1 u).heap P0.out)
 have p1: ∀u,(E u).cell? ⟨gp,1,none⟩=some (.slice pe le ce):=fun u=>aA 1 ((hF1 u).heap P0.out)
 have p2: ∀u,(E u).cell? ⟨gp,2,none⟩=some (.slice ph lh ch):=fun u=>aA 2 ((hF1 u).heap P0.out)
 have s0: ∀u,(E u).cell? ⟨gs,0,none⟩=some (.slice (some ⟨qb,ob,none⟩) N cb):=fun u=>aA 0 ((hF1 u).heap S0.out)
 have s1: ∀u,(E u).cell? ⟨gs,1,none⟩=some (.slice (some ⟨qw,ow,none⟩) N cw):=fun u=>aA 1 ((hF1 u).heap S0.out)
 have s2: ∀u,(E u).cell? ⟨gs,2,none⟩=some (.slice (some ⟨qt,ot,none⟩) N ct):=fun u=>aA 2 ((hF1 u).heap S0.out)
 have s3: ∀u,(E u).cell? ⟨gs,3,none⟩=some (.slice (some ⟨qs,os,none⟩) M cs):=fun u=>aA 3 ((hF1 u).heap S0.out)
 have s4: ∀u,(E u).cell? ⟨gs,4,none⟩=some (.int .i64 sky):=fun u=>aA 4 ((hF1 u).heap S0.out)
 have s5: ∀u,(E u).cell? ⟨gs,5,none⟩=some (.int .i64 st):=fun u=>aA 5 ((hF1 u).heap S0.out)
 have DD0:=HU.out _ (Ab.refl V0).drew
 clear hF1 hF2
 refine aJ E (by kernel_rfl) (by kernel_rfl) DD0 ?_
 repeat(go_big_quiet_step (first
  | (with_reducible rfl)
  | (go_at_call 37;exact aF HU HU1 (CF.out _ (HX.out _)))
  | (go_at_call 9;exact aF HU HU1 (CC.out _ (HX.out _)))
  | (go_at_call_of 38 lc;exact aF HU HU1 (C1.out _ (HX.out _)))
  | (go_at_call_of 38 lh;exact aF HU HU1 (C2.out _ (HX.out _)))
  | (go_at_call 32;exact aF HU HU1 (CE.out _ (HX.out _)))
  | (go_at_call_of 38 le;exact aF HU HU1 (C3.out _ (HX.out _)))))
 refine wpQuiet_nil ?_
 intro z hwz
 obtain⟨u0,hu⟩:=hwz
 have AZ:Hid (Ab V0 z):=by rw[hu];exact HU1.out u0
 clear hu u0
 clear HU HU1 HX DD0 p0 p1 p2 s0 s1 s2 s3 s4 s5
 clear E UU
 have A1:Hid (Ab w z):=A0.out.trans AZ.out
 have Q1:=hid (AZ.out.heap Q0.out)
 have P1:=hid (AZ.out.heap P0.out)
 have S1:=hid (AZ.out.heap S0.out)
 clear AZ A0 Q0 P0 S0 CF CC CE C1 C2 C3
 go_upto_region 5 with fail
 obtain⟨UU,E',hF1,hF2⟩:=cls z.drew
 have HU:=hid hF2
 have HU1:=hid hF1
 have p0: ∀u,(E' u).cell? ⟨gp,0,none⟩=some (.slice pc lc cc):=fun u=>aA 0 ((hF1 u).heap P1.out)
 have p1: ∀u,(E' u).cell? ⟨gp,1,none⟩=some (.slice pe le ce):=fun u=>aA 1 ((hF1 u).heap P1.out)
 have p2: ∀u,(E' u).cell? ⟨gp,2,none⟩=some (.slice ph lh ch):=fun u=>aA 2 ((hF1 u).heap P1.out)
 have s0: ∀u,(E' u).cell? ⟨gs,0,none⟩=some (.slice (some ⟨qb,ob,none⟩) N cb):=fun u=>aA 0 ((hF1 u).heap S1.out)
 have s1: ∀u,(E' u).cell? ⟨gs,1,none⟩=some (.slice (some ⟨qw,ow,none⟩) N cw):=fun u=>aA 1 ((hF1 u).heap S1.out)
 have s2: ∀u,(E' u).cell? ⟨gs,2,none⟩=some (.slice (some ⟨qt,ot,none⟩) N ct):=fun u=>aA 2 ((hF1 u).heap S1.out)
 have s3: ∀u,(E' u).cell? ⟨gs,3,none⟩=some (.slice (some ⟨qs,os,none⟩) M cs):=fun u=>aA 3 ((hF1 u).heap S1.out)
 have s4: ∀u,(E' u).cell? ⟨gs,4,none⟩=some (.int .i64 sky):=fun u=>aA 4 ((hF1 u).heap S1.out)
 have s5: ∀u,(E' u).cell? ⟨gs,5,none⟩=some (.int .i64 st):=fun u=>aA 5 ((hF1 u).heap S1.out)
 clear hF1 hF2
 have AL: ∀v:World,(Instr.alloc 41 true (.tuple #[])).run prog v=.ok (.pointer (some ⟨v.heap.size,0,none⟩)) (v.alloc (.cells #[.slice none 0 0,.slice none 0 0,.slice none 0 0,.slice none 0 0,.int .i64 0,.int .i64 0] 41)):=fun v=>by
  simp[go_sem]
 have STB:Ch.Stable (fun k=>if k=6 then some ((fun(x:Ch.Ix) (w':World)=> ∃b,x=(some b,2)/\w'.heap[b]? =some (.cells #[.slice pc lc cc,.slice ph lh ch] 32)),mkS 2)else if k=7 then some ((fun(x:Ch.Ix) (w':World)=> ∃b,x=(some b,N)/\w.heap.size<=b/\w'.rowIs b 45 N (fun i=>.float .f64 (shB (mk2 lc lh C H) B i))),mkS N)else if k=14 then some ((fun(x:Ch.Ix) (w':World)=> ∃b,x=(some b,2)/\w'.heap[b]? =some (.cells #[.slice pc lc cc,.slice ph lh ch] 32)),mkS 2)else if k=15 then some ((fun(x:Ch.Ix) (w':World)=> ∃b,x=(some b,N)/\w.heap.size<=b/\w'.rowIs b 2 N (fun i=>.int .i64 (shW (mk2 lc lh C H) Wt i))),mkS N)else if k=22 then some ((fun(x:Ch.Ix) (w':World)=> ∃b,x=(some b,2)/\w'.heap[b]? =some (.cells #[.slice pc lc cc,.slice ph lh ch] 32)),mkS 2)else if k=23 then some ((fun(x:Ch.Ix) (w':World)=> ∃b,x=(some b,N)/\w.heap.size<=b/\w'.rowIs b 2 N (fun i=>.int .i64 (shW (mk2 lc lh C H) T i))),mkS N)else if k=28 then some ((fun(x:Ch.Ix) (w':World)=> ∃b,x=(some b,1)/\w'.heap[b]? =some (.cells #[.slice pe le ce] 32)),mkS 1)else if k=29 then some ((fun(x:Ch.Ix) (w':World)=> ∃b,x=(some b,M)/\w.heap.size<=b/\w'.rowIs b 45 M (fun i=>.float .f64 (shB (hs le E) S i))),mkS M)else if k=33 then some ((fun(x:Ch.Ix) (w':World)=> ∃b,x=(some b,0)/\w'.heap[b]? =some (.cells #[.slice none 0 0,.slice none 0 0,.slice none 0 0,.slice none 0 0,.int .i64 0,.int .i64 0] 41)),mkP)else none):=fun i R mk h x v v' hr ha=>by
  rcases Nat.decEq i 6 with q6 | q6
  rotate_left
  ·subst q6
   simp only[if_true,Option.some.injEq,Prod.mk.injEq]at h
   obtain⟨h1,h2⟩:=h
   subst h1 h2
   obtain⟨b,e,hb⟩:=hr
   exact⟨b,e,ha.heap hb⟩
  rcases Nat.decEq i 7 with q7 | q7
  rotate_left
  ·subst q7
   simp only[if_true,if_neg (show¬(7:Nat)=6 by decide),Option.some.injEq,Prod.mk.injEq]at h
   obtain⟨h1,h2⟩:=h
   subst h1 h2
   obtain⟨b,e,hl,hb⟩:=hr
   exact⟨b,e,hl,rowIs.ab hb ha⟩
  rcases Nat.decEq i 14 with q14 | q14
  rotate_left
  ·subst q14
   simp only[if_true,if_neg (show¬(14:Nat)=6 by decide),if_neg (show¬(14:Nat)=7 by decide),Option.some.injEq,Prod.mk.injEq]at h
   obtain⟨h1,h2⟩:=h
   subst h1 h2
   obtain⟨b,e,hb⟩:=hr
   exact⟨b,e,ha.heap hb⟩
  rcases Nat.decEq i 15 with q15 | q15
  rotate_left
  ·subst q15
   simp only[if_true,if_neg (show¬(15:Nat)=6 by decide),if_neg (show¬(15:Nat)=7 by decide),if_neg (show¬(15:Nat)=14 by decide),Option.some.injEq,Prod.mk.injEq]at h
   obtain⟨h1,h2⟩:=h
   subst h1 h2
   obtain⟨b,e,hl,hb⟩:=hr
   exact⟨b,e,hl,rowIs.ab hb ha⟩
  rcases Nat.decEq i 22 with q22 | q22
  rotate_left
  ·subst q22
   simp only[if_true,if_neg (show¬(22:Nat)=6 by decide),if_neg (show¬(22:Nat)=7 by decide),if_neg (show¬(22:Nat)=14 by decide),if_neg (show¬(22:Nat)=15 by decide),Option.some.injEq,Prod.mk.injEq]at h
   obtain⟨h1,h2⟩:=h
   subst h1 h2
   obtain⟨b,e,hb⟩:=hr
   exact⟨b,e,ha.heap hb⟩
  rcases Nat.decEq i 23 with q23 | q23
  rotate_left
  ·subst q23
   simp only[if_true,if_neg (show¬(23:Nat)=6 by decide),if_neg (show¬(23:Nat)=7 by decide),if_neg (show¬(23:Nat)=14 by decide),if_neg (show¬(23:Nat)=15 by decide),if_neg (show¬(23:Nat)=22 by decide),Option.some.injEq,Prod.mk.injEq]at h
   obtain⟨h1,h2⟩:=h
   subst h1 h2
   obtain⟨b,e,hl,hb⟩:=hr
   exact⟨b,e,hl,rowIs.ab hb ha⟩
  rcases Nat.decEq i 28 with q28 | q28
  rotate_left
  ·subst q28
   simp only[if_true,if_neg (show¬(28:Nat)=6 by decide),if_neg (show¬(28:Nat)=7 by decide),if_neg (show¬(28:Nat)=14 by decide),if_neg (show¬(28:Nat)=15 by decide),if_neg (show¬(28:Nat)=22 by decide),if_neg (show¬(28:Nat)=23 by decide),Option.some.injEq,Prod.mk.injEq]at h
   obtain⟨h1,h2⟩:=h
   subst h1 h2
   obtain⟨b,e,hb⟩:=hr
   exact⟨b,e,ha.heap hb⟩
  rcases Nat.decEq i 29 with q29 | q29
  rotate_left
  ·subst q29
   simp only[if_true,if_neg (show¬(29:Nat)=6 by decide),if_neg (show¬(29:Nat)=7 by decide),if_neg (show¬(29:Nat)=14 by decide),if_neg (show¬(29:Nat)=15 by decide),if_neg (show¬(29:Nat)=22 by decide),if_neg (show¬(29:Nat)=23 by decide),if_neg (show¬(29:Nat)=28 by decide),Option.some.injEq,Prod.mk.injEq]at h
   obtain⟨h1,h2⟩:=h
   subst h1 h2
   obtain⟨b,e,hl,hb⟩:=hr
   exact⟨b,e,hl,rowIs.ab hb ha⟩
  rcases Nat.decEq i 33 with q33 | q33
  rotate_left
  ·subst q33
   simp only[if_true,if_neg (show¬(33:Nat)=6 by decide),if_neg (show¬(33:Nat)=7 by decide),if_neg (show¬(33:Nat)=14 by decide),if_neg (show¬(33:Nat)=15 by decide),if_neg (show¬(33:Nat)=22 by decide),if_neg (show¬(33:Nat)=23 by decide),if_neg (show¬(33:Nat)=28 by decide),if_neg (show¬(33:Nat)=29 by decide),Option.some.injEq,Prod.mk.injEq]at h
   obtain⟨h1,h2⟩:=h
   subst h1 h2
   obtain⟨b,e,hb⟩:=hr
   exact⟨b,e,ha.heap hb⟩
  simp only[if_neg q6,if_neg q7,if_neg q14,if_neg q15,if_neg q22,if_neg q23,if_neg q28,if_neg q29,if_neg q33]at h
  cases h
 refine Ch.cB 34 (fun k=>if k=6 then some ((fun(x:Ch.Ix) (w':World)=> ∃b,x=(some b,2)/\w'.heap[b]? =some (.cells #[.slice pc lc cc,.slice ph lh ch] 32)),mkS 2)else if k=7 then some ((fun(x:Ch.Ix) (w':World)=> ∃b,x=(some b,N)/\w.heap.size<=b/\w'.rowIs b 45 N (fun i=>.float .f64 (shB (mk2 lc lh C H) B i))),mkS N)else if k=14 then some ((fun(x:Ch.Ix) (w':World)=> ∃b,x=(some b,2)/\w'.heap[b]? =some (.cells #[.slice pc lc cc,.slice ph lh ch] 32)),mkS 2)else if k=15 then some ((fun(x:Ch.Ix) (w':World)=> ∃b,x=(some b,N)/\w.heap.size<=b/\w'.rowIs b 2 N (fun i=>.int .i64 (shW (mk2 lc lh C H) Wt i))),mkS N)else if k=22 then some ((fun(x:Ch.Ix) (w':World)=> ∃b,x=(some b,2)/\w'.heap[b]? =some (.cells #[.slice pc lc cc,.slice ph lh ch] 32)),mkS 2)else if k=23 then some ((fun(x:Ch.Ix) (w':World)=> ∃b,x=(some b,N)/\w.heap.size<=b/\w'.rowIs b 2 N (fun i=>.int .i64 (shW (mk2 lc lh C H) T i))),mkS N)else if k=28 then some ((fun(x:Ch.Ix) (w':World)=> ∃b,x=(some b,1)/\w'.heap[b]? =some (.cells #[.slice pe le ce] 32)),mkS 1)else if k=29 then some ((fun(x:Ch.Ix) (w':World)=> ∃b,x=(some b,M)/\w.heap.size<=b/\w'.rowIs b 45 M (fun i=>.float .f64 (shB (hs le E) S i))),mkS M)else if k=33 then some ((fun(x:Ch.Ix) (w':World)=> ∃b,x=(some b,0)/\w'.heap[b]? =some (.cells #[.slice none 0 0,.slice none 0 0,.slice none 0 0,.slice none 0 0,.int .i64 0,.int .i64 0] 41)),mkP)else none) (fun k=>if k=7 then [6]else if k=15 then [14]else if k=23 then [22]else if k=29 then [28]else []) STB (by kernel_rfl) (by kernel_rfl) (by kernel_rfl) (by kernel_rfl) ?_
 simp only[List.take_succ_cons,List.take_zero]
 refine Ch.aD HU (by rfl) (by rfl) ?_
 go_big_quiet_step (with_reducible rfl)
 refine wpQuiet_nil ?_
 refine Ch.aD HU (by rfl) (by rfl) ?_
 go_big_quiet_step (with_reducible rfl)
 refine wpQuiet_nil ?_
 refine Ch.aD HU (by rfl) (by rfl) ?_
 go_big_quiet_step (with_reducible rfl)
 refine wpQuiet_nil ?_
 refine Ch.aD HU (by rfl) (by rfl) ?_
 go_big_quiet_step (with_reducible rfl)
 refine wpQuiet_nil ?_
 refine Ch.aD HU (by rfl) (by rfl) ?_
 go_big_quiet_step (with_reducible rfl)
 refine wpQuiet_nil ?_
 refine Ch.aD HU (by rfl) (by rfl) ?_
 go_big_quiet_step (with_reducible rfl)
 refine wpQuiet_nil ?_
 refine Ch.aQ (ob:=(fun(x:Ch.Ix) (w':World)=> ∃b,x=(some b,2)/\w'.heap[b]? =some (.cells #[.slice pc lc cc,.slice ph lh ch] 32))) (mk:=mkS 2) (by rfl) (by kernel_rfl) ?_ ?_
 ·refine Ch.eC (O:=(.cells #[.slice pc lc cc,.slice ph lh ch] 32)) (c:=2) (fun v _=>jU (vs:= #[(0,.slice pc lc cc),(1,.slice ph lh ch)]) (by rfl) (by simp[Act.eval]) (qO pc ph lc lh cc ch v)) (fun v _=>⟨v.heap.size,rfl,heap_alloc_new _ _⟩)
 intro x6 fx6
 simp only[Act.put,List.setIfInBounds_toArray,List.set_cons_succ,List.set_cons_zero]
 refine Ch.aQ (ob:=(fun(x:Ch.Ix) (w':World)=> ∃b,x=(some b,N)/\w.heap.size<=b/\w'.rowIs b 45 N (fun i=>.float .f64 (shB (mk2 lc lh C H) B i)))) (mk:=mkS N) (by rfl) (by kernel_rfl) ?_ ?_
 ·refine Ch.gH (f:=39) (args:= #[.slice (some ⟨qb,ob,none⟩) N cb,mkS 2 x6]) ?_ (fun v hv=>C4.out v x6 (A1.out.trans ((Ab.refl z).drew.trans hv.1)) (hv.at (i:=6) (x:=x6) (R:=(fun(x:Ch.Ix) (w':World)=> ∃b,x=(some b,2)/\w'.heap[b]? =some (.cells #[.slice pc lc cc,.slice ph lh ch] 32))) (mk:=mkS 2) (by rfl) (by rfl)).1)
  intro v
  exact fE (x:=.tmp 42) (y:=.tmp 47) (ats:= #[38,83]) (by rfl) (by rfl) (by rfl) func39 (by kernel_rfl) (by kernel_rfl) v
 intro x7 fx7
 simp only[Act.put,List.setIfInBounds_toArray,List.set_cons_succ,List.set_cons_zero]
 refine Ch.aD HU (by rfl) (by rfl) ?_
 go_big_quiet_step (with_reducible rfl)
 refine wpQuiet_nil ?_
 refine Ch.aD HU (by rfl) (by rfl) ?_
 go_big_quiet_step (with_reducible rfl)
 refine wpQuiet_nil ?_
 refine Ch.aD HU (by rfl) (by rfl) ?_
 go_big_quiet_step (with_reducible rfl)
 refine wpQuiet_nil ?_
 refine Ch.aD HU (by rfl) (by rfl) ?_
 go_big_quiet_step (with_reducible rfl)
 refine wpQuiet_nil ?_
 refine Ch.aD HU (by rfl) (by rfl) ?_
 go_big_quiet_step (with_reducible rfl)
 refine wpQuiet_nil ?_
 refine Ch.aD HU (by rfl) (by rfl) ?_
 go_big_quiet_step (with_reducible rfl)
 refine wpQuiet_nil ?_
 refine Ch.aQ (ob:=(fun(x:Ch.Ix) (w':World)=> ∃b,x=(some b,2)/\w'.heap[b]? =some (.cells #[.slice pc lc cc,.slice ph lh ch] 32))) (mk:=mkS 2) (by rfl) (by kernel_rfl) ?_ ?_
 ·refine Ch.eC (O:=(.cells #[.slice pc lc cc,.slice ph lh ch] 32)) (c:=2) (fun v _=>jU (vs:= #[(0,.slice pc lc cc),(1,.slice ph lh ch)]) (by rfl) (by simp[Act.eval]) (qO pc ph lc lh cc ch v)) (fun v _=>⟨v.heap.size,rfl,heap_alloc_new _ _⟩)
 intro x14 fx14
 simp only[Act.put,List.setIfInBounds_toArray,List.set_cons_succ,List.set_cons_zero]
 refine Ch.aQ (ob:=(fun(x:Ch.Ix) (w':World)=> ∃b,x=(some b,N)/\w.heap.size<=b/\w'.rowIs b 2 N (fun i=>.int .i64 (shW (mk2 lc lh C H) Wt i)))) (mk:=mkS N) (by rfl) (by kernel_rfl) ?_ ?_
 ·refine Ch.gH (f:=40) (args:= #[.slice (some ⟨qw,ow,none⟩) N cw,mkS 2 x14]) ?_ (fun v hv=>C5.out v x14 (A1.out.trans ((Ab.refl z).drew.trans hv.1)) (hv.at (i:=14) (x:=x14) (R:=(fun(x:Ch.Ix) (w':World)=> ∃b,x=(some b,2)/\w'.heap[b]? =some (.cells #[.slice pc lc cc,.slice ph lh ch] 32))) (mk:=mkS 2) (by rfl) (by rfl)).1)
  intro v
  exact fE (x:=.tmp 50) (y:=.tmp 55) (ats:= #[39,83]) (by rfl) (by rfl) (by rfl) func40 (by kernel_rfl) (by kernel_rfl) v
 intro x15 fx15
 simp only[Act.put,List.setIfInBounds_toArray,List.set_cons_succ,List.set_cons_zero]
 refine Ch.aD HU (by rfl) (by rfl) ?_
 go_big_quiet_step (with_reducible rfl)
 refine wpQuiet_nil ?_
 refine Ch.aD HU (by rfl) (by rfl) ?_
 go_big_quiet_step (with_reducible rfl)
 refine wpQuiet_nil ?_
 refine Ch.aD HU (by rfl) (by rfl) ?_
 go_big_quiet_step (with_reducible rfl)
 refine wpQuiet_nil ?_
 refine Ch.aD HU (by rfl) (by rfl) ?_
 go_big_quiet_step (with_reducible rfl)
 refine wpQuiet_nil ?_
 refine Ch.aD HU (by rfl) (by rfl) ?_
 go_big_quiet_step (with_reducible rfl)
 refine wpQuiet_nil ?_
 refine Ch.aD HU (by rfl) (by rfl) ?_
 go_big_quiet_step (with_reducible rfl)
 refine wpQuiet_nil ?_
 refine Ch.aQ (ob:=(fun(x:Ch.Ix) (w':World)=> ∃b,x=(some b,2)/\w'.heap[b]? =some (.cells #[.slice pc lc cc,.slice ph lh ch] 32))) (mk:=mkS 2) (by rfl) (by kernel_rfl) ?_ ?_
 ·refine Ch.eC (O:=(.cells #[.slice pc lc cc,.slice ph lh ch] 32)) (c:=2) (fun v _=>jU (vs:= #[(0,.slice pc lc cc),(1,.slice ph lh ch)]) (by rfl) (by simp[Act.eval]) (qO pc ph lc lh cc ch v)) (fun v _=>⟨v.heap.size,rfl,heap_alloc_new _ _⟩)
 intro x22 fx22
 simp only[Act.put,List.setIfInBounds_toArray,List.set_cons_succ,List.set_cons_zero]
 refine Ch.aQ (ob:=(fun(x:Ch.Ix) (w':World)=> ∃b,x=(some b,N)/\w.heap.size<=b/\w'.rowIs b 2 N (fun i=>.int .i64 (shW (mk2 lc lh C H) T i)))) (mk:=mkS N) (by rfl) (by kernel_rfl) ?_ ?_
 ·refine Ch.gH (f:=40) (args:= #[.slice (some ⟨qt,ot,none⟩) N ct,mkS 2 x22]) ?_ (fun v hv=>C6.out v x22 (A1.out.trans ((Ab.refl z).drew.trans hv.1)) (hv.at (i:=22) (x:=x22) (R:=(fun(x:Ch.Ix) (w':World)=> ∃b,x=(some b,2)/\w'.heap[b]? =some (.cells #[.slice pc lc cc,.slice ph lh ch] 32))) (mk:=mkS 2) (by rfl) (by rfl)).1)
  intro v
  exact fE (x:=.tmp 58) (y:=.tmp 63) (ats:= #[39,83]) (by rfl) (by rfl) (by rfl) func40 (by kernel_rfl) (by kernel_rfl) v
 intro x23 fx23
 simp only[Act.put,List.setIfInBounds_toArray,List.set_cons_succ,List.set_cons_zero]
 refine Ch.aD HU (by rfl) (by rfl) ?_
 go_big_quiet_step (with_reducible rfl)
 refine wpQuiet_nil ?_
 refine Ch.aD HU (by rfl) (by rfl) ?_
 go_big_quiet_step (with_reducible rfl)
 refine wpQuiet_nil ?_
 refine Ch.aD HU (by rfl) (by rfl) ?_
 go_big_quiet_step (with_reducible rfl)
 refine wpQuiet_nil ?_
 refine Ch.aD HU (by rfl) (by rfl) ?_
 go_big_quiet_step (with_reducible rfl)
 refine wpQuiet_nil ?_
 refine Ch.aQ (ob:=(fun(x:Ch.Ix) (w':World)=> ∃b,x=(some b,1)/\w'.heap[b]? =some (.cells #[.slice pe le ce] 32))) (mk:=mkS 1) (by rfl) (by kernel_rfl) ?_ ?_
 ·refine Ch.eC (O:=(.cells #[.slice pe le ce] 32)) (c:=1) (fun v _=>jU (vs:= #[(0,.slice pe le ce)]) (by rfl) (by simp[Act.eval]) (bs_one pe le ce v)) (fun v _=>⟨v.heap.size,rfl,heap_alloc_new _ _⟩)
 intro x28 fx28
 simp only[Act.put,List.setIfInBounds_toArray,List.set_cons_succ,List.set_cons_zero]
 refine Ch.aQ (ob:=(fun(x:Ch.Ix) (w':World)=> ∃b,x=(some b,M)/\w.heap.size<=b/\w'.rowIs b 45 M (fun i=>.float .f64 (shB (hs le E) S i)))) (mk:=mkS M) (by rfl) (by kernel_rfl) ?_ ?_
 ·refine Ch.gH (f:=39) (args:= #[.slice (some ⟨qs,os,none⟩) M cs,mkS 1 x28]) ?_ (fun v hv=>C7.out v x28 (A1.out.trans ((Ab.refl z).drew.trans hv.1)) (hv.at (i:=28) (x:=x28) (R:=(fun(x:Ch.Ix) (w':World)=> ∃b,x=(some b,1)/\w'.heap[b]? =some (.cells #[.slice pe le ce] 32))) (mk:=mkS 1) (by rfl) (by rfl)).1)
  intro v
  exact fE (x:=.tmp 66) (y:=.tmp 69) (ats:= #[38,83]) (by rfl) (by rfl) (by rfl) func39 (by kernel_rfl) (by kernel_rfl) v
 intro x29 fx29
 simp only[Act.put,List.setIfInBounds_toArray,List.set_cons_succ,List.set_cons_zero]
 obtain⟨pp1,m1,c1,q1⟩:=mF N x7
 obtain⟨pp2,m2,c2,q2⟩:=mF N x15
 obtain⟨pp3,m3,c3,q3⟩:=mF N x23
 obtain⟨pp4,m4,c4,q4⟩:=mF M x29
 rw[q1,q2,q3,q4]
 refine Ch.aD HU (by rfl) (by rfl) ?_
 go_big_quiet_step (with_reducible rfl)
 refine wpQuiet_nil ?_
 refine Ch.aD HU (by rfl) (by rfl) ?_
 go_big_quiet_step (with_reducible rfl)
 refine wpQuiet_nil ?_
 refine Ch.aD HU (by rfl) (by rfl) ?_
 go_big_quiet_step (with_reducible rfl)
 refine wpQuiet_nil ?_
 refine Ch.aQ (ob:=(fun(x:Ch.Ix) (w':World)=> ∃b,x=(some b,0)/\w'.heap[b]? =some (.cells #[.slice none 0 0,.slice none 0 0,.slice none 0 0,.slice none 0 0,.int .i64 0,.int .i64 0] 41))) (mk:=mkP) (by rfl) (by kernel_rfl) ?_ ?_
 ·exact Ch.eC (O:=.cells #[.slice none 0 0,.slice none 0 0,.slice none 0 0,.slice none 0 0,.int .i64 0,.int .i64 0] 41) (c:=0) (fun v _=>Ch.run_alloc rfl (AL v)) (fun v _=>⟨v.heap.size,rfl,heap_alloc_new _ _⟩)
 intro x33 fx33
 simp only[Act.put,List.setIfInBounds_toArray,List.set_cons_succ,List.set_cons_zero]
 refine Ch.dA ?_
 intro wz hz
 have h7:=hz.at (i:=7) (x:=x7) (R:=(fun(x:Ch.Ix) (w':World)=> ∃b,x=(some b,N)/\w.heap.size<=b/\w'.rowIs b 45 N (fun i=>.float .f64 (shB (mk2 lc lh C H) B i)))) (mk:=mkS N) (by rfl) (by rfl)
 have h15:=hz.at (i:=15) (x:=x15) (R:=(fun(x:Ch.Ix) (w':World)=> ∃b,x=(some b,N)/\w.heap.size<=b/\w'.rowIs b 2 N (fun i=>.int .i64 (shW (mk2 lc lh C H) Wt i)))) (mk:=mkS N) (by rfl) (by rfl)
 have h23:=hz.at (i:=23) (x:=x23) (R:=(fun(x:Ch.Ix) (w':World)=> ∃b,x=(some b,N)/\w.heap.size<=b/\w'.rowIs b 2 N (fun i=>.int .i64 (shW (mk2 lc lh C H) T i)))) (mk:=mkS N) (by rfl) (by rfl)
 have h29:=hz.at (i:=29) (x:=x29) (R:=(fun(x:Ch.Ix) (w':World)=> ∃b,x=(some b,M)/\w.heap.size<=b/\w'.rowIs b 45 M (fun i=>.float .f64 (shB (hs le E) S i)))) (mk:=mkS M) (by rfl) (by rfl)
 have h33:=hz.at (i:=33) (x:=x33) (R:=(fun(x:Ch.Ix) (w':World)=> ∃b,x=(some b,0)/\w'.heap[b]? =some (.cells #[.slice none 0 0,.slice none 0 0,.slice none 0 0,.slice none 0 0,.int .i64 0,.int .i64 0] 41))) (mk:=mkP) (by rfl) (by rfl)
 obtain⟨⟨b1,rfl,l1,r1⟩,k1⟩:=h7
 obtain⟨⟨b2,rfl,l2,r2⟩,k2⟩:=h15
 obtain⟨⟨b3,rfl,l3,r3⟩,k3⟩:=h23
 obtain⟨⟨b4,rfl,l4,r4⟩,k4⟩:=h29
 obtain⟨⟨b5,rfl,r5⟩,k5⟩:=h33
 have E1:(.slice (some ⟨b1,0,none⟩) N N:Value)=.slice pp1 m1 c1:=q1
 have E2:(.slice (some ⟨b2,0,none⟩) N N:Value)=.slice pp2 m2 c2:=q2
 have E3:(.slice (some ⟨b3,0,none⟩) N N:Value)=.slice pp3 m3 c3:=q3
 have E4:(.slice (some ⟨b4,0,none⟩) M M:Value)=.slice pp4 m4 c4:=q4
 rw[<- E1,<- E2,<- E3,<- E4]
 have e5:mkP (some b5,0)=.pointer (some ⟨b5,0,none⟩):=rfl
 rw[e5]
 have ne: ∀(i:Nat) (y:Ch.Ix) (b:Nat),y.1=some b->b5≠b->True:=fun _ _ _ _ _=>trivial
 have n1:b1≠b5:=fun e=>(fx33 b5 rfl).2 7 (some b1,N) (by rfl) (by rw[e])
 have n2:b2≠b5:=fun e=>(fx33 b5 rfl).2 15 (some b2,N) (by rfl) (by rw[e])
 have n3:b3≠b5:=fun e=>(fx33 b5 rfl).2 23 (some b3,N) (by rfl) (by rw[e])
 have n4:b4≠b5:=fun e=>(fx33 b5 rfl).2 29 (some b4,M) (by rfl) (by rw[e])
 have n14:b1≠b4:=fun e=>(fx29 b4 rfl).2 7 (some b1,N) (by rfl) (by rw[e])
 have n23:b2≠b3:=fun e=>(fx23 b3 rfl).2 15 (some b2,N) (by rfl) (by rw[e])
 have L5:=(k5 b5 rfl).1
 have g0:gr<z.heap.size:=lt_of_block Q1.out
 have NG:Hid (b1≠gr/\b2≠gr/\b3≠gr/\b4≠gr/\gr≠b5):=by
  have h1:z.heap.size<=b1:=(k1 b1 rfl).1
  have h2:z.heap.size<=b2:=(k2 b2 rfl).1
  have h3:z.heap.size<=b3:=(k3 b3 rfl).1
  have h4:z.heap.size<=b4:=(k4 b4 rfl).1
  have h5:z.heap.size<=b5:=L5
  exact⟨by omega,by omega,by omega,by omega,by omega⟩
 have NN:=hid (And.intro n1 (And.intro n2 (And.intro n3 (And.intro n4 (And.intro n14 n23)))))
 have LL:=hid (And.intro l1 (And.intro l2 (And.intro l3 l4)))
 have RR:=hid (And.intro r1 (And.intro r2 (And.intro r3 r4)))
 have B5:=hid r5
 have AZ:Hid (Ab z wz):=(Ab.refl z).drew.trans hz.1
 have G5:Hid (gr<z.heap.size/\z.heap.size<=b5):=⟨lt_of_block Q1.out,L5⟩
 have QZ:=hid (AZ.out.heap Q1.out)
 have A2:Hid (Ab w wz):=A1.out.trans AZ.out
 clear k1 k2 k3 k4 g0 n1 n2 n3 n4 n14 n23 l1 l2 l3 l4 r1 r2 r3 r4 r5 L5 k5 ne e5 E1 E2 E3 E4 q1 q2 q3 q4 hz fx6 fx7 fx14 fx15 fx22 fx23 fx28 fx29 fx33 STB HU HU1 p0 p1 p2 s0 s1 s2 s3 s4 s5 C4 C5 C6 C7 A1 AZ Q1 P1 S1 AL
 clear E' UU
 have t0:=aG B5.out
 have f0:=bU B5.out
 simp only[List.drop_succ_cons,List.drop_zero]
 have LW:Hid (w.heap.size<=b5):=by have h1:=HG.out;have h2:=G5.out;show _<=_;omega
 have B8:Hid (((((((wz.setCell ⟨b5,0,none⟩ (.slice (some ⟨b1,0,none⟩) N N)).setCell ⟨b5,1,none⟩ (.slice (some ⟨b2,0,none⟩) N N)).setCell ⟨b5,2,none⟩ (.slice (some ⟨b3,0,none⟩) N N)).setCell ⟨b5,3,none⟩ (.slice (some ⟨b4,0,none⟩) M M)).setCell ⟨b5,4,none⟩ (.int .i64 0)).setCell ⟨b5,5,none⟩ (.int .i64 st)).heap[b5]? =some (.cells #[.slice (some ⟨b1,0,none⟩) N N,.slice (some ⟨b2,0,none⟩) N N,.slice (some ⟨b3,0,none⟩) N N,.slice (some ⟨b4,0,none⟩) M M,.int .i64 0,.int .i64 st] 41)):=row6 B5.out
 have A8:Hid (Ab w ((((((wz.setCell ⟨b5,0,none⟩ (.slice (some ⟨b1,0,none⟩) N N)).setCell ⟨b5,1,none⟩ (.slice (some ⟨b2,0,none⟩) N N)).setCell ⟨b5,2,none⟩ (.slice (some ⟨b3,0,none⟩) N N)).setCell ⟨b5,3,none⟩ (.slice (some ⟨b4,0,none⟩) M M)).setCell ⟨b5,4,none⟩ (.int .i64 0)).setCell ⟨b5,5,none⟩ (.int .i64 st))):=(((((A2.out.setk LW.out _).setk LW.out _).setk LW.out _).setk LW.out _).setk LW.out _).setk LW.out _
 have Q8:Hid (((((((wz.setCell ⟨b5,0,none⟩ (.slice (some ⟨b1,0,none⟩) N N)).setCell ⟨b5,1,none⟩ (.slice (some ⟨b2,0,none⟩) N N)).setCell ⟨b5,2,none⟩ (.slice (some ⟨b3,0,none⟩) N N)).setCell ⟨b5,3,none⟩ (.slice (some ⟨b4,0,none⟩) M M)).setCell ⟨b5,4,none⟩ (.int .i64 0)).setCell ⟨b5,5,none⟩ (.int .i64 st)).heap[gr]? =some (.cells #[.slice none 0 0,.slice none 0 0,.slice none 0 0,.slice none 0 0,.int .i64 0,.int .i64 0] 41)):=(bG NG.out.2.2.2.2).trans QZ.out
 have RR8:Hid (((((((wz.setCell ⟨b5,0,none⟩ (.slice (some ⟨b1,0,none⟩) N N)).setCell ⟨b5,1,none⟩ (.slice (some ⟨b2,0,none⟩) N N)).setCell ⟨b5,2,none⟩ (.slice (some ⟨b3,0,none⟩) N N)).setCell ⟨b5,3,none⟩ (.slice (some ⟨b4,0,none⟩) M M)).setCell ⟨b5,4,none⟩ (.int .i64 0)).setCell ⟨b5,5,none⟩ (.int .i64 st)).rowIs b1 45 N (fun i=>.float .f64 (shB (mk2 lc lh C H) B i))/\((((((wz.setCell ⟨b5,0,none⟩ (.slice (some ⟨b1,0,none⟩) N N)).setCell ⟨b5,1,none⟩ (.slice (some ⟨b2,0,none⟩) N N)).setCell ⟨b5,2,none⟩ (.slice (some ⟨b3,0,none⟩) N N)).setCell ⟨b5,3,none⟩ (.slice (some ⟨b4,0,none⟩) M M)).setCell ⟨b5,4,none⟩ (.int .i64 0)).setCell ⟨b5,5,none⟩ (.int .i64 st)).rowIs b2 2 N (fun i=>.int .i64 (shW (mk2 lc lh C H) Wt i))/\((((((wz.setCell ⟨b5,0,none⟩ (.slice (some ⟨b1,0,none⟩) N N)).setCell ⟨b5,1,none⟩ (.slice (some ⟨b2,0,none⟩) N N)).setCell ⟨b5,2,none⟩ (.slice (some ⟨b3,0,none⟩) N N)).setCell ⟨b5,3,none⟩ (.slice (some ⟨b4,0,none⟩) M M)).setCell ⟨b5,4,none⟩ (.int .i64 0)).setCell ⟨b5,5,none⟩ (.int .i64 st)).rowIs b3 2 N (fun i=>.int .i64 (shW (mk2 lc lh C H) T i))/\((((((wz.setCell ⟨b5,0,none⟩ (.slice (some ⟨b1,0,none⟩) N N)).setCell ⟨b5,1,none⟩ (.slice (some ⟨b2,0,none⟩) N N)).setCell ⟨b5,2,none⟩ (.slice (some ⟨b3,0,none⟩) N N)).setCell ⟨b5,3,none⟩ (.slice (some ⟨b4,0,none⟩) M M)).setCell ⟨b5,4,none⟩ (.int .i64 0)).setCell ⟨b5,5,none⟩ (.int .i64 st)).rowIs b4 45 M (fun i=>.float .f64 (shB (hs le E) S i))):=⟨RR.out.1.of_block (bG NN.out.1),RR.out.2.1.of_block (bG NN.out.2.1),RR.out.2.2.1.of_block (bG NN.out.2.2.1),RR.out.2.2.2.of_block (bG NN.out.2.2.2.1)⟩
 go_upto_region 6 with fail
 generalize hW:World.setCell _ _ _=v8 at*
 clear hW t0 f0 B5 QZ RR A2
 have x0:=aG B8.out
 have t0:=aG Q8.out
 have f0:=bU Q8.out
 go_wp2_with fail
 have RY:=hid (row6 (x:=.slice (some ⟨b1,0,none⟩) N N) (y:=.slice (some ⟨b2,0,none⟩) N N) (z:=.slice (some ⟨b3,0,none⟩) N N) (p:=.slice (some ⟨b4,0,none⟩) M M) (q:=.int .i64 0) (r:=.int .i64 st) Q8.out)
 refine bodyPost_ret (v:=.tuple #[.agg #[.slice (some ⟨b1,0,none⟩) N N,.slice (some ⟨b2,0,none⟩) N N,.slice (some ⟨b3,0,none⟩) N N,.slice (some ⟨b4,0,none⟩) M M,.int .i64 0,.int .i64 st],.int .i64 0]) ?_ rfl ?_
 ·exact cM results13 _ _ gr _ _ (0,0) _ _ rfl rfl RY.out underlying41 rfl (by kernel_rfl)
 have hg:=HG.out
 have mN:N<=maxLen/\M<=maxLen:=by have:=HN.out;unfold maxLen;omega
 refine⟨_,rfl,((((((A8.out.setk hg _).setk hg _).setk hg _).setk hg _).setk hg _).setk hg _),_,_,_,_,rfl,oQ (RR8.out.1.of_block (bG NG.out.1)) LL.out.1 mN.1,oS (RR8.out.2.1.of_block (bG NG.out.2.1)) LL.out.2.1 mN.1,oS (RR8.out.2.2.1.of_block (bG NG.out.2.2.1)) LL.out.2.2.1 mN.1,oQ (RR8.out.2.2.2.of_block (bG NG.out.2.2.2.1)) LL.out.2.2.2 mN.2,?_,?_⟩
 ·intro k h1 h2
  have e1:b1=k:=by injection h1
  have e2:b4=k:=by injection h2
  exact NN.out.2.2.2.2.1 (e1.trans e2.symm)
 ·intro k h1 h2
  have e1:b2=k:=by injection h1
  have e2:b3=k:=by injection h2
  exact NN.out.2.2.2.2.2 (e1.trans e2.symm)
theorem dH{P:Program}{f:FuncId}{args:Array Value}{w:World}{r:Ending}(h:Calls P f args w (fun e w'=>e=r/\w'=w)):Calls P f args w (fun e w'=>e=r/\Below w.heap.size w w'):=h.mono (fun e w' q=>⟨q.1,by rw[q.2];exact Below.refl _ _⟩)
theorem localC:LocalC:=by
 intro n gb pc lc cc C pe le ce E ph lh ch H pb lb cb B pw lw cw W pt lt ct T ps ls cs S sky st w hn g h64 hl hk ic ie ih ib iw it is
 have n1:=n12 hn
 have n2:6*n*n<=12*n*n:=Nat.mul_le_mul_right _ (Nat.mul_le_mul_right _ (by decide))
 have n0:0<6*n*n:=Nat.mul_pos (Nat.mul_pos (by decide) hn.1) hn.1
 have CC: ∀v,Ab w v->Calls prog 9 #[.pointer (some ⟨gb,0,none⟩)] v fun e w'=>e=.returned (.int .i64 (6*n*n:Nat))/\Below v.heap.size v w':=fun v a=>dH (dQ (g.to a))
 have CE: ∀v,Ab w v->Calls prog 32 #[.pointer (some ⟨gb,0,none⟩)] v fun e w'=>e=.returned (.int .i64 (12*n*n:Nat))/\Below v.heap.size v w':=fun v a=>dH (cT (g.to a))
 have FY:fit4 n lb lw lt ls-> ∀v,Ab w v->Calls prog 37 #[.pointer (some ⟨gb,0,none⟩),.agg #[.slice pb lb cb,.slice pw lw cw,.slice pt lt ct,.slice ps ls cs,.int .i64 sky,.int .i64 st]] v fun e w'=>e=.returned (.bool true)/\Below v.heap.size v w':=fun f v a=>
  oK gb pb pw pt ps lb cb lw cw lt ct ls cs sky st (6*n*n) (12*n*n) true v (.inr (.inr (.inr ⟨by rw[f.1];simp,by rw[f.2.1];simp,by rw[f.2.2.1];simp,by rw[f.2.2.2];simp⟩))) (hid (fun u b=>CC u (a.trans b))) (hid (fun u b=>CE u (a.trans b)))
 have FN: ¬fit4 n lb lw lt ls-> ∀v,Ab w v->Calls prog 37 #[.pointer (some ⟨gb,0,none⟩),.agg #[.slice pb lb cb,.slice pw lw cw,.slice pt lt ct,.slice ps ls cs,.int .i64 sky,.int .i64 st]] v fun e w'=>e=.returned (.bool false)/\Below v.heap.size v w':=fun f v a=>by
  refine oK gb pb pw pt ps lb cb lw cw lt ct ls cs sky st (6*n*n) (12*n*n) false v ?_ (hid (fun u b=>CC u (a.trans b))) (hid (fun u b=>CE u (a.trans b)))
  have no: ∀x y:Nat,¬x=y->((x:Int)==(y:Int))=false:=fun x y h=>by
   rw[beq_eq_false_iff_ne]
   intro e
   exact h (Int.ofNat.inj e)
  have ye: ∀x y:Nat,x=y->((x:Int)==(y:Int))=true:=fun x y h=>by rw[h];simp
  by_cases q1:lb=6*n*n
  ·by_cases q2:lw=6*n*n
   ·by_cases q3:lt=6*n*n
    ·exact .inr (.inr (.inr ⟨ye _ _ q1,ye _ _ q2,ye _ _ q3,no _ _ (fun q4=>f ⟨q1,q2,q3,q4⟩)⟩))
    ·exact .inr (.inr (.inl ⟨ye _ _ q1,ye _ _ q2,no _ _ q3,rfl⟩))
   ·exact .inr (.inl ⟨ye _ _ q1,no _ _ q2,rfl⟩)
  ·exact .inl ⟨no _ _ q1,rfl⟩
 have WY: ∀(p:Option Addr) (L c N:Nat) (f:Nat->Int),L<=281474976710656->N<=12288->Sh.IsI w p L f->wi L f N-> ∀v,Ab w v->Calls prog 38 #[.slice p L c,.int .i64 (N:Nat)] v fun e w'=>e=.returned (.bool true)/\Below v.heap.size v w':=fun p L c N f h1 h2 i q v a=>dH (kT p L c N f true v h1 h2 (i.below a) ⟨fun _=>q,fun _=>rfl⟩)
 have WN: ∀(p:Option Addr) (L c N:Nat) (f:Nat->Int),L<=281474976710656->N<=12288->Sh.IsI w p L f-> ¬wi L f N-> ∀v,Ab w v->Calls prog 38 #[.slice p L c,.int .i64 (N:Nat)] v fun e w'=>e=.returned (.bool false)/\Below v.heap.size v w':=fun p L c N f h1 h2 i q v a=>dH (kT p L c N f false v h1 h2 (i.below a) ⟨fun h=>(by cases h),fun h=>absurd h q⟩)
 refine⟨fun hf=> ?_,fun hf=> ?_⟩
 ·obtain⟨f4,w1,w2,w3⟩:=hf
  have F4:=FY f4
  obtain⟨e1,e2,e3,e4⟩:=f4
  obtain⟨-,qb,ob,rfl,-⟩:=ib 0 (by omega)
  obtain⟨-,qw,ow',rfl,-⟩:=iw 0 (by omega)
  obtain⟨-,qt,ot,rfl,-⟩:=it 0 (by omega)
  obtain⟨-,qs,os,rfl,-⟩:=is 0 (by omega)
  rw[e1]at ib F4 ⊢
  rw[e2]at iw F4 ⊢
  rw[e3]at it F4 ⊢
  rw[e4]at is F4 ⊢
  exact local_go gb (6*n*n) (12*n*n) pc lc cc pe le ce ph lh ch C E H qb ob cb qw ow' cw qt ot ct qs os cs B W T S sky st w (hid ⟨⟨n0,by omega⟩,by omega,n1⟩) (hid hl) (hid F4) (hid CC) (hid CE) (hid (WY pc lc cc _ C hl.1 (by omega) ic w1)) (hid (WY ph lh ch _ H hl.2.2 (by omega) ih w2)) (hid (WY pe le ce _ E hl.2.1 n1 ie w3)) (hid ic) (hid ie) (hid ih) (hid w1) (hid w3) (hid w2) (hid ib) (hid iw) (hid it) (hid is)
 ·by_cases q0:fit4 n lb lw lt ls
  ·by_cases q1:wi lc C (6*n*n)
   ·by_cases q2:wi lh H (6*n*n)
    ·have q3: ¬wi le E (12*n*n):=fun q=>hf ⟨q0,q1,q2,q⟩
     exact local_3 gb pc lc cc pe le ce ph lh ch pb lb cb pw lw cw pt lt ct ps ls cs sky st (6*n*n) (12*n*n) w (hid (FY q0)) (hid CC) (hid (WY pc lc cc _ C hl.1 (by omega) ic q1)) (hid (WY ph lh ch _ H hl.2.2 (by omega) ih q2)) (hid CE) (hid (WN pe le ce _ E hl.2.1 n1 ie q3))
    ·exact local_2 gb pc lc cc pe le ce ph lh ch pb lb cb pw lw cw pt lt ct ps ls cs sky st (6*n*n) w (hid (FY q0)) (hid CC) (hid (WY pc lc cc _ C hl.1 (by omega) ic q1)) (hid (WN ph lh ch _ H hl.2.2 (by omega) ih q2))
   ·exact local_1 gb pc lc cc pe le ce ph lh ch pb lb cb pw lw cw pt lt ct ps ls cs sky st (6*n*n) w (hid (FY q0)) (hid CC) (hid (WN pc lc cc _ C hl.1 (by omega) ic q1))
  ·exact local_0 gb pc lc cc pe le ce ph lh ch pb lb cb pw lw cw pt lt ct ps ls cs sky st w (hid (FN q0))
end Spl
end
section
open Go.ChangeShapes Go.WideShapes Go.ChangeAt Go.WideMaps Go.WideElems Go.RowKit Go.Deep
theorem array6'{c:Array Value}(h:c.size=6): ∃v0 v1 v2 v3 v4 v5,c= #[v0,v1,v2,v3,v4,v5]:=by
 rcases c with⟨l⟩
 match l,h with
 | [v0,v1,v2,v3,v4,v5],_=>exact⟨v0,v1,v2,v3,v4,v5,rfl⟩
end
section
open Go.ChangeShapes Go.WideShapes Go.ChangeAt Go.WideMaps Go.WideElems Go.RowKit Go.Deep
namespace Sh
theorem trod_int{H:Type}{enc:TypeId × Value->H}{P:Program}{w:World}{base:Nat}{spare:Nat->Bool}{held:Bool}{t:TypeId}{fuel:Nat}{v:Value}{x:DataW H × List MemPlace}(ht:P.underlying t=some (.int .i64))(h:DataW.trod enc P w base spare held fuel t [v]=some x):
  ∃b,v=.int .i64 b/\(-9223372036854775808<=b/\b<=9223372036854775807):=by
 obtain⟨k,e,_,wf⟩:=DataW.trod_int ht h
 simp at e
 simp only[Lit.wf,Bool.and_eq_true,decide_eq_true_eq]at wf
 have q1:IntKind.i64.min= -9223372036854775808:=by decide
 have q2:IntKind.i64.max=9223372036854775807:=by decide
 rw[q1,q2]at wf
 exact⟨k,e,wf⟩
theorem qT{w:World}{a:Addr}{v:Value}(h:w.cell? a=some v):a.block<w.heap.size:=by
 by_cases c:a.block<w.heap.size
 ·exact c
 ·exfalso
  have:w.heap[a.block]? =none:=by simp;omega
  simp[World.cell?,this]at h
theorem lZ{α:Type}{n:Nat}{R:Nat->α->Prop}(d:α)(h: ∀i,i<n-> ∃x,R i x): ∃f:Nat->α,∀i,i<n->R i (f i):=by
 have: ∀i,∃x,i<n->R i x:=fun i=>by
  by_cases c:i<n
  ·obtain⟨x,h1⟩:=h i c
   exact⟨x,fun _=>h1⟩
  ·exact⟨d,fun h=>absurd h c⟩
 exact⟨fun i=>(this i).choose,fun i hi=>(this i).choose_spec hi⟩
theorem kX{H:Type}{enc:TypeId × Value->H}{W:World}{cs:List Value}{fuel:Nat}{x:DataW H × List MemPlace}
  (hf:DataW.trod enc prog W 0 (fun _=>true) true fuel 39 cs=some x): ∃a0 len cap xs,cs=[.slice a0 len cap]/\IsI W a0 len xs/\len<=cap/\cap<=maxLen:=by
 rcases open_slice1 underlying39 (by kernel_rfl) hf with⟨hcs,_⟩ | ⟨a,l,c,m,n,V,D,Pl,hcs,_,hl,hm,hmm,_,hx⟩
 ·exact⟨none,0,0,fun _=>0,hcs,fun k hk=>by omega,Nat.le_refl _,Nat.zero_le _⟩
 ·simp only[if_true]at hmm
  have each: ∀i,i<l-> ∃x:Int,W.cell? (a.add i)=some (.int .i64 x)/\(-9223372036854775808<=x/\x<=9223372036854775807):=by
   intro i hi
   obtain⟨h1,h2⟩:=hx i (by omega)
   obtain⟨x,e,wx⟩:=trod_int underlying2 h2
   rw[e]at h1
   exact⟨x,h1,wx⟩
  obtain⟨f,hf⟩:=lZ 0 each
  refine⟨some a,l,c,f,hcs,fun k hk=>⟨(hf k hk).2,?_⟩,hl,hm⟩
  have h0:=(hf k hk).1
  have z:=(hf 0 (by omega)).1
  obtain⟨b,off,spot⟩:=a
  have hspot:spot=none:=by simpa [Addr.add]using World.cell?_spot z
  subst hspot
  rw[mA]at h0
  exact⟨b,off,rfl,qT h0,h0⟩
end Sh
end
section
open Go.ChangeShapes Go.WideShapes Go.ChangeAt Go.WideMaps Go.WideElems Go.RowKit Tf Cu Go.Deep
namespace Spl
theorem pK{H:Type}{P:Program}{ts:List TypeId}{ds:List (DataW H)}(h:(DataW.weightsEach P ts ds).all (· <=reachBytes)=true){j:Nat}{t:TypeId}{fs:Array Field}{parts:List (DataW H)}(ht:ts[j]? =some t)(hd:ds[j]? =some (.agg parts))(hu:P.underlying t=some (.struct fs)):
  (DataW.weightsEach P (fs.toList.map (·.type)) parts).all (· <=reachBytes)=true:=by
 refine List.all_eq_true.2 (fun n hn=> ?_)
 exact List.all_eq_true.1 h _ (DataW.weights_mem_each ht hd n (by simpa [DataW.weights,hu]using hn))
theorem pM:Tryd.prog.bytesOf 45=8:=by kernel_rfl
theorem pN:Tryd.prog.bytesOf 2=8:=by kernel_rfl
theorem dI{H:Type}{enc:TypeId × Value->H}{W:World}{T E:TypeId}{a0:Option Addr}{len0 cap0:Nat}{fuel:Nat}{x:DataW H × List MemPlace}(hu:Tryd.prog.underlying T=some (.slice E))(h1:Tryd.prog.cellsOf E=1)
  (hf:DataW.trod enc prog W 0 (fun _=>true) true fuel T [.slice a0 len0 cap0]=some x) (hs: ∀elems spare,x.1=.slice elems spare->(elems.length+spare.length)*8<=reachBytes):len0<=281474976710656:=by
 rcases Go.Deep.open_slice1 hu h1 hf with⟨hcs,_⟩ | ⟨a,l,c,m,n,V,D,Pl,hcs,_,hl,hm,hmm,hx,_⟩
 ·simp at hcs
  obtain⟨rfl,rfl,rfl⟩:=hcs
  exact Nat.zero_le _
 ·simp at hcs
  obtain⟨rfl,rfl,rfl⟩:=hcs
  simp only[if_true]at hmm
  subst hmm
  have:=hs _ _ (by rw[hx])
  simp only[List.length_map,List.length_range,reachBytes]at this
  omega
theorem qU{H:Type}{enc:TypeId × Value->H}{W:World}{r:Reach}{b0:Nat}{v:Value}{d:DataW H}{p:List MemPlace}(hv:Value.okWide prog W r b0 41 v)(h:DataW.Trod enc prog W 0 (fun _=>true) true 41 v d p)
  (hz: ∀parts,d=.agg parts->(DataW.weightsEach prog [38,39,39,38,2,3] parts).all (· <=reachBytes)=true):
  ∃pb lb cb B pw lw cw Wt pt lt ct Tr ps ls cs Sp sky st,v=.agg #[.slice pb lb cb,.slice pw lw cw,.slice pt lt ct,.slice ps ls cs,.int .i64 sky,.int .i64 st]/\(IsFl W pb lb B/\Sh.IsI W pw lw Wt/\Sh.IsI W pt lt Tr/\IsFl W ps ls Sp)/\(lb<=281474976710656/\lw<=281474976710656/\lt<=281474976710656/\ls<=281474976710656)/\W64 sky/\W64 st:=by
 have hC:Tryd.prog.cellsOf 41=6:=by kernel_rfl
 have k0:Tryd.prog.cellsOf 38=1:=by kernel_rfl
 have k1:Tryd.prog.cellsOf 39=1:=by kernel_rfl
 have k2:Tryd.prog.cellsOf 2=1:=by kernel_rfl
 have k3:Tryd.prog.cellsOf 3=1:=by kernel_rfl
 obtain⟨cs,rfl,hsz⟩:=okWide_struct underlying41 hv
 obtain⟨v0,v1,v2,v3,v4,v5,rfl⟩:=array6' (hsz.trans hC)
 obtain⟨fuel,hf⟩:=h
 have hf':DataW.trod enc prog W 0 (fun _=>true) true fuel 41 [v0,v1,v2,v3,v4,v5]=some (d,p):=by simpa [Value.cells]using hf
 obtain⟨xs,m,_,hx,hlen,hn,hel⟩:=DataW.trod_struct underlying41 hf'
 match xs,hn with
 | [x0,x1,x2,x3,x4,x5],_=>
  have h0:=hel 0 _ rfl
  have h1:=hel 1 _ rfl
  have h2:=hel 2 _ rfl
  have h3:=hel 3 _ rfl
  have h4:=hel 4 _ rfl
  have h5:=hel 5 _ rfl
  simp[k0,k1,k2,k3]at h0 h1 h2 h3 h4 h5
  have hzz:=hz _ (congrArg Prod.fst hx)
  obtain⟨pb,lb,cb,B,e0,i0,-,-⟩:=kQ h0
  obtain⟨pw,lw,cw,Wt,e1,i1,-,-⟩:=Sh.kX h1
  obtain⟨pt,lt,ct,Tr,e2,i2,-,-⟩:=Sh.kX h2
  obtain⟨ps,ls,cs,Sp,e3,i3,-,-⟩:=kQ h3
  obtain⟨sky,e4,g4⟩:=Sh.trod_int underlying2 h4
  obtain⟨st,e5,g5⟩:=Sh.trod_int underlying3 h5
  simp at e0 e1 e2 e3
  subst e0 e1 e2 e3 e4 e5
  exact⟨pb,lb,cb,B,pw,lw,cw,Wt,pt,lt,ct,Tr,ps,ls,cs,Sp,sky,st,rfl,⟨i0,i1,i2,i3⟩,⟨dI underlying38 (by kernel_rfl) h0 (fun elems spare e=>by have q:=sized_slice hzz (j:=0) (t:=38) (e:=45) (elems:=elems) (spare:=spare) rfl (by rw[<- e];rfl) underlying38;rw[pM]at q;exact q),dI underlying39 (by kernel_rfl) h1 (fun elems spare e=>by have q:=sized_slice hzz (j:=1) (t:=39) (e:=2) (elems:=elems) (spare:=spare) rfl (by rw[<- e];rfl) underlying39;rw[pN]at q;exact q),dI underlying39 (by kernel_rfl) h2 (fun elems spare e=>by have q:=sized_slice hzz (j:=2) (t:=39) (e:=2) (elems:=elems) (spare:=spare) rfl (by rw[<- e];rfl) underlying39;rw[pN]at q;exact q),dI underlying38 (by kernel_rfl) h3 (fun elems spare e=>by have q:=sized_slice hzz (j:=3) (t:=38) (e:=45) (elems:=elems) (spare:=spare) rfl (by rw[<- e];rfl) underlying38;rw[pM]at q;exact q)⟩,g4,g5⟩
end Spl
end
section
open Go.ChangeShapes Go.WideShapes Go.ChangeAt Go.WideMaps Go.WideElems Go.RowKit Cu
theorem own:ownKnob Tryd.prog.godebug=none:=by kernel_rfl
theorem gFrames:Tryd.prog.globalNamed "tarn/cube.frames" =some 1:=by kernel_rfl
theorem tFrames:(Tryd.prog.globals[1]?).map (·.type)=some 104:=by kernel_rfl
theorem door_met(os:Os)(args:Array Value):laidMetH prog [("tarn/cube.frames",Rows.laid_tarn_cube_frames)] ((World.doorLaid prog 400 os).forCall (fun _ _=>0) ⟨#[],args,[]⟩).memory:=
 laidMetH_of_parts3 (fuel:=8) (laidMet_of_run' 8 (by kernel_rfl) (by kernel_rfl)) (by kernel_rfl) (by kernel_rfl)
theorem mP{H:Type}{enc:TypeId × Value->H}{w:World}{base fuel:Nat}{spare:Nat->Bool}{held:Bool}{cs:List Value}{x:DataW H × List MemPlace}(h:DataW.trod enc prog w base spare held fuel 96 cs=some x)
  (a b c:Int) (e:x.1=.agg [.lit (.int .i64 a),.lit (.int .i64 b),.lit (.int .i64 c)]):cs=[.int .i64 a,.int .i64 b,.int .i64 c]:=by
 have k3:Tryd.prog.cellsOf 3=1:=by kernel_rfl
 have kp:Tryd.prog.cellsOf 96=3:=by kernel_rfl
 obtain⟨xs,m,_,hx,hlen,hn,hel⟩:=DataW.trod_array underlying96 h
 rw[hx]at e
 match xs,hn,cs,hlen.trans kp with
 | [x0,x1,x2],_,[c0,c1,c2],_=>
  have h0:=hel 0 (by decide)
  have h1:=hel 1 (by decide)
  have h2:=hel 2 (by decide)
  simp[k3]at h0 h1 h2
  obtain⟨n0,e0,f0,_⟩:=DataW.trod_int underlying3 h0
  obtain⟨n1,e1,f1,_⟩:=DataW.trod_int underlying3 h1
  obtain⟨n2,e2,f2,_⟩:=DataW.trod_int underlying3 h2
  simp at e0 e1 e2
  simp[f0,f1,f2]at e
  rw[e0,e1,e2,e.1,e.2.1,e.2.2]
theorem bS{H:Type}{enc:TypeId × Value->H}{w:World}{base fuel:Nat}{spare:Nat->Bool}{held:Bool}{cs:List Value}{x:DataW H × List MemPlace}(h:DataW.trod enc prog w base spare held fuel 103 cs=some x)
  (p q r:P3) (e:x.1=.agg [.agg [.lit (.int .i64 p.1),.lit (.int .i64 p.2.1),.lit (.int .i64 p.2.2)],.agg [.lit (.int .i64 q.1),.lit (.int .i64 q.2.1),.lit (.int .i64 q.2.2)],.agg [.lit (.int .i64 r.1),.lit (.int .i64 r.2.1),.lit (.int .i64 r.2.2)]]):
  cs=[.int .i64 p.1,.int .i64 p.2.1,.int .i64 p.2.2,.int .i64 q.1,.int .i64 q.2.1,.int .i64 q.2.2,.int .i64 r.1,.int .i64 r.2.1,.int .i64 r.2.2]:=by
 have kp:Tryd.prog.cellsOf 96=3:=by kernel_rfl
 have kf:Tryd.prog.cellsOf 103=9:=by kernel_rfl
 obtain⟨xs,m,_,hx,hlen,hn,hel⟩:=DataW.trod_struct underlying103 h
 rw[hx]at e
 match xs,hn,cs,hlen.trans kf with
 | [x0,x1,x2],_,[c0,c1,c2,c3,c4,c5,c6,c7,c8],_=>
  have h0:=hel 0 _ rfl
  have h1:=hel 1 _ rfl
  have h2:=hel 2 _ rfl
  simp[kp]at h0 h1 h2
  simp at e
  have e0:=mP h0 _ _ _ e.1
  have e1:=mP h1 _ _ _ e.2.1
  have e2:=mP h2 _ _ _ e.2.2
  simp at e0 e1 e2
  simp[e0,e1,e2]
theorem qV{H:Type}{enc:TypeId × Value->H}{w:World}{base fuel:Nat}{spare:Nat->Bool}{held:Bool}{cs:List Value}{x:DataW H × List MemPlace}(h:DataW.trod enc prog w base spare held fuel 104 cs=some x)
  (e:x.1=Rows.laid_tarn_cube_frames): ∀f,f<6->(cs.drop (f*9)).take 9=[.int .i64 (cC f).1,.int .i64 (cC f).2.1,.int .i64 (cC f).2.2,.int .i64 (cR f).1,.int .i64 (cR f).2.1,.int .i64 (cR f).2.2,.int .i64 (cU f).1,.int .i64 (cU f).2.1,.int .i64 (cU f).2.2]:=by
 have kf:Tryd.prog.cellsOf 103=9:=by kernel_rfl
 obtain⟨xs,m,_,hx,hlen,hn,hel⟩:=DataW.trod_array underlying104 h
 rw[hx]at e
 intro f hf
 have h0:=hel f hf
 rw[kf]at h0
 match xs,hn with
 | [x0,x1,x2,x3,x4,x5],_=>
  simp only[List.map_cons,List.map_nil,Rows.laid_tarn_cube_frames,DataW.agg.injEq,List.cons.injEq]at e
  rcases six hf with rfl | rfl | rfl | rfl | rfl | rfl
  ·exact bS h0 (cC 0) (cR 0) (cU 0) e.1
  ·exact bS h0 (cC 1) (cR 1) (cU 1) e.2.1
  ·exact bS h0 (cC 2) (cR 2) (cU 2) e.2.2.1
  ·exact bS h0 (cC 3) (cR 3) (cU 3) e.2.2.2.1
  ·exact bS h0 (cC 4) (cR 4) (cU 4) e.2.2.2.2.1
  ·exact bS h0 (cC 5) (cR 5) (cU 5) e.2.2.2.2.2.1
theorem of_laid{W:World}(h:laidMetH prog [("tarn/cube.frames",Rows.laid_tarn_cube_frames)] W):Fr W:=by
 rw[MakeChecks.laidMetH_plain _ _ _ (by kernel_rfl)]at h
 obtain⟨ps,⟨g0,t0,cs0,f0,p0,q0,hg0,ht0,hv0,hd0,_⟩,_⟩:=h
 obtain rfl:=Option.some.inj (gFrames.symm.trans hg0)
 obtain rfl:=Option.some.inj (tFrames.symm.trans ht0)
 have T:=qV hd0 rfl
 have C:=World.var?_cell hg0 hv0
 have K: ∀f,f<6-> ∀k,k<9->W.cell? ⟨1,f*9+k,none⟩=((cs0.toList.drop (f*9)).take 9)[k]? :=by
  intro f hf k hk
  rw[C,List.getElem?_take,if_pos hk,List.getElem?_drop]
  simp
 have N: ∀f,f<6->Fr9 W f:=by
  intro f hf
  have K:=K f hf
  rw[T f hf]at K
  exact⟨⟨K 0 (by omega),K 1 (by omega),K 2 (by omega)⟩,⟨K 3 (by omega),K 4 (by omega),K 5 (by omega)⟩,⟨K 6 (by omega),K 7 (by omega),K 8 (by omega)⟩⟩
 refine⟨?_,N⟩
 have c0:=(N 0 (by omega)).1.1
 rcases Nat.lt_or_ge 1 W.heap.size with h1 | h1
 ·exact h1
 ·rw[World.cell?,Array.getElem?_eq_none h1]at c0;cases c0
end
end Go.Proofs.YtjheiemgfibgpaaDoor
