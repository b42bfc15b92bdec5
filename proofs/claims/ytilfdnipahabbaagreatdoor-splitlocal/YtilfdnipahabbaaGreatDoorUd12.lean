/-
  Some of the texts of this proof, one behind the other.
-/
import Derived.Deep.QuietTactic
import Derived.Deep.RegionHeld3
import Derived.Deep.AppendLies
import Derived.OwnWalk
import Derived.Test.YtilfdnipahabbaaGreatDoorUd11
set_option maxRecDepth 100000
set_option maxHeartbeats 400000000
namespace Go.Proofs.YtilfdnipahabbaaGreatDoor
open _root_.Go.Proofs.Tryz
section
open Go.RowKit Tf Cu Go.Deep
attribute [local go_sem] aD
namespace Spl
theorem local_go(gb N M:Nat)(pc:Option Addr)(lc cc:Nat)(pe:Option Addr)(le ce:Nat)(ph:Option Addr)(lh ch:Nat)(C E H:Nat->Int)(qb ob cb qw ow cw qt ot ct qs os cs:Nat)(B:Nat->Nat)(Wt T:Nat->Int)(S:Nat->Nat)(sky st:Int)(w:World)
  (HN:Hid ((0<N/\N<=12288)/\(0<M/\M<=12288))) (HL:Hid (lc<=281474976710656/\le<=281474976710656/\lh<=281474976710656))
  (CF:Hid (∀v,Ab w v->Calls prog 14 #[.pointer (some ⟨gb,0,none⟩),.agg #[.slice (some ⟨qb,ob,none⟩) N cb,.slice (some ⟨qw,ow,none⟩) N cw,.slice (some ⟨qt,ot,none⟩) N ct,.slice (some ⟨qs,os,none⟩) M cs,.int .i64 sky,.int .i64 st]] v fun e w'=>e=.returned (.bool true)/\Below v.heap.size v w'))
  (CC:Hid (∀v,Ab w v->Calls prog 16 #[.pointer (some ⟨gb,0,none⟩)] v fun e w'=>e=.returned (.int .i64 (N:Nat))/\Below v.heap.size v w'))
  (CE:Hid (∀v,Ab w v->Calls prog 17 #[.pointer (some ⟨gb,0,none⟩)] v fun e w'=>e=.returned (.int .i64 (M:Nat))/\Below v.heap.size v w'))
  (C1:Hid (∀v,Ab w v->Calls prog 15 #[.slice pc lc cc,.int .i64 (N:Nat)] v fun e w'=>e=.returned (.bool true)/\Below v.heap.size v w'))
  (C2:Hid (∀v,Ab w v->Calls prog 15 #[.slice ph lh ch,.int .i64 (N:Nat)] v fun e w'=>e=.returned (.bool true)/\Below v.heap.size v w'))
  (C3:Hid (∀v,Ab w v->Calls prog 15 #[.slice pe le ce,.int .i64 (M:Nat)] v fun e w'=>e=.returned (.bool true)/\Below v.heap.size v w'))
  (IC:Hid (Sh.IsI w pc lc C)) (IE:Hid (Sh.IsI w pe le E)) (IH:Hid (Sh.IsI w ph lh H)) (WC:Hid (wi lc C N)) (WE:Hid (wi le E M)) (WH:Hid (wi lh H N))
  (I4:Hid (IsFl w (some ⟨qb,ob,none⟩) N B)) (I5:Hid (Sh.IsI w (some ⟨qw,ow,none⟩) N Wt)) (I6:Hid (Sh.IsI w (some ⟨qt,ot,none⟩) N T)) (I7:Hid (IsFl w (some ⟨qs,os,none⟩) M S)):
  Calls prog 5 #[.pointer (some ⟨gb,0,none⟩),.agg #[.slice pc lc cc,.slice pe le ce,.slice ph lh ch],.agg #[.slice (some ⟨qb,ob,none⟩) N cb,.slice (some ⟨qw,ow,none⟩) N cw,.slice (some ⟨qt,ot,none⟩) N ct,.slice (some ⟨qs,os,none⟩) M cs,.int .i64 sky,.int .i64 st]] w fun e w'=> ∃v,e=.returned (.tuple #[v,.int .i64 0])/\Below w.heap.size w w'/\OwnS w.heap.size v N N N M (shB (mk2 lc lh C H) B) (shW (mk2 lc lh C H) Wt) (shW (mk2 lc lh C H) T) (shB (hs le E) S) 0 st w':=by
 have C4:Hid (∀v x,Ab w v->(fun(x:Ch.Ix) (w':World)=> ∃b,x=(some b,2)/\w'.heap[b]? =some (.cells #[.slice pc lc cc,.slice ph lh ch] 22)) x v->Calls prog 18 #[.slice (some ⟨qb,ob,none⟩) N cb,mkS 2 x] v (fun e w2=> ∃y,e=.returned (mkS N y)/\Ab v w2/\(∀b,y.1=some b->v.heap.size<=b/\b<w2.heap.size)/\(fun(x:Ch.Ix) (w':World)=> ∃b,x=(some b,N)/\w.heap.size<=b/\w'.rowIs b 53 N (fun i=>.float .f64 (shB (mk2 lc lh C H) B i))) y w2)):=by
  rintro v x av ⟨b,rfl,hb⟩
  refine(oX b 2 N qb ob cb (fun j=>if j=0 then pc else ph) (fun j=>if j=0 then lc else lh) (fun j=>if j=0 then cc else ch) (fun j=>if j=0 then C else H) B v HN.out.1 (by decide) (hid (fun j hj=> ?_)) (hid (I4.out.below av))).mono ?_
  ·match j,hj with
   | 0,_=>exact⟨HL.out.1,aA 0 hb,lt_of_block hb,IC.out.below av,WC.out⟩
   | 1,_=>exact⟨HL.out.2.2,aA 1 hb,lt_of_block hb,IH.out.below av,WH.out⟩
  ·rintro e w2 ⟨y,rfl,a2,l2,r2⟩
   refine⟨(some y,N),rfl,a2,fun b e=>by injection e with e;subst e;exact⟨l2,r2.lt⟩,y,rfl,Nat.le_trans av.size l2,r2.congr (fun i _=> ?_)⟩
   unfold shB mk2 hsF
   simp[List.range_succ]
 have C5:Hid (∀v x,Ab w v->(fun(x:Ch.Ix) (w':World)=> ∃b,x=(some b,2)/\w'.heap[b]? =some (.cells #[.slice pc lc cc,.slice ph lh ch] 22)) x v->Calls prog 19 #[.slice (some ⟨qw,ow,none⟩) N cw,mkS 2 x] v (fun e w2=> ∃y,e=.returned (mkS N y)/\Ab v w2/\(∀b,y.1=some b->v.heap.size<=b/\b<w2.heap.size)/\(fun(x:Ch.Ix) (w':World)=> ∃b,x=(some b,N)/\w.heap.size<=b/\w'.rowIs b 2 N (fun i=>.int .i64 (shW (mk2 lc lh C H) Wt i))) y w2)):=by
  rintro v x av ⟨b,rfl,hb⟩
  refine(oY b 2 N qw ow cw (fun j=>if j=0 then pc else ph) (fun j=>if j=0 then lc else lh) (fun j=>if j=0 then cc else ch) (fun j=>if j=0 then C else H) Wt v HN.out.1 (by decide) (hid (fun j hj=> ?_)) (hid (I5.out.below av))).mono ?_
  ·match j,hj with
   | 0,_=>exact⟨HL.out.1,aA 0 hb,lt_of_block hb,IC.out.below av,WC.out⟩
   | 1,_=>exact⟨HL.out.2.2,aA 1 hb,lt_of_block hb,IH.out.below av,WH.out⟩
  ·rintro e w2 ⟨y,rfl,a2,l2,r2⟩
   refine⟨(some y,N),rfl,a2,fun b e=>by injection e with e;subst e;exact⟨l2,r2.lt⟩,y,rfl,Nat.le_trans av.size l2,r2.congr (fun i _=> ?_)⟩
   unfold shW mk2 hsF
   simp[List.range_succ]
 have C6:Hid (∀v x,Ab w v->(fun(x:Ch.Ix) (w':World)=> ∃b,x=(some b,2)/\w'.heap[b]? =some (.cells #[.slice pc lc cc,.slice ph lh ch] 22)) x v->Calls prog 19 #[.slice (some ⟨qt,ot,none⟩) N ct,mkS 2 x] v (fun e w2=> ∃y,e=.returned (mkS N y)/\Ab v w2/\(∀b,y.1=some b->v.heap.size<=b/\b<w2.heap.size)/\(fun(x:Ch.Ix) (w':World)=> ∃b,x=(some b,N)/\w.heap.size<=b/\w'.rowIs b 2 N (fun i=>.int .i64 (shW (mk2 lc lh C H) T i))) y w2)):=by
  rintro v x av ⟨b,rfl,hb⟩
  refine(oY b 2 N qt ot ct (fun j=>if j=0 then pc else ph) (fun j=>if j=0 then lc else lh) (fun j=>if j=0 then cc else ch) (fun j=>if j=0 then C else H) T v HN.out.1 (by decide) (hid (fun j hj=> ?_)) (hid (I6.out.below av))).mono ?_
  ·match j,hj with
   | 0,_=>exact⟨HL.out.1,aA 0 hb,lt_of_block hb,IC.out.below av,WC.out⟩
   | 1,_=>exact⟨HL.out.2.2,aA 1 hb,lt_of_block hb,IH.out.below av,WH.out⟩
  ·rintro e w2 ⟨y,rfl,a2,l2,r2⟩
   refine⟨(some y,N),rfl,a2,fun b e=>by injection e with e;subst e;exact⟨l2,r2.lt⟩,y,rfl,Nat.le_trans av.size l2,r2.congr (fun i _=> ?_)⟩
   unfold shW mk2 hsF
   simp[List.range_succ]
 have C7:Hid (∀v x,Ab w v->(fun(x:Ch.Ix) (w':World)=> ∃b,x=(some b,1)/\w'.heap[b]? =some (.cells #[.slice pe le ce] 22)) x v->Calls prog 18 #[.slice (some ⟨qs,os,none⟩) M cs,mkS 1 x] v (fun e w2=> ∃y,e=.returned (mkS M y)/\Ab v w2/\(∀b,y.1=some b->v.heap.size<=b/\b<w2.heap.size)/\(fun(x:Ch.Ix) (w':World)=> ∃b,x=(some b,M)/\w.heap.size<=b/\w'.rowIs b 53 M (fun i=>.float .f64 (shB (hs le E) S i))) y w2)):=by
  rintro v x av ⟨b,rfl,hb⟩
  refine(oX b 1 M qs os cs (fun _=>pe) (fun _=>le) (fun _=>ce) (fun _=>E) S v HN.out.2 (by decide) (hid (fun j hj=> ?_)) (hid (I7.out.below av))).mono ?_
  ·match j,hj with
   | 0,_=>exact⟨HL.out.2.1,aA 0 hb,lt_of_block hb,IE.out.below av,WE.out⟩
  ·rintro e w2 ⟨y,rfl,a2,l2,r2⟩
   refine⟨(some y,M),rfl,a2,fun b e=>by injection e with e;subst e;exact⟨l2,r2.lt⟩,y,rfl,Nat.le_trans av.size l2,r2.congr (fun i _=> ?_)⟩
   unfold shB hsF
   simp[List.range_succ]
 have A0:Hid (Ab w (((w.alloc (.cells #[.slice pc lc cc,.slice pe le ce,.slice ph lh ch] 29)).alloc (.cells #[.slice (some ⟨qb,ob,none⟩) N cb,.slice (some ⟨qw,ow,none⟩) N cw,.slice (some ⟨qt,ot,none⟩) N ct,.slice (some ⟨qs,os,none⟩) M cs,.int .i64 sky,.int .i64 st] 26)).alloc (.cells #[.slice none 0 0,.slice none 0 0,.slice none 0 0,.slice none 0 0,.int .i64 0,.int .i64 0] 26))):=Ab.trans (bl2 _ _ _) (bl1 _ _)
 have P0:Hid ((((w.alloc (.cells #[.slice pc lc cc,.slice pe le ce,.slice ph lh ch] 29)).alloc (.cells #[.slice (some ⟨qb,ob,none⟩) N cb,.slice (some ⟨qw,ow,none⟩) N cw,.slice (some ⟨qt,ot,none⟩) N ct,.slice (some ⟨qs,os,none⟩) M cs,.int .i64 sky,.int .i64 st] 26)).alloc (.cells #[.slice none 0 0,.slice none 0 0,.slice none 0 0,.slice none 0 0,.int .i64 0,.int .i64 0] 26)).heap[w.heap.size]? =some (.cells #[.slice pc lc cc,.slice pe le ce,.slice ph lh ch] 29)):=Ab.heap (bl1 _ _) (heap_alloc2_old _ _ _)
 have S0:Hid ((((w.alloc (.cells #[.slice pc lc cc,.slice pe le ce,.slice ph lh ch] 29)).alloc (.cells #[.slice (some ⟨qb,ob,none⟩) N cb,.slice (some ⟨qw,ow,none⟩) N cw,.slice (some ⟨qt,ot,none⟩) N ct,.slice (some ⟨qs,os,none⟩) M cs,.int .i64 sky,.int .i64 st] 26)).alloc (.cells #[.slice none 0 0,.slice none 0 0,.slice none 0 0,.slice none 0 0,.int .i64 0,.int .i64 0] 26)).heap[w.heap.size+1]? =some (.cells #[.slice (some ⟨qb,ob,none⟩) N cb,.slice (some ⟨qw,ow,none⟩) N cw,.slice (some ⟨qt,ot,none⟩) N ct,.slice (some ⟨qs,os,none⟩) M cs,.int .i64 sky,.int .i64 st] 26)):=Ab.heap (bl1 _ _) (heap_alloc2_new _ _ _)
 have Q0:Hid ((((w.alloc (.cells #[.slice pc lc cc,.slice pe le ce,.slice ph lh ch] 29)).alloc (.cells #[.slice (some ⟨qb,ob,none⟩) N cb,.slice (some ⟨qw,ow,none⟩) N cw,.slice (some ⟨qt,ot,none⟩) N ct,.slice (some ⟨qs,os,none⟩) M cs,.int .i64 sky,.int .i64 st] 26)).alloc (.cells #[.slice none 0 0,.slice none 0 0,.slice none 0 0,.slice none 0 0,.int .i64 0,.int .i64 0] 26)).heap[w.heap.size+1+1]? =some (.cells #[.slice none 0 0,.slice none 0 0,.slice none 0 0,.slice none 0 0,.int .i64 0,.int .i64 0] 26)):=by
  have h:=heap_alloc_new ((w.alloc (.cells #[.slice pc lc cc,.slice pe le ce,.slice ph lh ch] 29)).alloc (.cells #[.slice (some ⟨qb,ob,none⟩) N cb,.slice (some ⟨qw,ow,none⟩) N cw,.slice (some ⟨qt,ot,none⟩) N ct,.slice (some ⟨qs,os,none⟩) M cs,.int .i64 sky,.int .i64 st] 26)) (.cells #[.slice none 0 0,.slice none 0 0,.slice none 0 0,.slice none 0 0,.int .i64 0,.int .i64 0] 26)
  have e:((w.alloc (.cells #[.slice pc lc cc,.slice pe le ce,.slice ph lh ch] 29)).alloc (.cells #[.slice (some ⟨qb,ob,none⟩) N cb,.slice (some ⟨qw,ow,none⟩) N cw,.slice (some ⟨qt,ot,none⟩) N ct,.slice (some ⟨qs,os,none⟩) M cs,.int .i64 sky,.int .i64 st] 26)).heap.size=w.heap.size+1+1:=by rw[bO,bO]
  rw[e]at h
  exact h
 go_enter func5,ntmps5
 go_upto_region 1 with fail
 generalize hW:World.alloc (World.alloc (World.alloc w _) _) _=V0 at*
 obtain⟨gp,hgp⟩:=aB w.heap.size
 obtain⟨gs,hgs⟩:=aB (w.heap.size+1)
 obtain⟨gr,hgr⟩:=aB (w.heap.size+1+1)
 have HG:Hid (w.heap.size<=gr):=by show _<=_;omega
 rw[hgr]at Q0 ⊢
 rw[hgs]at S0 ⊢
 rw[hgp]at P0 ⊢
 clear hgp hgs hgr hW
 go_upto_region 3 with fail
 obtain⟨UU,E,hF1,hF2⟩:=cls V0
 have HU:=hid hF2
 have HU1:=hid hF1
 have HX:Hid (∀u,Ab w (E u)):=fun u=>Ab.trans A0.out (hF1 u)
 have p0: ∀u,(E u).cell? ⟨gp,0,none⟩=some (.slice pc lc cc):=fun u=>aA 0 ((hF1 u).heap P0.out)
 have p1: ∀u,(E u).cell? ⟨gp,1,none⟩=some (.slice pe le ce):=fun u=>aA 1 ((hF1 u).heap P0.out)
 have p2: ∀u,(E u).cell? ⟨gp,2,none⟩=some (.slice ph lh ch):=fun u=>aA 2 ((hF1 u).heap P0.out)
 have s0: ∀u,(E u).cell? ⟨gs,0,none⟩=some (.slice (some ⟨qb,ob,none⟩) N cb):=fun u=>aA 0 ((hF1 u).heap S0.out)
 have s1: ∀u,(E u).cell? ⟨gs,1,none⟩=some (.slice (some ⟨qw,ow,none⟩) N cw):=fun u=>aA 1 ((hF1 u).heap S0.out)
 have s2: ∀u,(E u).cell? ⟨gs,2,none⟩=some (.slice (some ⟨qt,ot,none⟩) N ct):=fun u=>aA 2 ((hF1 u).heap S0.out)
 have s3: ∀u,(E u).cell? ⟨gs,3,none⟩=some (.slice (some ⟨qs,os,none⟩) M cs):=fun u=>aA 3 ((hF1 u).heap S0.out)
 have s4: ∀u,(E u).cell? ⟨gs,4,none⟩=some (.int .i64 sky):=fun u=>aA 4 ((hF1 u).heap S0.out)
 have s5: ∀u,(E u).cell? ⟨gs,5,none⟩=some (.int .i64 st):=fun u=>aA 5 ((hF1 u).heap S0.out)
 have DD0:=HU.out _ (Ab.refl V0).drew
 clear hF1 hF2
 refine aI E (by kernel_rfl) (by kernel_rfl) DD0 ?_
 repeat(go_big_quiet_step (first
  | (with_reducible rfl)
  | (go_at_call 14;exact aC HU HU1 (CF.out _ (HX.out _)))
  | (go_at_call 16;exact aC HU HU1 (CC.out _ (HX.out _)))
  | (go_at_call_of 15 lc;exact aC HU HU1 (C1.out _ (HX.out _)))
  | (go_at_call_of 15 lh;exact aC HU HU1 (C2.out _ (HX.out _)))
  | (go_at_call 17;exact aC HU HU1 (CE.out _ (HX.out _)))
  | (go_at_call_of 15 le;exact aC HU HU1 (C3.out _ (HX.out _)))))
 refine wpQuiet_nil ?_
 intro z hwz
 obtain⟨u0,hu⟩:=hwz
 have AZ:Hid (Ab V0 z):=by rw[hu];exact HU1.out u0
 clear hu u0
 clear HU HU1 HX DD0 p0 p1 p2 s0 s1 s2 s3 s4 s5
 clear E UU
 have A1:Hid (Ab w z):=A0.out.trans AZ.out
 have Q1:=hid (AZ.out.heap Q0.out)
 have P1:=hid (AZ.out.heap P0.out)
 have S1:=hid (AZ.out.heap S0.out)
 clear AZ A0 Q0 P0 S0 CF CC CE C1 C2 C3
 go_upto_region 5 with fail
 obtain⟨UU,E',hF1,hF2⟩:=cls z.drew
 have HU:=hid hF2
 have HU1:=hid hF1
 have p0: ∀u,(E' u).cell? ⟨gp,0,none⟩=some (.slice pc lc cc):=fun u=>aA 0 ((hF1 u).heap P1.out)
 have p1: ∀u,(E' u).cell? ⟨gp,1,none⟩=some (.slice pe le ce):=fun u=>aA 1 ((hF1 u).heap P1.out)
 have p2: ∀u,(E' u).cell? ⟨gp,2,none⟩=some (.slice ph lh ch):=fun u=>aA 2 ((hF1 u).heap P1.out)
 have s0: ∀u,(E' u).cell? ⟨gs,0,none⟩=some (.slice (some ⟨qb,ob,none⟩) N cb):=fun u=>aA 0 ((hF1 u).heap S1.out)
 have s1: ∀u,(E' u).cell? ⟨gs,1,none⟩=some (.slice (some ⟨qw,ow,none⟩) N cw):=fun u=>aA 1 ((hF1 u).heap S1.out)
 have s2: ∀u,(E' u).cell? ⟨gs,2,none⟩=some (.slice (some ⟨qt,ot,none⟩) N ct):=fun u=>aA 2 ((hF1 u).heap S1.out)
 have s3: ∀u,(E' u).cell? ⟨gs,3,none⟩=some (.slice (some ⟨qs,os,none⟩) M cs):=fun u=>aA 3 ((hF1 u).heap S1.out)
 have s4: ∀u,(E' u).cell? ⟨gs,4,none⟩=some (.int .i64 sky):=fun u=>aA 4 ((hF1 u).heap S1.out)
 have s5: ∀u,(E' u).cell? ⟨gs,5,none⟩=some (.int .i64 st):=fun u=>aA 5 ((hF1 u).heap S1.out)
 clear hF1 hF2
 have AL: ∀v:World,(Instr.alloc 26 true (.tuple #[])).run prog v=.ok (.pointer (some ⟨v.heap.size,0,none⟩)) (v.alloc (.cells #[.slice none 0 0,.slice none 0 0,.slice none 0 0,.slice none 0 0,.int .i64 0,.int .i64 0] 26)):=fun v=>by
  simp[go_sem]
 have STB:Ch.Stable (fun k=>if k=6 then some ((fun(x:Ch.Ix) (w':World)=> ∃b,x=(some b,2)/\w'.heap[b]? =some (.cells #[.slice pc lc cc,.slice ph lh ch] 22)),mkS 2)else if k=7 then some ((fun(x:Ch.Ix) (w':World)=> ∃b,x=(some b,N)/\w.heap.size<=b/\w'.rowIs b 53 N (fun i=>.float .f64 (shB (mk2 lc lh C H) B i))),mkS N)else if k=14 then some ((fun(x:Ch.Ix) (w':World)=> ∃b,x=(some b,2)/\w'.heap[b]? =some (.cells #[.slice pc lc cc,.slice ph lh ch] 22)),mkS 2)else if k=15 then some ((fun(x:Ch.Ix) (w':World)=> ∃b,x=(some b,N)/\w.heap.size<=b/\w'.rowIs b 2 N (fun i=>.int .i64 (shW (mk2 lc lh C H) Wt i))),mkS N)else if k=22 then some ((fun(x:Ch.Ix) (w':World)=> ∃b,x=(some b,2)/\w'.heap[b]? =some (.cells #[.slice pc lc cc,.slice ph lh ch] 22)),mkS 2)else if k=23 then some ((fun(x:Ch.Ix) (w':World)=> ∃b,x=(some b,N)/\w.heap.size<=b/\w'.rowIs b 2 N (fun i=>.int .i64 (shW (mk2 lc lh C H) T i))),mkS N)else if k=28 then some ((fun(x:Ch.Ix) (w':World)=> ∃b,x=(some b,1)/\w'.heap[b]? =some (.cells #[.slice pe le ce] 22)),mkS 1)else if k=29 then some ((fun(x:Ch.Ix) (w':World)=> ∃b,x=(some b,M)/\w.heap.size<=b/\w'.rowIs b 53 M (fun i=>.float .f64 (shB (hs le E) S i))),mkS M)else if k=33 then some ((fun(x:Ch.Ix) (w':World)=> ∃b,x=(some b,0)/\w'.heap[b]? =some (.cells #[.slice none 0 0,.slice none 0 0,.slice none 0 0,.slice none 0 0,.int .i64 0,.int .i64 0] 26)),mkP)else none):=fun i R mk h x v v' hr ha=>by
  rcases Nat.decEq i 6 with q6 | q6
  rotate_left
  ·subst q6
   simp only[if_true,Option.some.injEq,Prod.mk.injEq]at h
   obtain⟨h1,h2⟩:=h
   subst h1 h2
   obtain⟨b,e,hb⟩:=hr
   exact⟨b,e,ha.heap hb⟩
  rcases Nat.decEq i 7 with q7 | q7
  rotate_left
  ·subst q7
   simp only[if_true,if_neg (show¬(7:Nat)=6 by decide),Option.some.injEq,Prod.mk.injEq]at h
   obtain⟨h1,h2⟩:=h
   subst h1 h2
   obtain⟨b,e,hl,hb⟩:=hr
   exact⟨b,e,hl,rowIs.ab hb ha⟩
  rcases Nat.decEq i 14 with q14 | q14
  rotate_left
  ·subst q14
   simp only[if_true,if_neg (show¬(14:Nat)=6 by decide),if_neg (show¬(14:Nat)=7 by decide),Option.some.injEq,Prod.mk.injEq]at h
   obtain⟨h1,h2⟩:=h
   subst h1 h2
   obtain⟨b,e,hb⟩:=hr
   exact⟨b,e,ha.heap hb⟩
  rcases Nat.decEq i 15 with q15 | q15
  rotate_left
  ·subst q15
   simp only[if_true,if_neg (show¬(15:Nat)=6 by decide),if_neg (show¬(15:Nat)=7 by decide),if_neg (show¬(15:Nat)=14 by decide),Option.some.injEq,Prod.mk.injEq]at h
   obtain⟨h1,h2⟩:=h
   subst h1 h2
   obtain⟨b,e,hl,hb⟩:=hr
   exact⟨b,e,hl,rowIs.ab hb ha⟩
  rcases Nat.decEq i 22 with q22 | q22
  rotate_left
  ·subst q22
   simp only[if_true,if_neg (show¬(22:Nat)=6 by decide),if_neg (show¬(22:Nat)=7 by decide),if_neg (show¬(22:Nat)=14 by decide),if_neg (show¬(22:Nat)=15 by decide),Option.some.injEq,Prod.mk.injEq]at h
   obtain⟨h1,h2⟩:=h
   subst h1 h2
   obtain⟨b,e,hb⟩:=hr
   exact⟨b,e,ha.heap hb⟩
  rcases Nat.decEq i 23 with q23 | q23
  rotate_left
  ·subst q23
   simp only[if_true,if_neg (show¬(23:Nat)=6 by decide),if_neg (show¬(23:Nat)=7 by decide),if_neg (show¬(23:Nat)=14 by decide),if_neg (show¬(23:Nat)=15 by decide),if_neg (show¬(23:Nat)=22 by decide),Option.some.injEq,Prod.mk.injEq]at h
   obtain⟨h1,h2⟩:=h
   subst h1 h2
   obtain⟨b,e,hl,hb⟩:=hr
   exact⟨b,e,hl,rowIs.ab hb ha⟩
  rcases Nat.decEq i 28 with q28 | q28
  rotate_left
  ·subst q28
   simp only[if_true,if_neg (show¬(28:Nat)=6 by decide),if_neg (show¬(28:Nat)=7 by decide),if_neg (show¬(28:Nat)=14 by decide),if_neg (show¬(28:Nat)=15 by decide),if_neg (show¬(28:Nat)=22 by decide),if_neg (show¬(28:Nat)=23 by decide),Option.some.injEq,Prod.mk.injEq]at h
   obtain⟨h1,h2⟩:=h
   subst h1 h2
   obtain⟨b,e,hb⟩:=hr
   exact⟨b,e,ha.heap hb⟩
  rcases Nat.decEq i 29 with q29 | q29
  rotate_left
  ·subst q29
   simp only[if_true,if_neg (show¬(29:Nat)=6 by decide),if_neg (show¬(29:Nat)=7 by decide),if_neg (show¬(29:Nat)=14 by decide),if_neg (show¬(29:Nat)=15 by decide),if_neg (show¬(29:Nat)=22 by decide),if_neg (show¬(29:Nat)=23 by decide),if_neg (show¬(29:Nat)=28 by decide),Option.some.injEq,Prod.mk.injEq]at h
   obtain⟨h1,h2⟩:=h
   subst h1 h2
   obtain⟨b,e,hl,hb⟩:=hr
   exact⟨b,e,hl,rowIs.ab hb ha⟩
  rcases Nat.decEq i 33 with q33 | q33
  rotate_left
  ·subst q33
   simp only[if_true,if_neg (show¬(33:Nat)=6 by decide),if_neg (show¬(33:Nat)=7 by decide),if_neg (show¬(33:Nat)=14 by decide),if_neg (show¬(33:Nat)=15 by decide),if_neg (show¬(33:Nat)=22 by decide),if_neg (show¬(33:Nat)=23 by decide),if_neg (show¬(33:Nat)=28 by decide),if_neg (show¬(33:Nat)=29 by decide),Option.some.injEq,Prod.mk.injEq]at h
   obtain⟨h1,h2⟩:=h
   subst h1 h2
   obtain⟨b,e,hb⟩:=hr
   exact⟨b,e,ha.heap hb⟩
  simp only[if_neg q6,if_neg q7,if_neg q14,if_neg q15,if_neg q22,if_neg q23,if_neg q28,if_neg q29,if_neg q33]at h
  cases h
 refine Ch.dD 34 (fun k=>if k=6 then some ((fun(x:Ch.Ix) (w':World)=> ∃b,x=(some b,2)/\w'.heap[b]? =some (.cells #[.slice pc lc cc,.slice ph lh ch] 22)),mkS 2)else if k=7 then some ((fun(x:Ch.Ix) (w':World)=> ∃b,x=(some b,N)/\w.heap.size<=b/\w'.rowIs b 53 N (fun i=>.float .f64 (shB (mk2 lc lh C H) B i))),mkS N)else if k=14 then some ((fun(x:Ch.Ix) (w':World)=> ∃b,x=(some b,2)/\w'.heap[b]? =some (.cells #[.slice pc lc cc,.slice ph lh ch] 22)),mkS 2)else if k=15 then some ((fun(x:Ch.Ix) (w':World)=> ∃b,x=(some b,N)/\w.heap.size<=b/\w'.rowIs b 2 N (fun i=>.int .i64 (shW (mk2 lc lh C H) Wt i))),mkS N)else if k=22 then some ((fun(x:Ch.Ix) (w':World)=> ∃b,x=(some b,2)/\w'.heap[b]? =some (.cells #[.slice pc lc cc,.slice ph lh ch] 22)),mkS 2)else if k=23 then some ((fun(x:Ch.Ix) (w':World)=> ∃b,x=(some b,N)/\w.heap.size<=b/\w'.rowIs b 2 N (fun i=>.int .i64 (shW (mk2 lc lh C H) T i))),mkS N)else if k=28 then some ((fun(x:Ch.Ix) (w':World)=> ∃b,x=(some b,1)/\w'.heap[b]? =some (.cells #[.slice pe le ce] 22)),mkS 1)else if k=29 then some ((fun(x:Ch.Ix) (w':World)=> ∃b,x=(some b,M)/\w.heap.size<=b/\w'.rowIs b 53 M (fun i=>.float .f64 (shB (hs le E) S i))),mkS M)else if k=33 then some ((fun(x:Ch.Ix) (w':World)=> ∃b,x=(some b,0)/\w'.heap[b]? =some (.cells #[.slice none 0 0,.slice none 0 0,.slice none 0 0,.slice none 0 0,.int .i64 0,.int .i64 0] 26)),mkP)else none) (fun k=>if k=7 then [6]else if k=15 then [14]else if k=23 then [22]else if k=29 then [28]else []) STB (by kernel_rfl) (by kernel_rfl) (by kernel_rfl) (by kernel_rfl) ?_
 simp only[List.take_succ_cons,List.take_zero]
 refine Ch.aF HU (by rfl) (by rfl) ?_
 go_big_quiet_step (with_reducible rfl)
 refine wpQuiet_nil ?_
 refine Ch.aF HU (by rfl) (by rfl) ?_
 go_big_quiet_step (with_reducible rfl)
 refine wpQuiet_nil ?_
 refine Ch.aF HU (by rfl) (by rfl) ?_
 go_big_quiet_step (with_reducible rfl)
 refine wpQuiet_nil ?_
 refine Ch.aF HU (by rfl) (by rfl) ?_
 go_big_quiet_step (with_reducible rfl)
 refine wpQuiet_nil ?_
 refine Ch.aF HU (by rfl) (by rfl) ?_
 go_big_quiet_step (with_reducible rfl)
 refine wpQuiet_nil ?_
 refine Ch.aF HU (by rfl) (by rfl) ?_
 go_big_quiet_step (with_reducible rfl)
 refine wpQuiet_nil ?_
 refine Ch.aN (ob:=(fun(x:Ch.Ix) (w':World)=> ∃b,x=(some b,2)/\w'.heap[b]? =some (.cells #[.slice pc lc cc,.slice ph lh ch] 22))) (mk:=mkS 2) (by rfl) (by kernel_rfl) ?_ ?_
 ·refine Ch.cF (O:=(.cells #[.slice pc lc cc,.slice ph lh ch] 22)) (c:=2) (fun v _=>mU (vs:= #[(0,.slice pc lc cc),(1,.slice ph lh ch)]) (by rfl) (by simp[Act.eval]) (qT pc ph lc lh cc ch v)) (fun v _=>⟨v.heap.size,rfl,heap_alloc_new _ _⟩)
 intro x6 fx6
 simp only[Act.put,List.setIfInBounds_toArray,List.set_cons_succ,List.set_cons_zero]
 refine Ch.aN (ob:=(fun(x:Ch.Ix) (w':World)=> ∃b,x=(some b,N)/\w.heap.size<=b/\w'.rowIs b 53 N (fun i=>.float .f64 (shB (mk2 lc lh C H) B i)))) (mk:=mkS N) (by rfl) (by kernel_rfl) ?_ ?_
 ·refine Ch.eT (f:=18) (args:= #[.slice (some ⟨qb,ob,none⟩) N cb,mkS 2 x6]) ?_ (fun v hv=>C4.out v x6 (A1.out.trans ((Ab.refl z).drew.trans hv.1)) (hv.at (i:=6) (x:=x6) (R:=(fun(x:Ch.Ix) (w':World)=> ∃b,x=(some b,2)/\w'.heap[b]? =some (.cells #[.slice pc lc cc,.slice ph lh ch] 22))) (mk:=mkS 2) (by rfl) (by rfl)).1)
  intro v
  exact fG (x:=.tmp 42) (y:=.tmp 47) (ats:= #[23,83]) (by rfl) (by rfl) (by rfl) func18 (by kernel_rfl) (by kernel_rfl) v
 intro x7 fx7
 simp only[Act.put,List.setIfInBounds_toArray,List.set_cons_succ,List.set_cons_zero]
 refine Ch.aF HU (by rfl) (by rfl) ?_
 go_big_quiet_step (with_reducible rfl)
 refine wpQuiet_nil ?_
 refine Ch.aF HU (by rfl) (by rfl) ?_
 go_big_quiet_step (with_reducible rfl)
 refine wpQuiet_nil ?_
 refine Ch.aF HU (by rfl) (by rfl) ?_
 go_big_quiet_step (with_reducible rfl)
 refine wpQuiet_nil ?_
 refine Ch.aF HU (by rfl) (by rfl) ?_
 go_big_quiet_step (with_reducible rfl)
 refine wpQuiet_nil ?_
 refine Ch.aF HU (by rfl) (by rfl) ?_
 go_big_quiet_step (with_reducible rfl)
 refine wpQuiet_nil ?_
 refine Ch.aF HU (by rfl) (by rfl) ?_
 go_big_quiet_step (with_reducible rfl)
 refine wpQuiet_nil ?_
 refine Ch.aN (ob:=(fun(x:Ch.Ix) (w':World)=> ∃b,x=(some b,2)/\w'.heap[b]? =some (.cells #[.slice pc lc cc,.slice ph lh ch] 22))) (mk:=mkS 2) (by rfl) (by kernel_rfl) ?_ ?_
 ·refine Ch.cF (O:=(.cells #[.slice pc lc cc,.slice ph lh ch] 22)) (c:=2) (fun v _=>mU (vs:= #[(0,.slice pc lc cc),(1,.slice ph lh ch)]) (by rfl) (by simp[Act.eval]) (qT pc ph lc lh cc ch v)) (fun v _=>⟨v.heap.size,rfl,heap_alloc_new _ _⟩)
 intro x14 fx14
 simp only[Act.put,List.setIfInBounds_toArray,List.set_cons_succ,List.set_cons_zero]
 refine Ch.aN (ob:=(fun(x:Ch.Ix) (w':World)=> ∃b,x=(some b,N)/\w.heap.size<=b/\w'.rowIs b 2 N (fun i=>.int .i64 (shW (mk2 lc lh C H) Wt i)))) (mk:=mkS N) (by rfl) (by kernel_rfl) ?_ ?_
 ·refine Ch.eT (f:=19) (args:= #[.slice (some ⟨qw,ow,none⟩) N cw,mkS 2 x14]) ?_ (fun v hv=>C5.out v x14 (A1.out.trans ((Ab.refl z).drew.trans hv.1)) (hv.at (i:=14) (x:=x14) (R:=(fun(x:Ch.Ix) (w':World)=> ∃b,x=(some b,2)/\w'.heap[b]? =some (.cells #[.slice pc lc cc,.slice ph lh ch] 22))) (mk:=mkS 2) (by rfl) (by rfl)).1)
  intro v
  exact fG (x:=.tmp 50) (y:=.tmp 55) (ats:= #[24,83]) (by rfl) (by rfl) (by rfl) func19 (by kernel_rfl) (by kernel_rfl) v
 intro x15 fx15
 simp only[Act.put,List.setIfInBounds_toArray,List.set_cons_succ,List.set_cons_zero]
 refine Ch.aF HU (by rfl) (by rfl) ?_
 go_big_quiet_step (with_reducible rfl)
 refine wpQuiet_nil ?_
 refine Ch.aF HU (by rfl) (by rfl) ?_
 go_big_quiet_step (with_reducible rfl)
 refine wpQuiet_nil ?_
 refine Ch.aF HU (by rfl) (by rfl) ?_
 go_big_quiet_step (with_reducible rfl)
 refine wpQuiet_nil ?_
 refine Ch.aF HU (by rfl) (by rfl) ?_
 go_big_quiet_step (with_reducible rfl)
 refine wpQuiet_nil ?_
 refine Ch.aF HU (by rfl) (by rfl) ?_
 go_big_quiet_step (with_reducible rfl)
 refine wpQuiet_nil ?_
 refine Ch.aF HU (by rfl) (by rfl) ?_
 go_big_quiet_step (with_reducible rfl)
 refine wpQuiet_nil ?_
 refine Ch.aN (ob:=(fun(x:Ch.Ix) (w':World)=> ∃b,x=(some b,2)/\w'.heap[b]? =some (.cells #[.slice pc lc cc,.slice ph lh ch] 22))) (mk:=mkS 2) (by rfl) (by kernel_rfl) ?_ ?_
 ·refine Ch.cF (O:=(.cells #[.slice pc lc cc,.slice ph lh ch] 22)) (c:=2) (fun v _=>mU (vs:= #[(0,.slice pc lc cc),(1,.slice ph lh ch)]) (by rfl) (by simp[Act.eval]) (qT pc ph lc lh cc ch v)) (fun v _=>⟨v.heap.size,rfl,heap_alloc_new _ _⟩)
 intro x22 fx22
 simp only[Act.put,List.setIfInBounds_toArray,List.set_cons_succ,List.set_cons_zero]
 refine Ch.aN (ob:=(fun(x:Ch.Ix) (w':World)=> ∃b,x=(some b,N)/\w.heap.size<=b/\w'.rowIs b 2 N (fun i=>.int .i64 (shW (mk2 lc lh C H) T i)))) (mk:=mkS N) (by rfl) (by kernel_rfl) ?_ ?_
 ·refine Ch.eT (f:=19) (args:= #[.slice (some ⟨qt,ot,none⟩) N ct,mkS 2 x22]) ?_ (fun v hv=>C6.out v x22 (A1.out.trans ((Ab.refl z).drew.trans hv.1)) (hv.at (i:=22) (x:=x22) (R:=(fun(x:Ch.Ix) (w':World)=> ∃b,x=(some b,2)/\w'.heap[b]? =some (.cells #[.slice pc lc cc,.slice ph lh ch] 22))) (mk:=mkS 2) (by rfl) (by rfl)).1)
  intro v
  exact fG (x:=.tmp 58) (y:=.tmp 63) (ats:= #[24,83]) (by rfl) (by rfl) (by rfl) func19 (by kernel_rfl) (by kernel_rfl) v
 intro x23 fx23
 simp only[Act.put,List.setIfInBounds_toArray,List.set_cons_succ,List.set_cons_zero]
 refine Ch.aF HU (by rfl) (by rfl) ?_
 go_big_quiet_step (with_reducible rfl)
 refine wpQuiet_nil ?_
 refine Ch.aF HU (by rfl) (by rfl) ?_
 go_big_quiet_step (with_reducible rfl)
 refine wpQuiet_nil ?_
 refine Ch.aF HU (by rfl) (by rfl) ?_
 go_big_quiet_step (with_reducible rfl)
 refine wpQuiet_nil ?_
 refine Ch.aF HU (by rfl) (by rfl) ?_
 go_big_quiet_step (with_reducible rfl)
 refine wpQuiet_nil ?_
 refine Ch.aN (ob:=(fun(x:Ch.Ix) (w':World)=> ∃b,x=(some b,1)/\w'.heap[b]? =some (.cells #[.slice pe le ce] 22))) (mk:=mkS 1) (by rfl) (by kernel_rfl) ?_ ?_
 ·refine Ch.cF (O:=(.cells #[.slice pe le ce] 22)) (c:=1) (fun v _=>mU (vs:= #[(0,.slice pe le ce)]) (by rfl) (by simp[Act.eval]) (bs_one pe le ce v)) (fun v _=>⟨v.heap.size,rfl,heap_alloc_new _ _⟩)
 intro x28 fx28
 simp only[Act.put,List.setIfInBounds_toArray,List.set_cons_succ,List.set_cons_zero]
 refine Ch.aN (ob:=(fun(x:Ch.Ix) (w':World)=> ∃b,x=(some b,M)/\w.heap.size<=b/\w'.rowIs b 53 M (fun i=>.float .f64 (shB (hs le E) S i)))) (mk:=mkS M) (by rfl) (by kernel_rfl) ?_ ?_
 ·refine Ch.eT (f:=18) (args:= #[.slice (some ⟨qs,os,none⟩) M cs,mkS 1 x28]) ?_ (fun v hv=>C7.out v x28 (A1.out.trans ((Ab.refl z).drew.trans hv.1)) (hv.at (i:=28) (x:=x28) (R:=(fun(x:Ch.Ix) (w':World)=> ∃b,x=(some b,1)/\w'.heap[b]? =some (.cells #[.slice pe le ce] 22))) (mk:=mkS 1) (by rfl) (by rfl)).1)
  intro v
  exact fG (x:=.tmp 66) (y:=.tmp 69) (ats:= #[23,83]) (by rfl) (by rfl) (by rfl) func18 (by kernel_rfl) (by kernel_rfl) v
 intro x29 fx29
 simp only[Act.put,List.setIfInBounds_toArray,List.set_cons_succ,List.set_cons_zero]
 obtain⟨pp1,m1,c1,q1⟩:=eU N x7
 obtain⟨pp2,m2,c2,q2⟩:=eU N x15
 obtain⟨pp3,m3,c3,q3⟩:=eU N x23
 obtain⟨pp4,m4,c4,q4⟩:=eU M x29
 rw[q1,q2,q3,q4]
 refine Ch.aF HU (by rfl) (by rfl) ?_
 go_big_quiet_step (with_reducible rfl)
 refine wpQuiet_nil ?_
 refine Ch.aF HU (by rfl) (by rfl) ?_
 go_big_quiet_step (with_reducible rfl)
 refine wpQuiet_nil ?_
 refine Ch.aF HU (by rfl) (by rfl) ?_
 go_big_quiet_step (with_reducible rfl)
 refine wpQuiet_nil ?_
 refine Ch.aN (ob:=(fun(x:Ch.Ix) (w':World)=> ∃b,x=(some b,0)/\w'.heap[b]? =some (.cells #[.slice none 0 0,.slice none 0 0,.slice none 0 0,.slice none 0 0,.int .i64 0,.int .i64 0] 26))) (mk:=mkP) (by rfl) (by kernel_rfl) ?_ ?_
 ·exact Ch.cF (O:=.cells #[.slice none 0 0,.slice none 0 0,.slice none 0 0,.slice none 0 0,.int .i64 0,.int .i64 0] 26) (c:=0) (fun v _=>Ch.run_alloc rfl (AL v)) (fun v _=>⟨v.heap.size,rfl,heap_alloc_new _ _⟩)
 intro x33 fx33
 simp only[Act.put,List.setIfInBounds_toArray,List.set_cons_succ,List.set_cons_zero]
 refine Ch.eA ?_
 intro wz hz
 have h7:=hz.at (i:=7) (x:=x7) (R:=(fun(x:Ch.Ix) (w':World)=> ∃b,x=(some b,N)/\w.heap.size<=b/\w'.rowIs b 53 N (fun i=>.float .f64 (shB (mk2 lc lh C H) B i)))) (mk:=mkS N) (by rfl) (by rfl)
 have h15:=hz.at (i:=15) (x:=x15) (R:=(fun(x:Ch.Ix) (w':World)=> ∃b,x=(some b,N)/\w.heap.size<=b/\w'.rowIs b 2 N (fun i=>.int .i64 (shW (mk2 lc lh C H) Wt i)))) (mk:=mkS N) (by rfl) (by rfl)
 have h23:=hz.at (i:=23) (x:=x23) (R:=(fun(x:Ch.Ix) (w':World)=> ∃b,x=(some b,N)/\w.heap.size<=b/\w'.rowIs b 2 N (fun i=>.int .i64 (shW (mk2 lc lh C H) T i)))) (mk:=mkS N) (by rfl) (by rfl)
 have h29:=hz.at (i:=29) (x:=x29) (R:=(fun(x:Ch.Ix) (w':World)=> ∃b,x=(some b,M)/\w.heap.size<=b/\w'.rowIs b 53 M (fun i=>.float .f64 (shB (hs le E) S i)))) (mk:=mkS M) (by rfl) (by rfl)
 have h33:=hz.at (i:=33) (x:=x33) (R:=(fun(x:Ch.Ix) (w':World)=> ∃b,x=(some b,0)/\w'.heap[b]? =some (.cells #[.slice none 0 0,.slice none 0 0,.slice none 0 0,.slice none 0 0,.int .i64 0,.int .i64 0] 26))) (mk:=mkP) (by rfl) (by rfl)
 obtain⟨⟨b1,rfl,l1,r1⟩,k1⟩:=h7
 obtain⟨⟨b2,rfl,l2,r2⟩,k2⟩:=h15
 obtain⟨⟨b3,rfl,l3,r3⟩,k3⟩:=h23
 obtain⟨⟨b4,rfl,l4,r4⟩,k4⟩:=h29
 obtain⟨⟨b5,rfl,r5⟩,k5⟩:=h33
 have E1:(.slice (some ⟨b1,0,none⟩) N N:Value)=.slice pp1 m1 c1:=q1
 have E2:(.slice (some ⟨b2,0,none⟩) N N:Value)=.slice pp2 m2 c2:=q2
 have E3:(.slice (some ⟨b3,0,none⟩) N N:Value)=.slice pp3 m3 c3:=q3
 have E4:(.slice (some ⟨b4,0,none⟩) M M:Value)=.slice pp4 m4 c4:=q4
 rw[<- E1,<- E2,<- E3,<- E4]
 have e5:mkP (some b5,0)=.pointer (some ⟨b5,0,none⟩):=rfl
 rw[e5]
 have ne: ∀(i:Nat) (y:Ch.Ix) (b:Nat),y.1=some b->b5≠b->True:=fun _ _ _ _ _=>trivial
 have n1:b1≠b5:=fun e=>(fx33 b5 rfl).2 7 (some b1,N) (by rfl) (by rw[e])
 have n2:b2≠b5:=fun e=>(fx33 b5 rfl).2 15 (some b2,N) (by rfl) (by rw[e])
 have n3:b3≠b5:=fun e=>(fx33 b5 rfl).2 23 (some b3,N) (by rfl) (by rw[e])
 have n4:b4≠b5:=fun e=>(fx33 b5 rfl).2 29 (some b4,M) (by rfl) (by rw[e])
 have n14:b1≠b4:=fun e=>(fx29 b4 rfl).2 7 (some b1,N) (by rfl) (by rw[e])
 have n23:b2≠b3:=fun e=>(fx23 b3 rfl).2 15 (some b2,N) (by rfl) (by rw[e])
 have L5:=(k5 b5 rfl).1
 have g0:gr<z.heap.size:=lt_of_block Q1.out
 have NG:Hid (b1≠gr/\b2≠gr/\b3≠gr/\b4≠gr/\gr≠b5):=by
  have h1:z.heap.size<=b1:=(k1 b1 rfl).1
  have h2:z.heap.size<=b2:=(k2 b2 rfl).1
  have h3:z.heap.size<=b3:=(k3 b3 rfl).1
  have h4:z.heap.size<=b4:=(k4 b4 rfl).1
  have h5:z.heap.size<=b5:=L5
  exact⟨by omega,by omega,by omega,by omega,by omega⟩
 have NN:=hid (And.intro n1 (And.intro n2 (And.intro n3 (And.intro n4 (And.intro n14 n23)))))
 have LL:=hid (And.intro l1 (And.intro l2 (And.intro l3 l4)))
 have RR:=hid (And.intro r1 (And.intro r2 (And.intro r3 r4)))
 have B5:=hid r5
 have AZ:Hid (Ab z wz):=(Ab.refl z).drew.trans hz.1
 have G5:Hid (gr<z.heap.size/\z.heap.size<=b5):=⟨lt_of_block Q1.out,L5⟩
 have QZ:=hid (AZ.out.heap Q1.out)
 have A2:Hid (Ab w wz):=A1.out.trans AZ.out
 clear k1 k2 k3 k4 g0 n1 n2 n3 n4 n14 n23 l1 l2 l3 l4 r1 r2 r3 r4 r5 L5 k5 ne e5 E1 E2 E3 E4 q1 q2 q3 q4 hz fx6 fx7 fx14 fx15 fx22 fx23 fx28 fx29 fx33 STB HU HU1 p0 p1 p2 s0 s1 s2 s3 s4 s5 C4 C5 C6 C7 A1 AZ Q1 P1 S1 AL
 clear E' UU
 have t0:=aE B5.out
 have f0:=bE B5.out
 simp only[List.drop_succ_cons,List.drop_zero]
 have LW:Hid (w.heap.size<=b5):=by have h1:=HG.out;have h2:=G5.out;show _<=_;omega
 have B8:Hid (((((((wz.setCell ⟨b5,0,none⟩ (.slice (some ⟨b1,0,none⟩) N N)).setCell ⟨b5,1,none⟩ (.slice (some ⟨b2,0,none⟩) N N)).setCell ⟨b5,2,none⟩ (.slice (some ⟨b3,0,none⟩) N N)).setCell ⟨b5,3,none⟩ (.slice (some ⟨b4,0,none⟩) M M)).setCell ⟨b5,4,none⟩ (.int .i64 0)).setCell ⟨b5,5,none⟩ (.int .i64 st)).heap[b5]? =some (.cells #[.slice (some ⟨b1,0,none⟩) N N,.slice (some ⟨b2,0,none⟩) N N,.slice (some ⟨b3,0,none⟩) N N,.slice (some ⟨b4,0,none⟩) M M,.int .i64 0,.int .i64 st] 26)):=fI B5.out
 have A8:Hid (Ab w ((((((wz.setCell ⟨b5,0,none⟩ (.slice (some ⟨b1,0,none⟩) N N)).setCell ⟨b5,1,none⟩ (.slice (some ⟨b2,0,none⟩) N N)).setCell ⟨b5,2,none⟩ (.slice (some ⟨b3,0,none⟩) N N)).setCell ⟨b5,3,none⟩ (.slice (some ⟨b4,0,none⟩) M M)).setCell ⟨b5,4,none⟩ (.int .i64 0)).setCell ⟨b5,5,none⟩ (.int .i64 st))):=(((((A2.out.setk LW.out _).setk LW.out _).setk LW.out _).setk LW.out _).setk LW.out _).setk LW.out _
 have Q8:Hid (((((((wz.setCell ⟨b5,0,none⟩ (.slice (some ⟨b1,0,none⟩) N N)).setCell ⟨b5,1,none⟩ (.slice (some ⟨b2,0,none⟩) N N)).setCell ⟨b5,2,none⟩ (.slice (some ⟨b3,0,none⟩) N N)).setCell ⟨b5,3,none⟩ (.slice (some ⟨b4,0,none⟩) M M)).setCell ⟨b5,4,none⟩ (.int .i64 0)).setCell ⟨b5,5,none⟩ (.int .i64 st)).heap[gr]? =some (.cells #[.slice none 0 0,.slice none 0 0,.slice none 0 0,.slice none 0 0,.int .i64 0,.int .i64 0] 26)):=(aY NG.out.2.2.2.2).trans QZ.out
 have RR8:Hid (((((((wz.setCell ⟨b5,0,none⟩ (.slice (some ⟨b1,0,none⟩) N N)).setCell ⟨b5,1,none⟩ (.slice (some ⟨b2,0,none⟩) N N)).setCell ⟨b5,2,none⟩ (.slice (some ⟨b3,0,none⟩) N N)).setCell ⟨b5,3,none⟩ (.slice (some ⟨b4,0,none⟩) M M)).setCell ⟨b5,4,none⟩ (.int .i64 0)).setCell ⟨b5,5,none⟩ (.int .i64 st)).rowIs b1 53 N (fun i=>.float .f64 (shB (mk2 lc lh C H) B i))/\((((((wz.setCell ⟨b5,0,none⟩ (.slice (some ⟨b1,0,none⟩) N N)).setCell ⟨b5,1,none⟩ (.slice (some ⟨b2,0,none⟩) N N)).setCell ⟨b5,2,none⟩ (.slice (some ⟨b3,0,none⟩) N N)).setCell ⟨b5,3,none⟩ (.slice (some ⟨b4,0,none⟩) M M)).setCell ⟨b5,4,none⟩ (.int .i64 0)).setCell ⟨b5,5,none⟩ (.int .i64 st)).rowIs b2 2 N (fun i=>.int .i64 (shW (mk2 lc lh C H) Wt i))/\((((((wz.setCell ⟨b5,0,none⟩ (.slice (some ⟨b1,0,none⟩) N N)).setCell ⟨b5,1,none⟩ (.slice (some ⟨b2,0,none⟩) N N)).setCell ⟨b5,2,none⟩ (.slice (some ⟨b3,0,none⟩) N N)).setCell ⟨b5,3,none⟩ (.slice (some ⟨b4,0,none⟩) M M)).setCell ⟨b5,4,none⟩ (.int .i64 0)).setCell ⟨b5,5,none⟩ (.int .i64 st)).rowIs b3 2 N (fun i=>.int .i64 (shW (mk2 lc lh C H) T i))/\((((((wz.setCell ⟨b5,0,none⟩ (.slice (some ⟨b1,0,none⟩) N N)).setCell ⟨b5,1,none⟩ (.slice (some ⟨b2,0,none⟩) N N)).setCell ⟨b5,2,none⟩ (.slice (some ⟨b3,0,none⟩) N N)).setCell ⟨b5,3,none⟩ (.slice (some ⟨b4,0,none⟩) M M)).setCell ⟨b5,4,none⟩ (.int .i64 0)).setCell ⟨b5,5,none⟩ (.int .i64 st)).rowIs b4 53 M (fun i=>.float .f64 (shB (hs le E) S i))):=⟨RR.out.1.of_block (aY NN.out.1),RR.out.2.1.of_block (aY NN.out.2.1),RR.out.2.2.1.of_block (aY NN.out.2.2.1),RR.out.2.2.2.of_block (aY NN.out.2.2.2.1)⟩
 go_upto_region 6 with fail
 generalize hW:World.setCell _ _ _=v8 at*
 clear hW t0 f0 B5 QZ RR A2
 have x0:=aE B8.out
 have t0:=aE Q8.out
 have f0:=bE Q8.out
 go_wp2_with fail
 have RY:=hid (fI (x:=.slice (some ⟨b1,0,none⟩) N N) (y:=.slice (some ⟨b2,0,none⟩) N N) (z:=.slice (some ⟨b3,0,none⟩) N N) (p:=.slice (some ⟨b4,0,none⟩) M M) (q:=.int .i64 0) (r:=.int .i64 st) Q8.out)
 refine bodyPost_ret (v:=.tuple #[.agg #[.slice (some ⟨b1,0,none⟩) N N,.slice (some ⟨b2,0,none⟩) N N,.slice (some ⟨b3,0,none⟩) N N,.slice (some ⟨b4,0,none⟩) M M,.int .i64 0,.int .i64 st],.int .i64 0]) ?_ rfl ?_
 ·exact bK results5 _ _ gr _ _ (0,0) _ _ rfl rfl RY.out underlying26 rfl (by kernel_rfl)
 have hg:=HG.out
 have mN:N<=maxLen/\M<=maxLen:=by have:=HN.out;unfold maxLen;omega
 refine⟨_,rfl,((((((A8.out.setk hg _).setk hg _).setk hg _).setk hg _).setk hg _).setk hg _),_,_,_,_,rfl,pE (RR8.out.1.of_block (aY NG.out.1)) LL.out.1 mN.1,pG (RR8.out.2.1.of_block (aY NG.out.2.1)) LL.out.2.1 mN.1,pG (RR8.out.2.2.1.of_block (aY NG.out.2.2.1)) LL.out.2.2.1 mN.1,pE (RR8.out.2.2.2.of_block (aY NG.out.2.2.2.1)) LL.out.2.2.2 mN.2,?_,?_⟩
 ·intro k h1 h2
  have e1:b1=k:=by injection h1
  have e2:b4=k:=by injection h2
  exact NN.out.2.2.2.2.1 (e1.trans e2.symm)
 ·intro k h1 h2
  have e1:b2=k:=by injection h1
  have e2:b3=k:=by injection h2
  exact NN.out.2.2.2.2.2 (e1.trans e2.symm)
theorem dF{P:Program}{f:FuncId}{args:Array Value}{w:World}{r:Ending}(h:Calls P f args w (fun e w'=>e=r/\w'=w)):Calls P f args w (fun e w'=>e=r/\Below w.heap.size w w'):=h.mono (fun e w' q=>⟨q.1,by rw[q.2];exact Below.refl _ _⟩)
theorem localC:LocalC:=by
 intro n gb pc lc cc C pe le ce E ph lh ch H pb lb cb B pw lw cw W pt lt ct T ps ls cs S sky st w hn g h64 hl hk ic ie ih ib iw it is
 have n1:=n12 hn
 have n2:6*n*n<=12*n*n:=Nat.mul_le_mul_right _ (Nat.mul_le_mul_right _ (by decide))
 have n0:0<6*n*n:=Nat.mul_pos (Nat.mul_pos (by decide) hn.1) hn.1
 have CC: ∀v,Ab w v->Calls prog 16 #[.pointer (some ⟨gb,0,none⟩)] v fun e w'=>e=.returned (.int .i64 (6*n*n:Nat))/\Below v.heap.size v w':=fun v a=>dF (dQ (g.to a))
 have CE: ∀v,Ab w v->Calls prog 17 #[.pointer (some ⟨gb,0,none⟩)] v fun e w'=>e=.returned (.int .i64 (12*n*n:Nat))/\Below v.heap.size v w':=fun v a=>dF (cV (g.to a))
 have FY:fit4 n lb lw lt ls-> ∀v,Ab w v->Calls prog 14 #[.pointer (some ⟨gb,0,none⟩),.agg #[.slice pb lb cb,.slice pw lw cw,.slice pt lt ct,.slice ps ls cs,.int .i64 sky,.int .i64 st]] v fun e w'=>e=.returned (.bool true)/\Below v.heap.size v w':=fun f v a=>
  oV gb pb pw pt ps lb cb lw cw lt ct ls cs sky st (6*n*n) (12*n*n) true v (.inr (.inr (.inr ⟨by rw[f.1];simp,by rw[f.2.1];simp,by rw[f.2.2.1];simp,by rw[f.2.2.2];simp⟩))) (hid (fun u b=>CC u (a.trans b))) (hid (fun u b=>CE u (a.trans b)))
 have FN: ¬fit4 n lb lw lt ls-> ∀v,Ab w v->Calls prog 14 #[.pointer (some ⟨gb,0,none⟩),.agg #[.slice pb lb cb,.slice pw lw cw,.slice pt lt ct,.slice ps ls cs,.int .i64 sky,.int .i64 st]] v fun e w'=>e=.returned (.bool false)/\Below v.heap.size v w':=fun f v a=>by
  refine oV gb pb pw pt ps lb cb lw cw lt ct ls cs sky st (6*n*n) (12*n*n) false v ?_ (hid (fun u b=>CC u (a.trans b))) (hid (fun u b=>CE u (a.trans b)))
  have no: ∀x y:Nat,¬x=y->((x:Int)==(y:Int))=false:=fun x y h=>by
   rw[beq_eq_false_iff_ne]
   intro e
   exact h (Int.ofNat.inj e)
  have ye: ∀x y:Nat,x=y->((x:Int)==(y:Int))=true:=fun x y h=>by rw[h];simp
  by_cases q1:lb=6*n*n
  ·by_cases q2:lw=6*n*n
   ·by_cases q3:lt=6*n*n
    ·exact .inr (.inr (.inr ⟨ye _ _ q1,ye _ _ q2,ye _ _ q3,no _ _ (fun q4=>f ⟨q1,q2,q3,q4⟩)⟩))
    ·exact .inr (.inr (.inl ⟨ye _ _ q1,ye _ _ q2,no _ _ q3,rfl⟩))
   ·exact .inr (.inl ⟨ye _ _ q1,no _ _ q2,rfl⟩)
  ·exact .inl ⟨no _ _ q1,rfl⟩
 have WY: ∀(p:Option Addr) (L c N:Nat) (f:Nat->Int),L<=281474976710656->N<=12288->Sh.IsI w p L f->wi L f N-> ∀v,Ab w v->Calls prog 15 #[.slice p L c,.int .i64 (N:Nat)] v fun e w'=>e=.returned (.bool true)/\Below v.heap.size v w':=fun p L c N f h1 h2 i q v a=>dF (lH p L c N f true v h1 h2 (i.below a) ⟨fun _=>q,fun _=>rfl⟩)
 have WN: ∀(p:Option Addr) (L c N:Nat) (f:Nat->Int),L<=281474976710656->N<=12288->Sh.IsI w p L f-> ¬wi L f N-> ∀v,Ab w v->Calls prog 15 #[.slice p L c,.int .i64 (N:Nat)] v fun e w'=>e=.returned (.bool false)/\Below v.heap.size v w':=fun p L c N f h1 h2 i q v a=>dF (lH p L c N f false v h1 h2 (i.below a) ⟨fun h=>(by cases h),fun h=>absurd h q⟩)
 refine⟨fun hf=> ?_,fun hf=> ?_⟩
 ·obtain⟨f4,w1,w2,w3⟩:=hf
  have F4:=FY f4
  obtain⟨e1,e2,e3,e4⟩:=f4
  obtain⟨-,qb,ob,rfl,-⟩:=ib 0 (by omega)
  obtain⟨-,qw,ow',rfl,-⟩:=iw 0 (by omega)
  obtain⟨-,qt,ot,rfl,-⟩:=it 0 (by omega)
  obtain⟨-,qs,os,rfl,-⟩:=is 0 (by omega)
  rw[e1]at ib F4 ⊢
  rw[e2]at iw F4 ⊢
  rw[e3]at it F4 ⊢
  rw[e4]at is F4 ⊢
  exact local_go gb (6*n*n) (12*n*n) pc lc cc pe le ce ph lh ch C E H qb ob cb qw ow' cw qt ot ct qs os cs B W T S sky st w (hid ⟨⟨n0,by omega⟩,by omega,n1⟩) (hid hl) (hid F4) (hid CC) (hid CE) (hid (WY pc lc cc _ C hl.1 (by omega) ic w1)) (hid (WY ph lh ch _ H hl.2.2 (by omega) ih w2)) (hid (WY pe le ce _ E hl.2.1 n1 ie w3)) (hid ic) (hid ie) (hid ih) (hid w1) (hid w3) (hid w2) (hid ib) (hid iw) (hid it) (hid is)
 ·by_cases q0:fit4 n lb lw lt ls
  ·by_cases q1:wi lc C (6*n*n)
   ·by_cases q2:wi lh H (6*n*n)
    ·have q3: ¬wi le E (12*n*n):=fun q=>hf ⟨q0,q1,q2,q⟩
     exact local_3 gb pc lc cc pe le ce ph lh ch pb lb cb pw lw cw pt lt ct ps ls cs sky st (6*n*n) (12*n*n) w (hid (FY q0)) (hid CC) (hid (WY pc lc cc _ C hl.1 (by omega) ic q1)) (hid (WY ph lh ch _ H hl.2.2 (by omega) ih q2)) (hid CE) (hid (WN pe le ce _ E hl.2.1 n1 ie q3))
    ·exact local_2 gb pc lc cc pe le ce ph lh ch pb lb cb pw lw cw pt lt ct ps ls cs sky st (6*n*n) w (hid (FY q0)) (hid CC) (hid (WY pc lc cc _ C hl.1 (by omega) ic q1)) (hid (WN ph lh ch _ H hl.2.2 (by omega) ih q2))
   ·exact local_1 gb pc lc cc pe le ce ph lh ch pb lb cb pw lw cw pt lt ct ps ls cs sky st (6*n*n) w (hid (FY q0)) (hid CC) (hid (WN pc lc cc _ C hl.1 (by omega) ic q1))
  ·exact local_0 gb pc lc cc pe le ce ph lh ch pb lb cb pw lw cw pt lt ct ps ls cs sky st w (hid (FN q0))
theorem localN:LocalN:=fun p s w hp hs=>tP p s w hp hs
end Spl
end
section
open Tf Ieee
def ps(a:Nat):Bool:=decide (0<a/\a<=9218868437227405312)
def op(x:Nat):Nat:=if x=0 then 0 else x+9223372036854775808
end
section
open Go.RowKit Tf Cu
theorem IsFl.some0{w:World}{a0:Option Addr}{len:Nat}{xs:Nat->Nat}(h:IsFl w a0 len xs)(h0:0<len): ∃b o,a0=some ⟨b,o,none⟩:=by
 obtain⟨_,b,o,e,_⟩:=h 0 h0
 exact⟨b,o,e⟩
end
section
open Go.RowKit Tf Cu Go.Deep
attribute [local go_sem] aL aM aP aQ aR aU aV aD
def lkW(i:Nat):Int:=if i=1 then 2863311530 else 1431655765
theorem ar13: ∀c,c<6->arI (ArC 1 c)=1431655765:=by decide+kernel
def LkR(w:World)(gd g4 b1 b2 b3 b4:Nat)(f:Nat->Int)(v:World):Prop:=
 Ab w v/\v.heap[g4]? =some (.cells #[.slice (some ⟨b1,0,none⟩) 6 6,.slice (some ⟨b2,0,none⟩) 6 6,.slice (some ⟨b3,0,none⟩) 6 6,.slice (some ⟨b4,0,none⟩) 12 12,.int .i64 0,.int .i64 0] 26)/\v.heap[gd]? =some (.cells #[.slice none 0 0,.slice none 0 0,.slice none 0 0,.slice none 0 0,.int .i64 0,.int .i64 0] 26)/\v.rowIs b1 53 6 (fun _=>.float .f64 0)/\v.rowIs b2 2 6 (fun i=>.int .i64 (f i))/\v.rowIs b3 2 6 (fun _=>.int .i64 0)/\v.rowIs b4 53 12 (fun _=>.float .f64 0)
def LkI(w:World)(gd g4 b1 b2 b3 b4 c:Nat)(v:World):Prop:=LkR w gd g4 b1 b2 b3 b4 (fun i=>if i<c then lkW i else 0) v
theorem LkR.to2{w:World}{gd g4 b1 b2 b3 b4:Nat}{f:Nat->Int}{v v':World}(h:LkR w gd g4 b1 b2 b3 b4 f v)(a:Ab v v'):LkR w gd g4 b1 b2 b3 b4 f v':=by
 obtain⟨h1,h2,h3,h4,h5,h6,h7⟩:=h
 exact⟨h1.trans a,a.heap h2,a.heap h3,rowIs.ab h4 a,rowIs.ab h5 a,rowIs.ab h6 a,rowIs.ab h7 a⟩
theorem LkI.to{w:World}{gd g4 b1 b2 b3 b4 c:Nat}{v v':World}(h:LkI w gd g4 b1 b2 b3 b4 c v)(a:Ab v v'):LkR w gd g4 b1 b2 b3 b4 (fun i=>if i<c then lkW i else 0) v':=LkR.to2 h a
theorem LkR.fin{w:World}{gd g4 b1 b2 b3 b4 c:Nat}{f:Nat->Int}{v:World}(h:LkR w gd g4 b1 b2 b3 b4 f v)(e: ∀i,f i=if i<c then lkW i else 0):LkI w gd g4 b1 b2 b3 b4 c v:=by
 obtain⟨h1,h2,h3,h4,h5,h6,h7⟩:=h
 exact⟨h1,h2,h3,h4,h5.congr (fun i _=>by dsimp only;rw[e i]),h6,h7⟩
theorem LkR.set{w:World}{gd g4 b1 b2 b3 b4:Nat}{f:Nat->Int}{v:World}(h:LkR w gd g4 b1 b2 b3 b4 f v)(nn:g4≠b2/\b1≠b2/\b3≠b2/\b4≠b2/\b1≠b4/\b3≠b4)(hl:gd+1<=b1/\gd+1<=b2/\gd+1<=b3/\gd+1<=b4/\gd+1<=g4)(c:Nat)(x:Int)(hw:w.heap.size<=gd):LkR w gd g4 b1 b2 b3 b4 (fun i=>if i=c then x else f i) (v.setCell ⟨b2,c,none⟩ (.int .i64 x)):=by
 obtain⟨h1,h2,h3,h4,h5,h6,h7⟩:=h
 refine⟨h1.setk (by omega) _,by rw[aH nn.1];exact h2,by rw[aH (by omega)];exact h3,h4.setOther nn.2.1 _,(h5.set c _).congr (fun i _=> ?_),h6.setOther nn.2.2.1 _,h7.setOther nn.2.2.2.1 _⟩
 by_cases e:i=c
 ·simp[e]
 ·simp[e]
end
section
open Go.RowKit Tf Cu
attribute [local go_sem] aL aM aP aQ aR aU aV aD
theorem qU(gb:Nat)(pb pw pt ps:Option Addr)(lb cb lw cw lt ct ls cs:Nat)(sky st:Int)(M N:Nat)(q:Bool)(w:World)
  (hq:(((lb:Int)==(M:Int))=false/\q=false)\/(((lb:Int)==(M:Int))=true/\((lw:Int)==(M:Int))=false/\q=false)\/(((lb:Int)==(M:Int))=true/\((lw:Int)==(M:Int))=true/\((lt:Int)==(M:Int))=false/\q=false)\/(((lb:Int)==(M:Int))=true/\((lw:Int)==(M:Int))=true/\((lt:Int)==(M:Int))=true/\((ls:Int)==(N:Int))=q))
  (CC:Hid (∀v,Ab w v->Calls prog 33 #[(.pointer (some ⟨gb,0,none⟩))] v fun e w'=>e=.returned (.int .i64 (M:Nat))/\Below v.heap.size v w'))
  (CE:Hid (∀v,Ab w v->Calls prog 36 #[(.pointer (some ⟨gb,0,none⟩))] v fun e w'=>e=.returned (.int .i64 (N:Nat))/\Below v.heap.size v w')):
  Calls prog 34 #[(.pointer (some ⟨gb,0,none⟩)),.agg #[.slice pb lb cb,.slice pw lw cw,.slice pt lt ct,.slice ps ls cs,.int .i64 sky,.int .i64 st]] w fun e w'=>e=.returned (.bool q)/\Below w.heap.size w w':=by
 obtain⟨A0,RO⟩:=cD w (.cells #[.slice pb lb cb,.slice pw lw cw,.slice pt lt ct,.slice ps ls cs,.int .i64 sky,.int .i64 st] 26)
 go_enter func34,ntmps34
 go_wp2_with fail
 refine(CC.out _ A0.out).mono ?_
 rintro e9 v1 ⟨rfl,b1⟩
 have A1:Hid (Ab w v1):=A0.out.call b1
 have R1:Hid (v1.heap[w.heap.size]? =some (.cells #[.slice pb lb cb,.slice pw lw cw,.slice pt lt ct,.slice ps ls cs,.int .i64 sky,.int .i64 st] 26)):=Ab.heap b1 RO.out
 clear b1 A0 RO
 go_upto_region 2 with fail
 obtain⟨gs,hgs⟩:=aB w.heap.size
 rw[hgs]at R1 ⊢
 clear hgs
 rcases hq with⟨q1,rfl⟩ | ⟨q1,q2,rfl⟩ | ⟨q1,q2,q3,rfl⟩ | ⟨q1,q2,q3,q4⟩
 ·obtain⟨UU,E,hF1,hF2⟩:=cls v1
  have HU:=hid hF2
  have HU1:=hid hF1
  have HX:Hid (∀u,Ab w (E u)):=fun u=>Ab.trans A1.out (hF1 u)
  have s0: ∀u,(E u).cell? ⟨gs,0,none⟩=some (.slice pb lb cb):=fun u=>aA 0 ((hF1 u).heap R1.out)
  have s1: ∀u,(E u).cell? ⟨gs,1,none⟩=some (.slice pw lw cw):=fun u=>aA 1 ((hF1 u).heap R1.out)
  have s2: ∀u,(E u).cell? ⟨gs,2,none⟩=some (.slice pt lt ct):=fun u=>aA 2 ((hF1 u).heap R1.out)
  have s3: ∀u,(E u).cell? ⟨gs,3,none⟩=some (.slice ps ls cs):=fun u=>aA 3 ((hF1 u).heap R1.out)
  have DD0:=HU.out _ (Ab.refl v1).drew
  clear hF1 hF2
  refine aI E (by kernel_rfl) (by kernel_rfl) DD0 ?_
  repeat(go_big_quiet_step (first
   | (with_reducible rfl)
   | (go_at_call 36;exact aC HU HU1 (CE.out _ (HX.out _)))))
  refine wpQuiet_nil ?_
  intro z hwz
  obtain⟨u0,hu⟩:=hwz
  have AZ:Hid (Ab w z):=by rw[hu];exact HX.out u0
  clear hu u0
  clear HU HU1 HX DD0 s0 s1 s2 s3
  clear E UU
  go_wp2
  go_ret
  exact⟨rfl,AZ.out⟩
 ·obtain⟨UU,E,hF1,hF2⟩:=cls v1
  have HU:=hid hF2
  have HU1:=hid hF1
  have HX:Hid (∀u,Ab w (E u)):=fun u=>Ab.trans A1.out (hF1 u)
  have s0: ∀u,(E u).cell? ⟨gs,0,none⟩=some (.slice pb lb cb):=fun u=>aA 0 ((hF1 u).heap R1.out)
  have s1: ∀u,(E u).cell? ⟨gs,1,none⟩=some (.slice pw lw cw):=fun u=>aA 1 ((hF1 u).heap R1.out)
  have s2: ∀u,(E u).cell? ⟨gs,2,none⟩=some (.slice pt lt ct):=fun u=>aA 2 ((hF1 u).heap R1.out)
  have s3: ∀u,(E u).cell? ⟨gs,3,none⟩=some (.slice ps ls cs):=fun u=>aA 3 ((hF1 u).heap R1.out)
  have DD0:=HU.out _ (Ab.refl v1).drew
  clear hF1 hF2
  refine aI E (by kernel_rfl) (by kernel_rfl) DD0 ?_
  repeat(go_big_quiet_step (first
   | (with_reducible rfl)
   | (go_at_call 36;exact aC HU HU1 (CE.out _ (HX.out _)))))
  refine wpQuiet_nil ?_
  intro z hwz
  obtain⟨u0,hu⟩:=hwz
  have AZ:Hid (Ab w z):=by rw[hu];exact HX.out u0
  clear hu u0
  clear HU HU1 HX DD0 s0 s1 s2 s3
  clear E UU
  go_wp2
  go_ret
  exact⟨rfl,AZ.out⟩
 ·obtain⟨UU,E,hF1,hF2⟩:=cls v1
  have HU:=hid hF2
  have HU1:=hid hF1
  have HX:Hid (∀u,Ab w (E u)):=fun u=>Ab.trans A1.out (hF1 u)
  have s0: ∀u,(E u).cell? ⟨gs,0,none⟩=some (.slice pb lb cb):=fun u=>aA 0 ((hF1 u).heap R1.out)
  have s1: ∀u,(E u).cell? ⟨gs,1,none⟩=some (.slice pw lw cw):=fun u=>aA 1 ((hF1 u).heap R1.out)
  have s2: ∀u,(E u).cell? ⟨gs,2,none⟩=some (.slice pt lt ct):=fun u=>aA 2 ((hF1 u).heap R1.out)
  have s3: ∀u,(E u).cell? ⟨gs,3,none⟩=some (.slice ps ls cs):=fun u=>aA 3 ((hF1 u).heap R1.out)
  have DD0:=HU.out _ (Ab.refl v1).drew
  clear hF1 hF2
  refine aI E (by kernel_rfl) (by kernel_rfl) DD0 ?_
  repeat(go_big_quiet_step (first
   | (with_reducible rfl)
   | (go_at_call 36;exact aC HU HU1 (CE.out _ (HX.out _)))))
  refine wpQuiet_nil ?_
  intro z hwz
  obtain⟨u0,hu⟩:=hwz
  have AZ:Hid (Ab w z):=by rw[hu];exact HX.out u0
  clear hu u0
  clear HU HU1 HX DD0 s0 s1 s2 s3
  clear E UU
  go_wp2
  go_ret
  exact⟨rfl,AZ.out⟩
 ·obtain⟨UU,E,hF1,hF2⟩:=cls v1
  have HU:=hid hF2
  have HU1:=hid hF1
  have HX:Hid (∀u,Ab w (E u)):=fun u=>Ab.trans A1.out (hF1 u)
  have s0: ∀u,(E u).cell? ⟨gs,0,none⟩=some (.slice pb lb cb):=fun u=>aA 0 ((hF1 u).heap R1.out)
  have s1: ∀u,(E u).cell? ⟨gs,1,none⟩=some (.slice pw lw cw):=fun u=>aA 1 ((hF1 u).heap R1.out)
  have s2: ∀u,(E u).cell? ⟨gs,2,none⟩=some (.slice pt lt ct):=fun u=>aA 2 ((hF1 u).heap R1.out)
  have s3: ∀u,(E u).cell? ⟨gs,3,none⟩=some (.slice ps ls cs):=fun u=>aA 3 ((hF1 u).heap R1.out)
  have DD0:=HU.out _ (Ab.refl v1).drew
  clear hF1 hF2
  refine aI E (by kernel_rfl) (by kernel_rfl) DD0 ?_
  repeat(go_big_quiet_step (first
   | (with_reducible rfl)
   | (go_at_call 36;exact aC HU HU1 (CE.out _ (HX.out _)))))
  refine wpQuiet_nil ?_
  intro z hwz
  obtain⟨u0,hu⟩:=hwz
  have AZ:Hid (Ab w z):=by rw[hu];exact HX.out u0
  clear hu u0
  clear HU HU1 HX DD0 s0 s1 s2 s3
  clear E UU
  go_wp2
  go_ret
  exact⟨rfl,AZ.out⟩
end
end Go.Proofs.YtilfdnipahabbaaGreatDoor
