/-
  Some of the texts of this proof, one behind the other.
-/
import Derived.Deep.QuietTactic
import Derived.ProofKit
import Derived.OpenShut
import Derived.WalkLawsBesides
import Derived.Stop.Joined
import Derived.Carry
import Derived.Lib.SmallJoins
import Derived.Deep.SlicePairs
import Derived.Deep.Slices
import Derived.SizedLaws
import Derived.Test.YtjheiemgfibgpaaGreatDoorTie
import Derived.Test.YtjheiemgfibgpaaGreatDoorCards
import Derived.LaidMore
import Derived.Test.YtjheiemgfibgpaaGreatDoorUb16
set_option maxRecDepth 100000
set_option maxHeartbeats 400000000
namespace Go.Proofs.YtjheiemgfibgpaaGreatDoor
open _root_.Go.Proofs.Tryz
section
open Go.RowKit Tf Cu Go.Deep Rl
attribute [local go_sem] aI aJ aN aO aP aQ aV aF
namespace Fc
theorem zS(gp:Value)(pb pw pt ps:Option Addr)(lb cb lw cw lt ct ls cs:Nat)(sky st:Int)(e:Int)(w:World)
  (EG:Hid (∀v,Ab w v->Calls prog 59 #[gp,.int .i64 e] v fun x w'=>x=.returned (.tuple #[.agg #[.int .i64 0,.int .i64 0,.int .i64 0,.int .i64 0],.bool false])/\Below v.heap.size v w')):
  Calls prog 41 #[gp,.agg #[.slice pb lb cb,.slice pw lw cw,.slice pt lt ct,.slice ps ls cs,.int .i64 sky,.int .i64 st],.int .i64 e] w fun x w'=>x=.returned (.tuple #[.agg #[.float .f64 0,.int .i64 0,.int .i64 0,.float .f64 0,.int .i64 0,.int .i64 0,.float .f64 0,.float .f64 0],.bool false])/\Below w.heap.size w w':=by
 obtain⟨W_W0,RS,RC⟩:=bW w (.cells #[.slice pb lb cb,.slice pw lw cw,.slice pt lt ct,.slice ps ls cs,.int .i64 sky,.int .i64 st] 29) (.cells #[.float .f64 0,.int .i64 0,.int .i64 0,.float .f64 0,.int .i64 0,.int .i64 0,.float .f64 0,.float .f64 0] 82)
 have LG:Hid (w.heap.size<=w.heap.size+1):=Nat.le_succ _
 go_enter func41,ntmps41
 go_upto_region 1 with fail
 generalize hW:World.alloc (World.alloc w _) _=W0 at*
 obtain⟨gs,hgs⟩:=aB w.heap.size
 obtain⟨gc,hgc⟩:=aB (w.heap.size+1)
 rw[hgc]at RC LG ⊢
 rw[hgs]at RS ⊢
 clear hgs hgc hW
 go_wp2_with fail
 refine(EG.out _ W_W0.out).mono ?_
 rintro e9 v1 ⟨rfl,k1⟩
 have W_v1:Hid (Ab w v1):=W_W0.out.call k1
 have RS1:=hid (Ab.heap k1 RS.out)
 have RC1:=hid (Ab.heap k1 RC.out)
 clear k1 W_W0 RS RC
 go_upto_region 2 with fail
 have RE:=hid (heap_alloc_new v1 (.cells #[.int .i64 0,.int .i64 0,.int .i64 0,.int .i64 0] 105))
 have W_V:Hid (Ab w (v1.alloc (.cells #[.int .i64 0,.int .i64 0,.int .i64 0,.int .i64 0] 105))):=W_v1.out.trans (bl1 _ _)
 have RS2:Hid ((v1.alloc (.cells #[.int .i64 0,.int .i64 0,.int .i64 0,.int .i64 0] 105)).heap[gs]? =some (.cells #[.slice pb lb cb,.slice pw lw cw,.slice pt lt ct,.slice ps ls cs,.int .i64 sky,.int .i64 st] 29)):=Ab.heap (bl1 _ _) RS1.out
 have RC2:Hid ((v1.alloc (.cells #[.int .i64 0,.int .i64 0,.int .i64 0,.int .i64 0] 105)).heap[gc]? =some (.cells #[.float .f64 0,.int .i64 0,.int .i64 0,.float .f64 0,.int .i64 0,.int .i64 0,.float .f64 0,.float .f64 0] 82)):=Ab.heap (bl1 _ _) RC1.out
 generalize hV:v1.alloc (.cells #[.int .i64 0,.int .i64 0,.int .i64 0,.int .i64 0] 105)=V at*
 obtain⟨ge,hge⟩:=aB v1.heap.size
 rw[hge]at RE ⊢
 clear hV hge W_v1 RS1 RC1
 have o0:=aA 0 RC2.out
 have q0:=aE RC2.out 0
 have o1:=aA 1 RC2.out
 have q1:=aE RC2.out 1
 have o2:=aA 2 RC2.out
 have q2:=aE RC2.out 2
 have o3:=aA 3 RC2.out
 have q3:=aE RC2.out 3
 have o4:=aA 4 RC2.out
 have q4:=aE RC2.out 4
 have o5:=aA 5 RC2.out
 have q5:=aE RC2.out 5
 have o6:=aA 6 RC2.out
 have q6:=aE RC2.out 6
 have o7:=aA 7 RC2.out
 have q7:=aE RC2.out 7
 go_wp2
 refine bodyPost_ret ?_ rfl ⟨rfl,?_⟩
 ·exact cG results41 _ _ gc _ _ (0,0) _ _ rfl rfl (row8 RC2.out) underlying82 rfl (by kernel_rfl)
 ·exact((((((((W_V.out.setk LG.out _).setk LG.out _).setk LG.out _).setk LG.out _).setk LG.out _).setk LG.out _).setk LG.out _).setk LG.out _)
theorem vI(gb:Nat)(pb pw pt ps:Option Addr)(lb cb lw cw lt ct ls cs:Nat)(sky st:Int)(e:Int)(lc s1 rc s2:Nat)(w:World)
  (EG:Hid (∀v,Ab w v->Calls prog 59 #[.pointer (some ⟨gb,0,none⟩),.int .i64 e] v fun x w'=>x=.returned (.tuple #[.agg #[.int .i64 (lc:Nat),.int .i64 (s1:Nat),.int .i64 (rc:Nat),.int .i64 (s2:Nat)],.bool true])/\Below v.heap.size v w'))
  (CF:Hid (∀v,Ab w v->Calls prog 62 #[.pointer (some ⟨gb,0,none⟩),.agg #[.slice pb lb cb,.slice pw lw cw,.slice pt lt ct,.slice ps ls cs,.int .i64 sky,.int .i64 st]] v fun x w'=>x=.returned (.bool false)/\Below v.heap.size v w')):
  Calls prog 41 #[.pointer (some ⟨gb,0,none⟩),.agg #[.slice pb lb cb,.slice pw lw cw,.slice pt lt ct,.slice ps ls cs,.int .i64 sky,.int .i64 st],.int .i64 e] w fun x w'=>x=.returned (.tuple #[.agg #[.float .f64 0,.int .i64 0,.int .i64 0,.float .f64 0,.int .i64 0,.int .i64 0,.float .f64 0,.float .f64 0],.bool false])/\Below w.heap.size w w':=by
 obtain⟨W_W0,RS,RC⟩:=bW w (.cells #[.slice pb lb cb,.slice pw lw cw,.slice pt lt ct,.slice ps ls cs,.int .i64 sky,.int .i64 st] 29) (.cells #[.float .f64 0,.int .i64 0,.int .i64 0,.float .f64 0,.int .i64 0,.int .i64 0,.float .f64 0,.float .f64 0] 82)
 have LG:Hid (w.heap.size<=w.heap.size+1):=Nat.le_succ _
 go_enter func41,ntmps41
 go_upto_region 1 with fail
 generalize hW:World.alloc (World.alloc w _) _=W0 at*
 obtain⟨gs,hgs⟩:=aB w.heap.size
 obtain⟨gc,hgc⟩:=aB (w.heap.size+1)
 rw[hgc]at RC LG ⊢
 rw[hgs]at RS ⊢
 clear hgs hgc hW
 go_wp2_with fail
 refine(EG.out _ W_W0.out).mono ?_
 rintro e9 v1 ⟨rfl,k1⟩
 have W_v1:Hid (Ab w v1):=W_W0.out.call k1
 have RS1:=hid (Ab.heap k1 RS.out)
 have RC1:=hid (Ab.heap k1 RC.out)
 clear k1 W_W0 RS RC
 go_upto_region 2 with fail
 have RE:=hid (heap_alloc_new v1 (.cells #[.int .i64 (lc:Nat),.int .i64 (s1:Nat),.int .i64 (rc:Nat),.int .i64 (s2:Nat)] 105))
 have W_V:Hid (Ab w (v1.alloc (.cells #[.int .i64 (lc:Nat),.int .i64 (s1:Nat),.int .i64 (rc:Nat),.int .i64 (s2:Nat)] 105))):=W_v1.out.trans (bl1 _ _)
 have RS2:Hid ((v1.alloc (.cells #[.int .i64 (lc:Nat),.int .i64 (s1:Nat),.int .i64 (rc:Nat),.int .i64 (s2:Nat)] 105)).heap[gs]? =some (.cells #[.slice pb lb cb,.slice pw lw cw,.slice pt lt ct,.slice ps ls cs,.int .i64 sky,.int .i64 st] 29)):=Ab.heap (bl1 _ _) RS1.out
 have RC2:Hid ((v1.alloc (.cells #[.int .i64 (lc:Nat),.int .i64 (s1:Nat),.int .i64 (rc:Nat),.int .i64 (s2:Nat)] 105)).heap[gc]? =some (.cells #[.float .f64 0,.int .i64 0,.int .i64 0,.float .f64 0,.int .i64 0,.int .i64 0,.float .f64 0,.float .f64 0] 82)):=Ab.heap (bl1 _ _) RC1.out
 generalize hV:v1.alloc (.cells #[.int .i64 (lc:Nat),.int .i64 (s1:Nat),.int .i64 (rc:Nat),.int .i64 (s2:Nat)] 105)=V at*
 obtain⟨ge,hge⟩:=aB v1.heap.size
 rw[hge]at RE ⊢
 clear hV hge W_v1 RS1 RC1
 have y0:=aA 0 RS2.out
 have y1:=aA 1 RS2.out
 have y2:=aA 2 RS2.out
 have y3:=aA 3 RS2.out
 have y4:=aA 4 RS2.out
 have y5:=aA 5 RS2.out
 go_wp2_with fail
 refine(CF.out _ W_V.out).mono ?_
 rintro e9 v2 ⟨rfl,k1⟩
 have W_v2:Hid (Ab w v2):=W_V.out.call k1
 have RC3:=hid (Ab.heap k1 RC2.out)
 clear k1 W_V RC2 y0 y1 y2 y3 y4 y5
 have o0:=aA 0 RC3.out
 have q0:=aE RC3.out 0
 have o1:=aA 1 RC3.out
 have q1:=aE RC3.out 1
 have o2:=aA 2 RC3.out
 have q2:=aE RC3.out 2
 have o3:=aA 3 RC3.out
 have q3:=aE RC3.out 3
 have o4:=aA 4 RC3.out
 have q4:=aE RC3.out 4
 have o5:=aA 5 RC3.out
 have q5:=aE RC3.out 5
 have o6:=aA 6 RC3.out
 have q6:=aE RC3.out 6
 have o7:=aA 7 RC3.out
 have q7:=aE RC3.out 7
 go_wp2
 refine bodyPost_ret ?_ rfl ⟨rfl,?_⟩
 ·exact cG results41 _ _ gc _ _ (0,0) _ _ rfl rfl (row8 RC3.out) underlying82 rfl (by kernel_rfl)
 ·exact((((((((W_v2.out.setk LG.out _).setk LG.out _).setk LG.out _).setk LG.out _).setk LG.out _).setk LG.out _).setk LG.out _).setk LG.out _)
theorem zT(gb bb bo wb wo sb so M N cb cw cs:Nat)(pt:Option Addr)(lt ct:Nat)(sky st:Int)(e lc s1 rc s2:Nat)(bl br gap vu:Nat)(wl al wr ar:Int)(w:World)(he:((e:Nat):Int)<N)
  (EG:Hid (∀v,Ab w v->Calls prog 59 #[.pointer (some ⟨gb,0,none⟩),.int .i64 (e:Nat)] v fun x w'=>x=.returned (.tuple #[.agg #[.int .i64 (lc:Nat),.int .i64 (s1:Nat),.int .i64 (rc:Nat),.int .i64 (s2:Nat)],.bool true])/\Below v.heap.size v w'))
  (CF:Hid (∀v,Ab w v->Calls prog 62 #[.pointer (some ⟨gb,0,none⟩),.agg #[.slice (some ⟨bb,bo,none⟩) M cb,.slice (some ⟨wb,wo,none⟩) M cw,.slice pt lt ct,.slice (some ⟨sb,so,none⟩) N cs,.int .i64 sky,.int .i64 st]] v fun x w'=>x=.returned (.bool true)/\Below v.heap.size v w'))
  (CL:Hid (∀v,Ab w v->Calls prog 63 #[.pointer (some ⟨gb,0,none⟩),.agg #[.slice (some ⟨bb,bo,none⟩) M cb,.slice (some ⟨wb,wo,none⟩) M cw,.slice pt lt ct,.slice (some ⟨sb,so,none⟩) N cs,.int .i64 sky,.int .i64 st],.int .i64 (lc:Nat)] v fun x w'=>x=.returned (.agg #[.float .f64 bl,.int .i64 wl,.int .i64 al])/\Below v.heap.size v w'))
  (CR:Hid (∀v,Ab w v->Calls prog 63 #[.pointer (some ⟨gb,0,none⟩),.agg #[.slice (some ⟨bb,bo,none⟩) M cb,.slice (some ⟨wb,wo,none⟩) M cw,.slice pt lt ct,.slice (some ⟨sb,so,none⟩) N cs,.int .i64 sky,.int .i64 st],.int .i64 (rc:Nat)] v fun x w'=>x=.returned (.agg #[.float .f64 br,.int .i64 wr,.int .i64 ar])/\Below v.heap.size v w'))
  (CG:Hid (∀v,Ab w v->Calls prog 64 #[.pointer (some ⟨gb,0,none⟩),.int .i64 (e:Nat)] v fun x w'=>x=.returned (.float .f64 gap)/\Below v.heap.size v w'))
  (FSp:Hid (∀v,Ab w v->v.cell? ⟨sb,so+e,none⟩=some (.float .f64 vu))):
  Calls prog 41 #[.pointer (some ⟨gb,0,none⟩),.agg #[.slice (some ⟨bb,bo,none⟩) M cb,.slice (some ⟨wb,wo,none⟩) M cw,.slice pt lt ct,.slice (some ⟨sb,so,none⟩) N cs,.int .i64 sky,.int .i64 st],.int .i64 (e:Nat)] w fun x w'=>x=.returned (.tuple #[.agg #[.float .f64 bl,.int .i64 wl,.int .i64 al,.float .f64 br,.int .i64 wr,.int .i64 ar,.float .f64 gap,.float .f64 vu],.bool true])/\Below w.heap.size w w':=by
 obtain⟨W_W0,RS,RC⟩:=bW w (.cells #[.slice (some ⟨bb,bo,none⟩) M cb,.slice (some ⟨wb,wo,none⟩) M cw,.slice pt lt ct,.slice (some ⟨sb,so,none⟩) N cs,.int .i64 sky,.int .i64 st] 29) (.cells #[.float .f64 0,.int .i64 0,.int .i64 0,.float .f64 0,.int .i64 0,.int .i64 0,.float .f64 0,.float .f64 0] 82)
 have LG:Hid (w.heap.size<=w.heap.size+1):=Nat.le_succ _
 go_enter func41,ntmps41
 go_upto_region 1 with fail
 generalize hW:World.alloc (World.alloc w _) _=W0 at*
 obtain⟨gs,hgs⟩:=aB w.heap.size
 obtain⟨gc,hgc⟩:=aB (w.heap.size+1)
 rw[hgc]at RC LG ⊢
 rw[hgs]at RS ⊢
 clear hgs hgc hW
 go_wp2_with fail
 refine(EG.out _ W_W0.out).mono ?_
 rintro e9 v1 ⟨rfl,k1⟩
 have W_v1:Hid (Ab w v1):=W_W0.out.call k1
 have RS1:=hid (Ab.heap k1 RS.out)
 have RC1:=hid (Ab.heap k1 RC.out)
 clear k1 W_W0 RS RC
 go_upto_region 2 with fail
 have RE:=hid (heap_alloc_new v1 (.cells #[.int .i64 (lc:Nat),.int .i64 (s1:Nat),.int .i64 (rc:Nat),.int .i64 (s2:Nat)] 105))
 have W_V:Hid (Ab w (v1.alloc (.cells #[.int .i64 (lc:Nat),.int .i64 (s1:Nat),.int .i64 (rc:Nat),.int .i64 (s2:Nat)] 105))):=W_v1.out.trans (bl1 _ _)
 have RS2:Hid ((v1.alloc (.cells #[.int .i64 (lc:Nat),.int .i64 (s1:Nat),.int .i64 (rc:Nat),.int .i64 (s2:Nat)] 105)).heap[gs]? =some (.cells #[.slice (some ⟨bb,bo,none⟩) M cb,.slice (some ⟨wb,wo,none⟩) M cw,.slice pt lt ct,.slice (some ⟨sb,so,none⟩) N cs,.int .i64 sky,.int .i64 st] 29)):=Ab.heap (bl1 _ _) RS1.out
 have RC2:Hid ((v1.alloc (.cells #[.int .i64 (lc:Nat),.int .i64 (s1:Nat),.int .i64 (rc:Nat),.int .i64 (s2:Nat)] 105)).heap[gc]? =some (.cells #[.float .f64 0,.int .i64 0,.int .i64 0,.float .f64 0,.int .i64 0,.int .i64 0,.float .f64 0,.float .f64 0] 82)):=Ab.heap (bl1 _ _) RC1.out
 generalize hV:v1.alloc (.cells #[.int .i64 (lc:Nat),.int .i64 (s1:Nat),.int .i64 (rc:Nat),.int .i64 (s2:Nat)] 105)=V at*
 obtain⟨ge,hge⟩:=aB v1.heap.size
 rw[hge]at RE ⊢
 clear hV hge W_v1 RS1 RC1
 have y0:=aA 0 RS2.out
 have y1:=aA 1 RS2.out
 have y2:=aA 2 RS2.out
 have y3:=aA 3 RS2.out
 have y4:=aA 4 RS2.out
 have y5:=aA 5 RS2.out
 go_wp2_with fail
 refine(CF.out _ W_V.out).mono ?_
 rintro e9 v2 ⟨rfl,k1⟩
 have W_v2:Hid (Ab w v2):=W_V.out.call k1
 have RC3:=hid (Ab.heap k1 RC2.out)
 have RS3:=hid (Ab.heap k1 RS2.out)
 have RE3:=hid (Ab.heap k1 RE.out)
 clear k1 W_V RC2 RS2 RE y0 y1 y2 y3 y4 y5
 go_upto_region 4 with fail
 obtain⟨UU,E,hF1,hF2⟩:=cls v2
 have HU:=hid hF2
 have HU1:=hid hF1
 have HX:Hid (∀u,Ab w (E u)):=fun u=>W_v2.out.trans (hF1 u)
 have x0: ∀u,(E u).cell? ⟨gs,0,none⟩=some (.slice (some ⟨bb,bo,none⟩) M cb):=fun u=>aA 0 ((hF1 u).heap RS3.out)
 have x1: ∀u,(E u).cell? ⟨gs,1,none⟩=some (.slice (some ⟨wb,wo,none⟩) M cw):=fun u=>aA 1 ((hF1 u).heap RS3.out)
 have x2: ∀u,(E u).cell? ⟨gs,2,none⟩=some (.slice pt lt ct):=fun u=>aA 2 ((hF1 u).heap RS3.out)
 have x3: ∀u,(E u).cell? ⟨gs,3,none⟩=some (.slice (some ⟨sb,so,none⟩) N cs):=fun u=>aA 3 ((hF1 u).heap RS3.out)
 have x4: ∀u,(E u).cell? ⟨gs,4,none⟩=some (.int .i64 sky):=fun u=>aA 4 ((hF1 u).heap RS3.out)
 have x5: ∀u,(E u).cell? ⟨gs,5,none⟩=some (.int .i64 st):=fun u=>aA 5 ((hF1 u).heap RS3.out)
 have ye: ∀u,(E u).cell? ⟨ge,0,none⟩=some (.int .i64 (lc:Nat)):=fun u=>aA 0 ((hF1 u).heap RE3.out)
 have yf: ∀u,(E u).cell? ⟨ge,2,none⟩=some (.int .i64 (rc:Nat)):=fun u=>aA 2 ((hF1 u).heap RE3.out)
 have ys: ∀u,(E u).cell? ⟨sb,so+e,none⟩=some (.float .f64 vu):=fun u=>FSp.out _ (HX.out u)
 have DD0:=HU.out _ (Ab.refl v2).drew
 clear hF1 hF2
 refine cS 19 E (by kernel_rfl) (by kernel_rfl) (by kernel_rfl) DD0 ?_
 simp only[List.take_succ_cons,List.take_zero,List.drop_succ_cons,List.drop_zero]
 repeat(go_big_quiet_step (first
  | (with_reducible rfl)
  | (go_at_call_of 63 lc;exact aD HU HU1 (CL.out _ (HX.out _)))
  | (go_at_call_of 63 rc;exact aD HU HU1 (CR.out _ (HX.out _)))
  | (go_at_call 64;exact aD HU HU1 (CG.out _ (HX.out _)))))
 refine wpQuiet_nil ?_
 intro z hwz
 obtain⟨u0,hu⟩:=hwz
 have AZ:Hid (Ab v2 z):=by rw[hu];exact HU1.out u0
 clear hu u0
 clear HU HU1 DD0 HX x0 x1 x2 x3 x4 x5 ye yf ys
 clear E UU
 have W_z:Hid (Ab w z):=W_v2.out.trans AZ.out
 have RZ:=hid (Ab.heap AZ.out RC3.out)
 have o0:=aA 0 RZ.out
 have q0:=aE RZ.out 0
 have o1:=aA 1 RZ.out
 have q1:=aE RZ.out 1
 have o2:=aA 2 RZ.out
 have q2:=aE RZ.out 2
 have o3:=aA 3 RZ.out
 have q3:=aE RZ.out 3
 have o4:=aA 4 RZ.out
 have q4:=aE RZ.out 4
 have o5:=aA 5 RZ.out
 have q5:=aE RZ.out 5
 have o6:=aA 6 RZ.out
 have q6:=aE RZ.out 6
 have o7:=aA 7 RZ.out
 have q7:=aE RZ.out 7
 go_wp2
 refine bodyPost_ret ?_ rfl ⟨rfl,?_⟩
 ·exact cG results41 _ _ gc _ _ (0,0) _ _ rfl rfl (row8 RZ.out) underlying82 rfl (by kernel_rfl)
 ·exact((((((((W_z.out.setk LG.out _).setk LG.out _).setk LG.out _).setk LG.out _).setk LG.out _).setk LG.out _).setk LG.out _).setk LG.out _)
end Fc
end
section
open Go.RowKit Tf Cu Go.Deep Rl
attribute [local go_sem] aI aJ aN aO aP aQ aV aF
namespace Fc
theorem open_no(gp:Value)(pb pw pt ps:Option Addr)(lb cb lw cw lt ct ls cs:Nat)(sky st:Int)(e:Int)(w:World)
  (EO:Hid (∀v,Ab w v->Calls prog 41 #[gp,.agg #[.slice pb lb cb,.slice pw lw cw,.slice pt lt ct,.slice ps ls cs,.int .i64 sky,.int .i64 st],.int .i64 e] v fun x w'=>x=.returned (.tuple #[.agg #[.float .f64 0,.int .i64 0,.int .i64 0,.float .f64 0,.int .i64 0,.int .i64 0,.float .f64 0,.float .f64 0],.bool false])/\Below v.heap.size v w')):
  Calls prog 11 #[gp,.agg #[.slice pb lb cb,.slice pw lw cw,.slice pt lt ct,.slice ps ls cs,.int .i64 sky,.int .i64 st],.int .i64 e] w fun x w'=>x=.returned (.bool false)/\Below w.heap.size w w':=by
 obtain⟨W_W0,RS⟩:=bV w (.cells #[.slice pb lb cb,.slice pw lw cw,.slice pt lt ct,.slice ps ls cs,.int .i64 sky,.int .i64 st] 29)
 go_enter func11,ntmps11
 go_upto_region 1 with fail
 generalize hW:World.alloc w _=W0 at*
 obtain⟨gs,hgs⟩:=aB w.heap.size
 rw[hgs]at RS ⊢
 clear hgs hW
 have y0:=aA 0 RS.out
 have y1:=aA 1 RS.out
 have y2:=aA 2 RS.out
 have y3:=aA 3 RS.out
 have y4:=aA 4 RS.out
 have y5:=aA 5 RS.out
 go_wp2_with fail
 refine(EO.out _ W_W0.out).mono ?_
 rintro e9 v1 ⟨rfl,k1⟩
 have W_v1:Hid (Ab w v1):=W_W0.out.call k1
 clear k1 W_W0 RS y0 y1 y2 y3 y4 y5
 have W_V:Hid (Ab w (v1.alloc (.cells #[.float .f64 0,.int .i64 0,.int .i64 0,.float .f64 0,.int .i64 0,.int .i64 0,.float .f64 0,.float .f64 0] 82))):=W_v1.out.trans (bl1 _ _)
 go_wp2
 go_ret
 exact⟨rfl,W_V.out⟩
theorem open_go(gp:Value)(pb pw pt ps:Option Addr)(lb cb lw cw lt ct ls cs:Nat)(sky st:Int)(e:Int)(bl br gap vu:Nat)(wl al wr ar:Int)(q:Bool)(w:World)
  (EO:Hid (∀v,Ab w v->Calls prog 41 #[gp,.agg #[.slice pb lb cb,.slice pw lw cw,.slice pt lt ct,.slice ps ls cs,.int .i64 sky,.int .i64 st],.int .i64 e] v fun x w'=>x=.returned (.tuple #[.agg #[.float .f64 bl,.int .i64 wl,.int .i64 al,.float .f64 br,.int .i64 wr,.int .i64 ar,.float .f64 gap,.float .f64 vu],.bool true])/\Below v.heap.size v w'))
  (OP:Hid (∀v,Calls prog 42 #[.agg #[.float .f64 bl,.int .i64 wl,.int .i64 al,.float .f64 br,.int .i64 wr,.int .i64 ar,.float .f64 gap,.float .f64 vu]] v fun x w'=>x=.returned (.bool q)/\Below v.heap.size v w')):
  Calls prog 11 #[gp,.agg #[.slice pb lb cb,.slice pw lw cw,.slice pt lt ct,.slice ps ls cs,.int .i64 sky,.int .i64 st],.int .i64 e] w fun x w'=>x=.returned (.bool q)/\Below w.heap.size w w':=by
 obtain⟨W_W0,RS⟩:=bV w (.cells #[.slice pb lb cb,.slice pw lw cw,.slice pt lt ct,.slice ps ls cs,.int .i64 sky,.int .i64 st] 29)
 go_enter func11,ntmps11
 go_upto_region 1 with fail
 generalize hW:World.alloc w _=W0 at*
 obtain⟨gs,hgs⟩:=aB w.heap.size
 rw[hgs]at RS ⊢
 clear hgs hW
 have y0:=aA 0 RS.out
 have y1:=aA 1 RS.out
 have y2:=aA 2 RS.out
 have y3:=aA 3 RS.out
 have y4:=aA 4 RS.out
 have y5:=aA 5 RS.out
 go_wp2_with fail
 refine(EO.out _ W_W0.out).mono ?_
 rintro e9 v1 ⟨rfl,k1⟩
 have W_v1:Hid (Ab w v1):=W_W0.out.call k1
 clear k1 W_W0 RS y0 y1 y2 y3 y4 y5
 have W_V:Hid (Ab w (v1.alloc (.cells #[.float .f64 bl,.int .i64 wl,.int .i64 al,.float .f64 br,.int .i64 wr,.int .i64 ar,.float .f64 gap,.float .f64 vu] 82))):=W_v1.out.trans (bl1 _ _)
 go_wp2_with fail
 refine(OP.out _).mono ?_
 rintro e9 v2 ⟨rfl,k1⟩
 have W_v2:Hid (Ab w v2):=W_V.out.call k1
 clear k1 W_V W_v1
 go_wp2
 go_ret
 exact⟨rfl,W_v2.out⟩
theorem speed_no(g9:Value)(sd:Int)(dt gr dr:Nat)(lim:Int)(rv:Bool)(pr:Option Addr)(lr cr:Nat)(pb pw pt ps:Option Addr)(lb cb lw cw lt ct ls cs:Nat)(sky st:Int)(e:Int)(w:World)
  (EO:Hid (∀v,Ab w v->Calls prog 41 #[g9,.agg #[.slice pb lb cb,.slice pw lw cw,.slice pt lt ct,.slice ps ls cs,.int .i64 sky,.int .i64 st],.int .i64 e] v fun x w'=>x=.returned (.tuple #[.agg #[.float .f64 0,.int .i64 0,.int .i64 0,.float .f64 0,.int .i64 0,.int .i64 0,.float .f64 0,.float .f64 0],.bool false])/\Below v.heap.size v w')):
  Calls prog 13 #[g9,.agg #[.int .i64 sd,.float .f64 dt,.float .f64 gr,.float .f64 dr,.int .i64 lim,.bool rv,.slice pr lr cr],.agg #[.slice pb lb cb,.slice pw lw cw,.slice pt lt ct,.slice ps ls cs,.int .i64 sky,.int .i64 st],.int .i64 e] w fun x w'=>x=.returned (.float .f64 0)/\Below w.heap.size w w':=by
 obtain⟨W_W0,RP,RS⟩:=bW w (.cells #[.int .i64 sd,.float .f64 dt,.float .f64 gr,.float .f64 dr,.int .i64 lim,.bool rv,.slice pr lr cr] 25) (.cells #[.slice pb lb cb,.slice pw lw cw,.slice pt lt ct,.slice ps ls cs,.int .i64 sky,.int .i64 st] 29)
 go_enter func13,ntmps13
 go_upto_region 1 with fail
 generalize hW:World.alloc (World.alloc w _) _=W0 at*
 obtain⟨gp,hgp⟩:=aB w.heap.size
 obtain⟨gs,hgs⟩:=aB (w.heap.size+1)
 rw[hgs]at RS ⊢
 rw[hgp]at RP ⊢
 clear hgs hgp hW
 have y0:=aA 0 RS.out
 have y1:=aA 1 RS.out
 have y2:=aA 2 RS.out
 have y3:=aA 3 RS.out
 have y4:=aA 4 RS.out
 have y5:=aA 5 RS.out
 go_wp2_with fail
 refine(EO.out _ W_W0.out).mono ?_
 rintro e9 v1 ⟨rfl,k1⟩
 have W_v1:Hid (Ab w v1):=W_W0.out.call k1
 have RP1:=hid (Ab.heap k1 RP.out)
 clear k1 W_W0 RS RP y0 y1 y2 y3 y4 y5
 have W_V:Hid (Ab w (v1.alloc (.cells #[.float .f64 0,.int .i64 0,.int .i64 0,.float .f64 0,.int .i64 0,.int .i64 0,.float .f64 0,.float .f64 0] 82))):=W_v1.out.trans (bl1 _ _)
 go_wp2
 go_ret
 exact⟨rfl,W_V.out⟩
theorem vJ(g9:Value)(sd:Int)(dt gr dr:Nat)(lim:Int)(rv:Bool)(pr:Option Addr)(lr cr:Nat)(pb pw pt ps:Option Addr)(lb cb lw cw lt ct ls cs:Nat)(sky st:Int)(e:Int)(bl br gap vu:Nat)(wl al wr ar:Int)(w:World)
  (EO:Hid (∀v,Ab w v->Calls prog 41 #[g9,.agg #[.slice pb lb cb,.slice pw lw cw,.slice pt lt ct,.slice ps ls cs,.int .i64 sky,.int .i64 st],.int .i64 e] v fun x w'=>x=.returned (.tuple #[.agg #[.float .f64 bl,.int .i64 wl,.int .i64 al,.float .f64 br,.int .i64 wr,.int .i64 ar,.float .f64 gap,.float .f64 vu],.bool true])/\Below v.heap.size v w'))
  (OP:Hid (∀v,Calls prog 42 #[.agg #[.float .f64 bl,.int .i64 wl,.int .i64 al,.float .f64 br,.int .i64 wr,.int .i64 ar,.float .f64 gap,.float .f64 vu]] v fun x w'=>x=.returned (.bool false)/\Below v.heap.size v w')):
  Calls prog 13 #[g9,.agg #[.int .i64 sd,.float .f64 dt,.float .f64 gr,.float .f64 dr,.int .i64 lim,.bool rv,.slice pr lr cr],.agg #[.slice pb lb cb,.slice pw lw cw,.slice pt lt ct,.slice ps ls cs,.int .i64 sky,.int .i64 st],.int .i64 e] w fun x w'=>x=.returned (.float .f64 0)/\Below w.heap.size w w':=by
 obtain⟨W_W0,RP,RS⟩:=bW w (.cells #[.int .i64 sd,.float .f64 dt,.float .f64 gr,.float .f64 dr,.int .i64 lim,.bool rv,.slice pr lr cr] 25) (.cells #[.slice pb lb cb,.slice pw lw cw,.slice pt lt ct,.slice ps ls cs,.int .i64 sky,.int .i64 st] 29)
 go_enter func13,ntmps13
 go_upto_region 1 with fail
 generalize hW:World.alloc (World.alloc w _) _=W0 at*
 obtain⟨gp,hgp⟩:=aB w.heap.size
 obtain⟨gs,hgs⟩:=aB (w.heap.size+1)
 rw[hgs]at RS ⊢
 rw[hgp]at RP ⊢
 clear hgs hgp hW
 have y0:=aA 0 RS.out
 have y1:=aA 1 RS.out
 have y2:=aA 2 RS.out
 have y3:=aA 3 RS.out
 have y4:=aA 4 RS.out
 have y5:=aA 5 RS.out
 go_wp2_with fail
 refine(EO.out _ W_W0.out).mono ?_
 rintro e9 v1 ⟨rfl,k1⟩
 have W_v1:Hid (Ab w v1):=W_W0.out.call k1
 have RP1:=hid (Ab.heap k1 RP.out)
 clear k1 W_W0 RS RP y0 y1 y2 y3 y4 y5
 have W_V:Hid (Ab w (v1.alloc (.cells #[.float .f64 bl,.int .i64 wl,.int .i64 al,.float .f64 br,.int .i64 wr,.int .i64 ar,.float .f64 gap,.float .f64 vu] 82))):=W_v1.out.trans (bl1 _ _)
 go_wp2_with fail
 refine(OP.out _).mono ?_
 rintro e9 v2 ⟨rfl,k1⟩
 have W_v2:Hid (Ab w v2):=W_V.out.call k1
 clear k1 W_V W_v1
 go_wp2
 go_ret
 exact⟨rfl,W_v2.out⟩
theorem speed_go(g9:Value)(sd:Int)(dt gr dr:Nat)(lim:Int)(rv:Bool)(pr:Option Addr)(lr cr:Nat)(pb pw pt ps:Option Addr)(lb cb lw cw lt ct ls cs:Nat)(sky st:Int)(e:Int)(bl br gap vu:Nat)(wl al wr ar:Int)(y:Nat)(UQ HQ:Nat->Prop)(w:World)
  (EO:Hid (∀v,Ab w v->Calls prog 41 #[g9,.agg #[.slice pb lb cb,.slice pw lw cw,.slice pt lt ct,.slice ps ls cs,.int .i64 sky,.int .i64 st],.int .i64 e] v fun x w'=>x=.returned (.tuple #[.agg #[.float .f64 bl,.int .i64 wl,.int .i64 al,.float .f64 br,.int .i64 wr,.int .i64 ar,.float .f64 gap,.float .f64 vu],.bool true])/\Below v.heap.size v w'))
  (OP:Hid (∀v,Calls prog 42 #[.agg #[.float .f64 bl,.int .i64 wl,.int .i64 al,.float .f64 br,.int .i64 wr,.int .i64 ar,.float .f64 gap,.float .f64 vu]] v fun x w'=>x=.returned (.bool true)/\Below v.heap.size v w'))
  (PU:Hid (∀v,Calls prog 45 #[.agg #[.float .f64 bl,.int .i64 wl,.int .i64 al,.float .f64 br,.int .i64 wr,.int .i64 ar,.float .f64 gap,.float .f64 vu],.agg #[.int .i64 sd,.float .f64 dt,.float .f64 gr,.float .f64 dr,.int .i64 lim,.bool rv,.slice pr lr cr]] v fun x w'=>(∃r,x=.returned (.float .f64 r)/\UQ r)/\Below v.heap.size v w'))
  (DE:Hid (∀v,Calls prog 46 #[.agg #[.float .f64 bl,.int .i64 wl,.int .i64 al,.float .f64 br,.int .i64 wr,.int .i64 ar,.float .f64 gap,.float .f64 vu]] v fun x w'=>(∃r,x=.returned (.float .f64 r)/\HQ r)/\Below v.heap.size v w'))
  (DG:Hid (∀u h,UQ u->HQ h-> ∀v,Calls prog 44 #[.agg #[.int .i64 sd,.float .f64 dt,.float .f64 gr,.float .f64 dr,.int .i64 lim,.bool rv,.slice pr lr cr],.float .f64 u,.float .f64 h] v fun x w'=>x=.returned (.float .f64 y)/\Below v.heap.size v w')):
  Calls prog 13 #[g9,.agg #[.int .i64 sd,.float .f64 dt,.float .f64 gr,.float .f64 dr,.int .i64 lim,.bool rv,.slice pr lr cr],.agg #[.slice pb lb cb,.slice pw lw cw,.slice pt lt ct,.slice ps ls cs,.int .i64 sky,.int .i64 st],.int .i64 e] w fun x w'=>x=.returned (.float .f64 y)/\Below w.heap.size w w':=by
 obtain⟨W_W0,RP,RS⟩:=bW w (.cells #[.int .i64 sd,.float .f64 dt,.float .f64 gr,.float .f64 dr,.int .i64 lim,.bool rv,.slice pr lr cr] 25) (.cells #[.slice pb lb cb,.slice pw lw cw,.slice pt lt ct,.slice ps ls cs,.int .i64 sky,.int .i64 st] 29)
 go_enter func13,ntmps13
 go_upto_region 1 with fail
 generalize hW:World.alloc (World.alloc w _) _=W0 at*
 obtain⟨gp,hgp⟩:=aB w.heap.size
 obtain⟨gs,hgs⟩:=aB (w.heap.size+1)
 rw[hgs]at RS ⊢
 rw[hgp]at RP ⊢
 clear hgs hgp hW
 have y0:=aA 0 RS.out
 have y1:=aA 1 RS.out
 have y2:=aA 2 RS.out
 have y3:=aA 3 RS.out
 have y4:=aA 4 RS.out
 have y5:=aA 5 RS.out
 go_wp2_with fail
 refine(EO.out _ W_W0.out).mono ?_
 rintro e9 v1 ⟨rfl,k1⟩
 have W_v1:Hid (Ab w v1):=W_W0.out.call k1
 have RP1:=hid (Ab.heap k1 RP.out)
 clear k1 W_W0 RS RP y0 y1 y2 y3 y4 y5
 have W_V:Hid (Ab w (v1.alloc (.cells #[.float .f64 bl,.int .i64 wl,.int .i64 al,.float .f64 br,.int .i64 wr,.int .i64 ar,.float .f64 gap,.float .f64 vu] 82))):=W_v1.out.trans (bl1 _ _)
 have RE1:=hid (heap_alloc_new v1 (.cells #[.float .f64 bl,.int .i64 wl,.int .i64 al,.float .f64 br,.int .i64 wr,.int .i64 ar,.float .f64 gap,.float .f64 vu] 82))
 have RPV:Hid ((v1.alloc (.cells #[.float .f64 bl,.int .i64 wl,.int .i64 al,.float .f64 br,.int .i64 wr,.int .i64 ar,.float .f64 gap,.float .f64 vu] 82)).heap[gp]? =some (.cells #[.int .i64 sd,.float .f64 dt,.float .f64 gr,.float .f64 dr,.int .i64 lim,.bool rv,.slice pr lr cr] 25)):=Ab.heap (bl1 _ _) RP1.out
 go_wp2_with fail
 refine(OP.out _).mono ?_
 rintro e9 v2 ⟨rfl,k1⟩
 have W_W0:Hid (Ab w v2):=W_V.out.call k1
 have RE2:=hid (Ab.heap k1 RE1.out)
 have RP2:=hid (Ab.heap k1 RPV.out)
 clear k1 W_V RE1 RPV RP1 W_v1
 go_upto_region 4 with fail
 obtain⟨ge,hge⟩:=aB v1.heap.size
 rw[hge]at RE2 ⊢
 clear hge
 refine Rl.jA (fun i v=>match i with
   | 0=>v=.agg #[.int .i64 sd,.float .f64 dt,.float .f64 gr,.float .f64 dr,.int .i64 lim,.bool rv,.slice pr lr cr]
   | 1=>v=.agg #[.float .f64 bl,.int .i64 wl,.int .i64 al,.float .f64 br,.int .i64 wr,.int .i64 ar,.float .f64 gap,.float .f64 vu]
   | 2=>v=.agg #[.int .i64 sd,.float .f64 dt,.float .f64 gr,.float .f64 dr,.int .i64 lim,.bool rv,.slice pr lr cr]
   | 3=> ∃r,v=.float .f64 r/\UQ r
   | 4=>v=.agg #[.float .f64 bl,.int .i64 wl,.int .i64 al,.float .f64 br,.int .i64 wr,.int .i64 ar,.float .f64 gap,.float .f64 vu]
   | 5=> ∃r,v=.float .f64 r/\HQ r
   | 6=>v=.float .f64 y
   | _=>v=.float .f64 y) (fun w9=>Ab v2 w9) (by kernel_rfl) (by kernel_rfl) (by kernel_rfl) (Ab.refl v2).drew ?_ ?_
 ·refine Rl.aL 1 (fun v=>v=.agg #[.int .i64 sd,.float .f64 dt,.float .f64 gr,.float .f64 dr,.int .i64 lim,.bool rv,.slice pr lr cr]) rfl rfl ?_ ?_
  ·intro x v hC hR
   have y0:=aA 0 (hC.heap RP2.out)
   have y1:=aA 1 (hC.heap RP2.out)
   have y2:=aA 2 (hC.heap RP2.out)
   have y3:=aA 3 (hC.heap RP2.out)
   have y4:=aA 4 (hC.heap RP2.out)
   have y5:=aA 5 (hC.heap RP2.out)
   have y6:=aA 6 (hC.heap RP2.out)
   clear hR
   intro K hK
   simp only[putAll,Act.put,List.setIfInBounds_toArray,List.set_cons_zero,List.set_cons_succ,Nat.reduceAdd,Nat.zero_add]at hK ⊢
   go_simp
   exact hK.out _ _ rfl hC
  refine Rl.aL 2 (fun v=>v=.agg #[.float .f64 bl,.int .i64 wl,.int .i64 al,.float .f64 br,.int .i64 wr,.int .i64 ar,.float .f64 gap,.float .f64 vu]) rfl rfl ?_ ?_
  ·intro x v hC hR
   have y0:=aA 0 (hC.heap RE2.out)
   have y1:=aA 1 (hC.heap RE2.out)
   have y2:=aA 2 (hC.heap RE2.out)
   have y3:=aA 3 (hC.heap RE2.out)
   have y4:=aA 4 (hC.heap RE2.out)
   have y5:=aA 5 (hC.heap RE2.out)
   have y6:=aA 6 (hC.heap RE2.out)
   have y7:=aA 7 (hC.heap RE2.out)
   clear hR
   intro K hK
   simp only[putAll,Act.put,List.setIfInBounds_toArray,List.set_cons_zero,List.set_cons_succ,Nat.reduceAdd,Nat.zero_add]at hK ⊢
   go_simp
   exact hK.out _ _ rfl hC
  refine Rl.aL 3 (fun v=>v=.agg #[.int .i64 sd,.float .f64 dt,.float .f64 gr,.float .f64 dr,.int .i64 lim,.bool rv,.slice pr lr cr]) rfl rfl ?_ ?_
  ·intro x v hC hR
   have y0:=aA 0 (hC.heap RP2.out)
   have y1:=aA 1 (hC.heap RP2.out)
   have y2:=aA 2 (hC.heap RP2.out)
   have y3:=aA 3 (hC.heap RP2.out)
   have y4:=aA 4 (hC.heap RP2.out)
   have y5:=aA 5 (hC.heap RP2.out)
   have y6:=aA 6 (hC.heap RP2.out)
   clear hR
   intro K hK
   simp only[putAll,Act.put,List.setIfInBounds_toArray,List.set_cons_zero,List.set_cons_succ,Nat.reduceAdd,Nat.zero_add]at hK ⊢
   go_simp
   exact hK.out _ _ rfl hC
  refine Rl.aL 4 (fun v=> ∃r,v=.float .f64 r/\UQ r) rfl rfl ?_ ?_
  ·intro x v hC hR
   have h0:x 1=.agg #[.float .f64 bl,.int .i64 wl,.int .i64 al,.float .f64 br,.int .i64 wr,.int .i64 ar,.float .f64 gap,.float .f64 vu]:=hR 1 (by kernel_rfl)
   have h1:x 2=.agg #[.int .i64 sd,.float .f64 dt,.float .f64 gr,.float .f64 dr,.int .i64 lim,.bool rv,.slice pr lr cr]:=hR 2 (by kernel_rfl)
   clear hR
   intro K hK
   simp only[putAll,Act.put,List.setIfInBounds_toArray,List.set_cons_zero,List.set_cons_succ,Nat.reduceAdd,Nat.zero_add]at hK ⊢
   simp only[h0,h1]at hK ⊢
   go_simp
   refine(PU.out _).mono ?_
   rintro e w8 ⟨⟨r,rfl,hr⟩,kb⟩
   exact hK.out _ _ ⟨r,rfl,hr⟩ (hC.call kb)
  refine Rl.aL 5 (fun v=>v=.agg #[.float .f64 bl,.int .i64 wl,.int .i64 al,.float .f64 br,.int .i64 wr,.int .i64 ar,.float .f64 gap,.float .f64 vu]) rfl rfl ?_ ?_
  ·intro x v hC hR
   have y0:=aA 0 (hC.heap RE2.out)
   have y1:=aA 1 (hC.heap RE2.out)
   have y2:=aA 2 (hC.heap RE2.out)
   have y3:=aA 3 (hC.heap RE2.out)
   have y4:=aA 4 (hC.heap RE2.out)
   have y5:=aA 5 (hC.heap RE2.out)
   have y6:=aA 6 (hC.heap RE2.out)
   have y7:=aA 7 (hC.heap RE2.out)
   clear hR
   intro K hK
   simp only[putAll,Act.put,List.setIfInBounds_toArray,List.set_cons_zero,List.set_cons_succ,Nat.reduceAdd,Nat.zero_add]at hK ⊢
   go_simp
   exact hK.out _ _ rfl hC
  refine Rl.aL 6 (fun v=> ∃r,v=.float .f64 r/\HQ r) rfl rfl ?_ ?_
  ·intro x v hC hR
   have h0:x 4=.agg #[.float .f64 bl,.int .i64 wl,.int .i64 al,.float .f64 br,.int .i64 wr,.int .i64 ar,.float .f64 gap,.float .f64 vu]:=hR 4 (by kernel_rfl)
   clear hR
   intro K hK
   simp only[putAll,Act.put,List.setIfInBounds_toArray,List.set_cons_zero,List.set_cons_succ,Nat.reduceAdd,Nat.zero_add]at hK ⊢
   simp only[h0]at hK ⊢
   go_simp
   refine(DE.out _).mono ?_
   rintro e w8 ⟨⟨r,rfl,hr⟩,kb⟩
   exact hK.out _ _ ⟨r,rfl,hr⟩ (hC.call kb)
  refine Rl.aL 7 (fun v=>v=.float .f64 y) rfl rfl ?_ ?_
  ·intro x v hC hR
   have h5:x 0=.agg #[.int .i64 sd,.float .f64 dt,.float .f64 gr,.float .f64 dr,.int .i64 lim,.bool rv,.slice pr lr cr]:=hR 0 (by kernel_rfl)
   have h0: ∃r,x 3=.float .f64 r/\UQ r:=hR 3 (by kernel_rfl)
   have h1: ∃r,x 5=.float .f64 r/\HQ r:=hR 5 (by kernel_rfl)
   obtain⟨r1,e1,i1⟩:=h0
   obtain⟨r2,e2,i2⟩:=h1
   have DG1:=hid (DG.out r1 r2 i1 i2)
   clear i1 i2
   clear hR
   intro K hK
   simp only[putAll,Act.put,List.setIfInBounds_toArray,List.set_cons_zero,List.set_cons_succ,Nat.reduceAdd,Nat.zero_add]at hK ⊢
   simp only[h5,e1,e2]at hK ⊢
   go_simp
   refine(DG1.out _).mono ?_
   rintro e w8 ⟨rfl,kb⟩
   exact hK.out _ _ rfl (hC.call kb)
  refine Rl.aL 8 (fun v=>v=.float .f64 y) rfl rfl ?_ ?_
  ·intro x v hC hR
   have h0:x 6=.float .f64 y:=hR 6 (by kernel_rfl)
   clear hR
   intro K hK
   simp only[putAll,Act.put,List.setIfInBounds_toArray,List.set_cons_zero,List.set_cons_succ,Nat.reduceAdd,Nat.zero_add]at hK ⊢
   simp only[h0]at hK ⊢
   go_simp
   exact hK.out _ _ rfl hC
  exact Rl.rC
 ·intro x z hz hR
  have h0:x 7=.float .f64 y:=hR 7 (by decide)
  clear hR
  have WZ:Hid (Ab w z):=W_W0.out.trans hz
  clear hz
  simp only[putAll,Act.put,List.setIfInBounds_toArray,List.set_cons_zero,List.set_cons_succ,Nat.reduceAdd,Nat.zero_add,h0]
  go_wp2
  go_ret
  exact⟨rfl,WZ.out⟩
end Fc
end
section
open Go.RowKit Tf Cu Go.Deep
attribute [local go_sem] aI aJ aN aO aP aQ aV aF
namespace Fc
theorem edge16{n gb k:Nat}{v:World}(hn:1<=n/\n<=32)(hk:k<12*n*n)(g:GridOf n gb v):Calls prog 59 #[.pointer (some ⟨gb,0,none⟩),.int .i64 (k:Nat)] v fun e w'=>e=.returned (.tuple #[.agg #[.int .i64 (eL n k:Nat),.int .i64 (edT n k%4:Nat),.int .i64 (eR n k:Nat),.int .i64 (mt n (edT n k)%4:Nat)],.bool true])/\Below v.heap.size v w':=by
 obtain⟨t1,t2,t3⟩:=bQ hn.1 hk
 have e:=gV hn t1 t2 g
 rw[t3,<- (fO hn.1 t1).1,<- (fO hn.1 t1).2]at e
 exact e
theorem rD{n k:Nat}(hn:1<=n)(hk:k<12*n*n):eL n k<6*n*n/\eR n k<6*n*n/\eL n k≠eR n k:=by
 obtain⟨t1,t2,t3⟩:=bQ hn hk
 refine⟨bR t1,bR (fA hn t1),?_⟩
 have h:=(fO hn t1).1
 have h2:edT n k/4<mt n (edT n k)/4:=by rw[h];exact of_decide_eq_true t2
 unfold eL eR
 omega
end Fc
end
section
open Go.RowKit Tf Cu Go.Deep Rl
namespace Fc
theorem fs_rt(x:Nat):rtB x<18446744073709551616:=by
 cases h:Ieee.double.sqrt x with
 | none=>rw[jQ h];decide
 | some r=>rw[jP h];exact dG (sqrt_lt h)
theorem fsgp_lt{n k:Nat}(_hn:1<=n/\n<=32)(_hk:k<12*n*n):gpE n k<18446744073709551616:=by unfold gpE GpC gp lnB;exact fs_rt _
theorem fsfit(gb:Nat)(pb pw pt ps:Option Addr)(lb cb lw cw lt ct ls cs:Nat)(sky st:Int){n:Nat}(q:Bool)(w:World)(g:GridOf n gb w)(hq:q=true ↔ iY n lb lw lt ls):
  Calls prog 62 #[.pointer (some ⟨gb,0,none⟩),.agg #[.slice pb lb cb,.slice pw lw cw,.slice pt lt ct,.slice ps ls cs,.int .i64 sky,.int .i64 st]] w fun e w'=>e=.returned (.bool q)/\Below w.heap.size w w':=by
 refine ffits_at gb pb pw pt ps lb cb lw cw lt ct ls cs sky st (6*n*n) (12*n*n) q w ?_ (fun v hv=>(dD (g.to hv)).mono fun _ _ h=>⟨h.1,by obtain⟨_,rfl⟩:=h;exact Below.refl _ _⟩) (fun v hv=>(cE (g.to hv)).mono fun _ _ h=>⟨h.1,by obtain⟨_,rfl⟩:=h;exact Below.refl _ _⟩)
 unfold iY at hq
 have e: ∀a b:Nat,((a:Int)==(b:Int))=decide (a=b):=fun a b=>by rw[Bool.eq_iff_iff];simp;omega
 have qf: ¬(lb=6*n*n/\lw=6*n*n/\lt=6*n*n/\ls=12*n*n)->q=false:=fun h=>by
  cases hc:q
  ·rfl
  ·exact absurd (hq.1 hc) h
 rw[e,e,e,e]
 by_cases c1:lb=6*n*n
 ·by_cases c2:lw=6*n*n
  ·by_cases c3:lt=6*n*n
   ·refine .inr (.inr (.inr ⟨decide_eq_true c1,decide_eq_true c2,decide_eq_true c3,?_⟩))
    rw[Bool.eq_iff_iff,decide_eq_true_eq,hq]
    exact⟨fun h=>⟨c1,c2,c3,h⟩,fun h=>h.2.2.2⟩
   ·exact .inr (.inr (.inl ⟨decide_eq_true c1,decide_eq_true c2,decide_eq_false c3,qf (fun h=>c3 h.2.2.1)⟩))
  ·exact .inr (.inl ⟨decide_eq_true c1,decide_eq_false c2,qf (fun h=>c2 h.2.1)⟩)
 ·exact .inl ⟨decide_eq_false c1,qf (fun h=>c1 h.1)⟩
theorem fsedge{n gb:Nat}{pb pw ps:Option Addr}{lb lw lt ls:Nat}{B:Nat->Nat}{Wt:Nat->Int}{Sp:Nat->Nat}(cb cw:Nat)(pt:Option Addr)(ct cs:Nat)(sky st:Int){k:Nat}{w:World}(hn:1<=n/\n<=32)(g:GridOf n gb w)(IB:IsFl w pb lb B)(IW:IsIn w pw lw Wt)(IS:IsFl w ps ls Sp)(hf:iY n lb lw lt ls)(hk:k<12*n*n):
  Calls prog 41 #[.pointer (some ⟨gb,0,none⟩),.agg #[.slice pb lb cb,.slice pw lw cw,.slice pt lt ct,.slice ps ls cs,.int .i64 sky,.int .i64 st],.int .i64 (k:Nat)] w fun x w'=>x=.returned (.tuple #[.agg #[.float .f64 (B (eL n k)),.int .i64 (Wt (eL n k)),.int .i64 (arC n (eL n k)),.float .f64 (B (eR n k)),.int .i64 (Wt (eR n k)),.int .i64 (arC n (eR n k)),.float .f64 (gpE n k),.float .f64 (Sp k)],.bool true])/\Below w.heap.size w w':=by
 obtain⟨c1,c2,_⟩:=rD hn.1 hk
 have hf2:=hf
 obtain⟨f1,f2,f3,f4⟩:=hf2
 subst f1 f2 f3 f4
 obtain⟨bb,bo,rfl⟩:=IB.some0 (by omega)
 obtain⟨wb,wo,rfl⟩:=IW.some0 (by omega)
 obtain⟨sb,so,rfl⟩:=IS.some0 (by omega)
 exact zT gb bb bo wb wo sb so (6*n*n) (12*n*n) cb cw cs pt (6*n*n) ct sky st k (eL n k) (edT n k%4) (eR n k) (mt n (edT n k)%4) (B (eL n k)) (B (eR n k)) (gpE n k) (Sp k) (Wt (eL n k)) (arC n (eL n k)) (Wt (eR n k)) (arC n (eR n k)) w (by omega)
  (fun v hv=>edge16 hn hk (g.to hv)) (fun v hv=>fsfit gb _ _ pt _ _ cb _ cw _ ct _ cs sky st true v (g.to hv) (by simp[hf]))
  (fun v hv=>pT gb bb bo wb wo (6*n*n) cb cw pt _ _ ct _ cs sky st (eL n k) (B (eL n k)) (Wt (eL n k)) (arC n (eL n k)) v (by omega) (fun u hu=>((IB.below (hv.trans hu)).at0 c1).2.2) (fun u hu=>((IW.below (hv.trans hu)).at0 c1).2.2) (fun u hu=>dI hn c1 (g.to (hv.trans hu))))
  (fun v hv=>pT gb bb bo wb wo (6*n*n) cb cw pt _ _ ct _ cs sky st (eR n k) (B (eR n k)) (Wt (eR n k)) (arC n (eR n k)) v (by omega) (fun u hu=>((IB.below (hv.trans hu)).at0 c2).2.2) (fun u hu=>((IW.below (hv.trans hu)).at0 c2).2.2) (fun u hu=>dI hn c2 (g.to (hv.trans hu))))
  (fun v hv=>gGap_ok hn hk (g.to hv)) (fun v hv=>((IS.below hv).at0 hk).2.2)
theorem fsnone{n gb:Nat}(pb pw:Option Addr)(lb lw cb cw:Nat)(pt:Option Addr)(lt ct:Nat)(ps:Option Addr)(ls cs:Nat)(sky st e:Int){w:World}(hn:1<=n/\n<=32)(g:GridOf n gb w)(h4: ¬has4 n lb lw lt ls e):
  Calls prog 41 #[.pointer (some ⟨gb,0,none⟩),.agg #[.slice pb lb cb,.slice pw lw cw,.slice pt lt ct,.slice ps ls cs,.int .i64 sky,.int .i64 st],.int .i64 e] w fun x w'=>x=.returned (.tuple #[.agg #[.float .f64 0,.int .i64 0,.int .i64 0,.float .f64 0,.int .i64 0,.int .i64 0,.float .f64 0,.float .f64 0],.bool false])/\Below w.heap.size w w':=by
 cases hr:inR e (12*n*n:Nat)
 ·exact zS (.pointer (some ⟨gb,0,none⟩)) pb pw pt ps lb cb lw cw lt ct ls cs sky st e w (fun v hv=>sK hr (g.to hv))
 ·have hf: ¬iY n lb lw lt ls:=fun h=>h4 ⟨h,hr⟩
  obtain⟨k,rfl,hk⟩:=jW hr
  exact vI gb pb pw pt ps lb cb lw cw lt ct ls cs sky st (k:Int) (eL n k) (edT n k%4) (eR n k) (mt n (edT n k)%4) w (fun v hv=>edge16 hn hk (g.to hv)) (fun v hv=>fsfit gb pb pw pt ps lb cb lw cw lt ct ls cs sky st false v (g.to hv) (by simp[hf]))
theorem fsopen{n:Nat}{pb pw:Option Addr}{lb lw lt ls:Nat}{B:Nat->Nat}{Wt:Nat->Int}(k:Nat)(w:World)(u gap:Nat)(hk:k<12*n*n)(hn:1<=n/\n<=32)(hf:iY n lb lw lt ls)(IB:IsFl w pb lb B)(IW:IsIn w pw lw Wt)(v:World):
  Calls prog 42 #[.agg #[.float .f64 (B (eL n k)),.int .i64 (Wt (eL n k)),.int .i64 (arC n (eL n k)),.float .f64 (B (eR n k)),.int .i64 (Wt (eR n k)),.int .i64 (arC n (eR n k)),.float .f64 gap,.float .f64 u]] v fun x w'=>x=.returned (.bool (opE n B Wt k))/\Below v.heap.size v w':=by
 obtain⟨c1,c2,_⟩:=rD hn.1 hk
 obtain⟨f1,f2,f3,f4⟩:=hf
 subst f1 f2
 exact eopen_at _ _ _ _ _ _ _ _ v (IB _ c1).1 (IB _ c2).1 (IW _ c1).1.2 (IW _ c2).1.2 (cM n _).2 (cM n _).2
theorem openC:OpenC:=by
 intro n gb pb lb cb B pw lw cw Wt pt lt ct ps ls cs sky st e w hn g IB IW hS he
 obtain⟨Sp,IS⟩:=hS
 refine⟨fun h4=> ?_,fun h4=> ?_⟩
 ·obtain⟨hf,hr⟩:=h4
  obtain⟨k,rfl,hk⟩:=jW hr
  obtain⟨c1,c2,_⟩:=rD hn.1 hk
  rw[Int.toNat_natCast]
  exact open_go _ pb pw pt ps lb cb lw cw lt ct ls cs sky st (k:Int) _ _ _ _ _ _ _ _ _ w (fun v hv=>fsedge cb cw pt ct cs sky st hn (g.to hv) (IB.below hv) (IW.below hv) (IS.below hv) hf hk) (fun v=>fsopen k w (Sp k) (gpE n k) hk hn hf IB IW v)
 ·exact open_no _ pb pw pt ps lb cb lw cw lt ct ls cs sky st e w (fun v hv=>fsnone pb pw lb lw cb cw pt lt ct ps ls cs sky st e hn (g.to hv) h4)
theorem speedC:SpeedC:=by
 intro n gb sd dt gr dr lim rv pr lr cr pb lb cb B pw lw cw Wt pt lt ct ps ls cs Sp sky st e w hn g IB IW IS hp he
 refine⟨fun h4=> ?_,fun h4=> ?_⟩
 ·obtain⟨hf,hr⟩:=h4
  obtain⟨k,rfl,hk⟩:=jW hr
  obtain⟨c1,c2,_⟩:=rD hn.1 hk
  have f4:=hf.2.2.2
  have hB: ∀c,c<6*n*n->B c<18446744073709551616:=fun c hc=>(IB c (by have:=hf.1;omega)).1
  have hW: ∀c,c<6*n*n->Wt c<=9223372036854775807:=fun c hc=>(IW c (by have:=hf.2.1;omega)).1.2
  have EO:Hid (∀v,Ab w v->_):=fun v hv=>fsedge cb cw pt ct cs sky st hn (g.to hv) (IB.below hv) (IW.below hv) (IS.below hv) hf hk
  have OP:Hid (∀v,_):=fun v=>fsopen k w (Sp k) (gpE n k) hk hn hf IB IW v
  rw[Int.toNat_natCast]
  unfold spE
  by_cases o:opE n B Wt k=true
  ·rw[if_pos o]
   rw[o]at OP
   have l1:=qU (hB _ c1) (hW _ c1) (cM n (eL n k)).2
   have l2:=qU (hB _ c2) (hW _ c2) (cM n (eR n k)).2
   have d1:dpB (Wt (eL n k)) (arC n (eL n k))<18446744073709551616:=by have:=lG (hW _ c1) (cM n (eL n k)).2;omega
   have d2:dpB (Wt (eR n k)) (arC n (eR n k))<18446744073709551616:=by have:=lG (hW _ c2) (cM n (eR n k)).2;omega
   have su:Sp k<18446744073709551616:=(IS k (by omega)).1
   exact speed_go _ sd dt gr dr lim rv pr lr cr pb pw pt ps lb cb lw cw lt ct ls cs sky st (k:Int) _ _ _ _ _ _ _ _ _ (fun r=>IsC r (u1B gr dt (Sp k) (lvC n B Wt (eL n k)) (lvC n B Wt (eR n k)) (gpE n k))) (fun r=>r<18446744073709551616/\fgt r 0=fgt (Fc.hB (dpC n Wt (eL n k)) (dpC n Wt (eR n k))) 0/\(fgt r 0=true->r=Fc.hB (dpC n Wt (eL n k)) (dpC n Wt (eR n k)))) w EO OP
    (fun v=>zR _ _ _ _ _ _ _ _ sd dt gr dr lim rv pr lr cr _ _ v hp.1 hp.2.1 su l1 l2 (fsgp_lt hn hk) (fun z=>kV _ _ _ z (hB _ c1) (hW _ c1) (cM n _).2) (fun z=>kV _ _ _ z (hB _ c2) (hW _ c2) (cM n _).2))
    (fun v=>zQ _ _ _ _ _ _ _ _ _ _ v d1 d2 (fun z=>pS _ _ _ z (hW _ c1) (cM n _).2) (fun z=>pS _ _ _ z (hW _ c2) (cM n _).2))
    (fun u h iu ih v=>by
     obtain⟨h1,h2,h3⟩:=ih
     cases q:fgt h 0
     ·rw[q]at h2
      have e:spB gr dt dr (Sp k) (lvC n B Wt (eL n k)) (lvC n B Wt (eR n k)) (dpC n Wt (eL n k)) (dpC n Wt (eR n k)) (gpE n k)=0:=by unfold spB;rw[if_neg (by rw[<- h2];decide)]
      rw[e]
      exact vH sd dt gr dr lim rv pr lr cr u h v q
     ·exact tH sd dt gr dr lim rv pr lr cr u h _ _ _ _ _ _ v hp.1 hp.2.2 h1 iu (h3 q) q)
  ·rw[if_neg o]
   have o2:opE n B Wt k=false:=by simpa using o
   rw[o2]at OP
   exact vJ _ sd dt gr dr lim rv pr lr cr pb pw pt ps lb cb lw cw lt ct ls cs sky st (k:Int) _ _ _ _ _ _ _ _ w EO OP
 ·exact speed_no _ sd dt gr dr lim rv pr lr cr pb pw pt ps lb cb lw cw lt ct ls cs sky st e w (fun v hv=>fsnone pb pw lb lw cb cw pt lt ct ps ls cs sky st e hn (g.to hv) h4)
end Fc
end
section
open Go.ChangeShapes Go.WideShapes Go.ChangeAt Go.WideMaps Go.WideElems Go.RowKit Go.Deep
theorem array6'{c:Array Value}(h:c.size=6): ∃v0 v1 v2 v3 v4 v5,c= #[v0,v1,v2,v3,v4,v5]:=by
 rcases c with⟨l⟩
 match l,h with
 | [v0,v1,v2,v3,v4,v5],_=>exact⟨v0,v1,v2,v3,v4,v5,rfl⟩
end
section
open Go.ChangeShapes Go.WideShapes Go.ChangeAt Go.WideMaps Go.WideElems Go.RowKit Go.Deep
namespace Sh
theorem trod_int{H:Type}{enc:TypeId × Value->H}{P:Program}{w:World}{base:Nat}{spare:Nat->Bool}{held:Bool}{t:TypeId}{fuel:Nat}{v:Value}{x:DataW H × List MemPlace}(ht:P.underlying t=some (.int .i64))(h:DataW.trod enc P w base spare held fuel t [v]=some x):
  ∃b,v=.int .i64 b/\(-9223372036854775808<=b/\b<=9223372036854775807):=by
 obtain⟨k,e,_,wf⟩:=DataW.trod_int ht h
 simp at e
 simp only[Lit.wf,Bool.and_eq_true,decide_eq_true_eq]at wf
 have q1:IntKind.i64.min= -9223372036854775808:=by decide
 have q2:IntKind.i64.max=9223372036854775807:=by decide
 rw[q1,q2]at wf
 exact⟨k,e,wf⟩
theorem vK{w:World}{a:Addr}{v:Value}(h:w.cell? a=some v):a.block<w.heap.size:=by
 by_cases c:a.block<w.heap.size
 ·exact c
 ·exfalso
  have:w.heap[a.block]? =none:=by simp;omega
  simp[World.cell?,this]at h
theorem qQ{α:Type}{n:Nat}{R:Nat->α->Prop}(d:α)(h: ∀i,i<n-> ∃x,R i x): ∃f:Nat->α,∀i,i<n->R i (f i):=by
 have: ∀i,∃x,i<n->R i x:=fun i=>by
  by_cases c:i<n
  ·obtain⟨x,h1⟩:=h i c
   exact⟨x,fun _=>h1⟩
  ·exact⟨d,fun h=>absurd h c⟩
 exact⟨fun i=>(this i).choose,fun i hi=>(this i).choose_spec hi⟩
theorem pU{H:Type}{enc:TypeId × Value->H}{W:World}{cs:List Value}{fuel:Nat}{x:DataW H × List MemPlace}
  (hf:DataW.trod enc prog W 0 (fun _=>true) true fuel 27 cs=some x): ∃a0 len cap xs,cs=[.slice a0 len cap]/\IsI W a0 len xs/\len<=cap/\cap<=maxLen:=by
 rcases open_slice1 underlying27 (by kernel_rfl) hf with⟨hcs,_⟩ | ⟨a,l,c,m,n,V,D,Pl,hcs,_,hl,hm,hmm,_,hx⟩
 ·exact⟨none,0,0,fun _=>0,hcs,fun k hk=>by omega,Nat.le_refl _,Nat.zero_le _⟩
 ·simp only[if_true]at hmm
  have each: ∀i,i<l-> ∃x:Int,W.cell? (a.add i)=some (.int .i64 x)/\(-9223372036854775808<=x/\x<=9223372036854775807):=by
   intro i hi
   obtain⟨h1,h2⟩:=hx i (by omega)
   obtain⟨x,e,wx⟩:=trod_int underlying2 h2
   rw[e]at h1
   exact⟨x,h1,wx⟩
  obtain⟨f,hf⟩:=qQ 0 each
  refine⟨some a,l,c,f,hcs,fun k hk=>⟨(hf k hk).2,?_⟩,hl,hm⟩
  have h0:=(hf k hk).1
  have z:=(hf 0 (by omega)).1
  obtain⟨b,off,spot⟩:=a
  have hspot:spot=none:=by simpa [Addr.add]using World.cell?_spot z
  subst hspot
  rw[qR]at h0
  exact⟨b,off,rfl,vK h0,h0⟩
end Sh
end
section
open Go.ChangeShapes Go.WideShapes Go.ChangeAt Go.WideMaps Go.WideElems Go.RowKit Tf Cu Go.Deep
namespace Spl
theorem tI{H:Type}{P:Program}{ts:List TypeId}{ds:List (DataW H)}(h:(DataW.weightsEach P ts ds).all (· <=reachBytes)=true){j:Nat}{t:TypeId}{fs:Array Field}{parts:List (DataW H)}(ht:ts[j]? =some t)(hd:ds[j]? =some (.agg parts))(hu:P.underlying t=some (.struct fs)):
  (DataW.weightsEach P (fs.toList.map (·.type)) parts).all (· <=reachBytes)=true:=by
 refine List.all_eq_true.2 (fun n hn=> ?_)
 exact List.all_eq_true.1 h _ (DataW.weights_mem_each ht hd n (by simpa [DataW.weights,hu]using hn))
theorem tJ:Tryz.prog.bytesOf 22=8:=by kernel_rfl
theorem tK:Tryz.prog.bytesOf 2=8:=by kernel_rfl
theorem fN{H:Type}{enc:TypeId × Value->H}{W:World}{T E:TypeId}{a0:Option Addr}{len0 cap0:Nat}{fuel:Nat}{x:DataW H × List MemPlace}(hu:Tryz.prog.underlying T=some (.slice E))(h1:Tryz.prog.cellsOf E=1)
  (hf:DataW.trod enc prog W 0 (fun _=>true) true fuel T [.slice a0 len0 cap0]=some x) (hs: ∀elems spare,x.1=.slice elems spare->(elems.length+spare.length)*8<=reachBytes):len0<=281474976710656:=by
 rcases Go.Deep.open_slice1 hu h1 hf with⟨hcs,_⟩ | ⟨a,l,c,m,n,V,D,Pl,hcs,_,hl,hm,hmm,hx,_⟩
 ·simp at hcs
  obtain⟨rfl,rfl,rfl⟩:=hcs
  exact Nat.zero_le _
 ·simp at hcs
  obtain⟨rfl,rfl,rfl⟩:=hcs
  simp only[if_true]at hmm
  subst hmm
  have:=hs _ _ (by rw[hx])
  simp only[List.length_map,List.length_range,reachBytes]at this
  omega
theorem vL{H:Type}{enc:TypeId × Value->H}{W:World}{r:Reach}{b0:Nat}{v:Value}{d:DataW H}{p:List MemPlace}(hv:Value.okWide prog W r b0 29 v)(h:DataW.Trod enc prog W 0 (fun _=>true) true 29 v d p)
  (hz: ∀parts,d=.agg parts->(DataW.weightsEach prog [26,27,27,26,2,3] parts).all (· <=reachBytes)=true):
  ∃pb lb cb B pw lw cw Wt pt lt ct Tr ps ls cs Sp sky st,v=.agg #[.slice pb lb cb,.slice pw lw cw,.slice pt lt ct,.slice ps ls cs,.int .i64 sky,.int .i64 st]/\(IsFl W pb lb B/\Sh.IsI W pw lw Wt/\Sh.IsI W pt lt Tr/\IsFl W ps ls Sp)/\(lb<=281474976710656/\lw<=281474976710656/\lt<=281474976710656/\ls<=281474976710656)/\W64 sky/\W64 st:=by
 have hC:Tryz.prog.cellsOf 29=6:=by kernel_rfl
 have k0:Tryz.prog.cellsOf 26=1:=by kernel_rfl
 have k1:Tryz.prog.cellsOf 27=1:=by kernel_rfl
 have k2:Tryz.prog.cellsOf 2=1:=by kernel_rfl
 have k3:Tryz.prog.cellsOf 3=1:=by kernel_rfl
 obtain⟨cs,rfl,hsz⟩:=okWide_struct underlying29 hv
 obtain⟨v0,v1,v2,v3,v4,v5,rfl⟩:=array6' (hsz.trans hC)
 obtain⟨fuel,hf⟩:=h
 have hf':DataW.trod enc prog W 0 (fun _=>true) true fuel 29 [v0,v1,v2,v3,v4,v5]=some (d,p):=by simpa [Value.cells]using hf
 obtain⟨xs,m,_,hx,hlen,hn,hel⟩:=DataW.trod_struct underlying29 hf'
 match xs,hn with
 | [x0,x1,x2,x3,x4,x5],_=>
  have h0:=hel 0 _ rfl
  have h1:=hel 1 _ rfl
  have h2:=hel 2 _ rfl
  have h3:=hel 3 _ rfl
  have h4:=hel 4 _ rfl
  have h5:=hel 5 _ rfl
  simp[k0,k1,k2,k3]at h0 h1 h2 h3 h4 h5
  have hzz:=hz _ (congrArg Prod.fst hx)
  obtain⟨pb,lb,cb,B,e0,i0,-,-⟩:=oZ h0
  obtain⟨pw,lw,cw,Wt,e1,i1,-,-⟩:=Sh.pU h1
  obtain⟨pt,lt,ct,Tr,e2,i2,-,-⟩:=Sh.pU h2
  obtain⟨ps,ls,cs,Sp,e3,i3,-,-⟩:=oZ h3
  obtain⟨sky,e4,g4⟩:=Sh.trod_int underlying2 h4
  obtain⟨st,e5,g5⟩:=Sh.trod_int underlying3 h5
  simp at e0 e1 e2 e3
  subst e0 e1 e2 e3 e4 e5
  exact⟨pb,lb,cb,B,pw,lw,cw,Wt,pt,lt,ct,Tr,ps,ls,cs,Sp,sky,st,rfl,⟨i0,i1,i2,i3⟩,⟨fN underlying26 (by kernel_rfl) h0 (fun elems spare e=>by have q:=sized_slice hzz (j:=0) (t:=26) (e:=22) (elems:=elems) (spare:=spare) rfl (by rw[<- e];rfl) underlying26;rw[tJ]at q;exact q),fN underlying27 (by kernel_rfl) h1 (fun elems spare e=>by have q:=sized_slice hzz (j:=1) (t:=27) (e:=2) (elems:=elems) (spare:=spare) rfl (by rw[<- e];rfl) underlying27;rw[tK]at q;exact q),fN underlying27 (by kernel_rfl) h2 (fun elems spare e=>by have q:=sized_slice hzz (j:=2) (t:=27) (e:=2) (elems:=elems) (spare:=spare) rfl (by rw[<- e];rfl) underlying27;rw[tK]at q;exact q),fN underlying26 (by kernel_rfl) h3 (fun elems spare e=>by have q:=sized_slice hzz (j:=3) (t:=26) (e:=22) (elems:=elems) (spare:=spare) rfl (by rw[<- e];rfl) underlying26;rw[tJ]at q;exact q)⟩,g4,g5⟩
end Spl
end
section
open Go.ChangeShapes Go.WideShapes Go.ChangeAt Go.WideMaps Go.WideElems Go.RowKit Cu
theorem own:ownKnob Tryz.prog.godebug=none:=by kernel_rfl
theorem gFrames:Tryz.prog.globalNamed "tarn/cube.frames" =some 1:=by kernel_rfl
theorem tFrames:(Tryz.prog.globals[1]?).map (·.type)=some 135:=by kernel_rfl
theorem door_met(os:Os)(args:Array Value):laidMetH prog [("tarn/cube.frames",Rows.laid_tarn_cube_frames)] ((World.doorLaid prog 400 os).forCall (fun _ _=>0) ⟨#[],args,[]⟩).memory:=
 laidMetH_of_parts3 (fuel:=8) (laidMet_of_run' 8 (by kernel_rfl) (by kernel_rfl)) (by kernel_rfl) (by kernel_rfl)
theorem rE{H:Type}{enc:TypeId × Value->H}{w:World}{base fuel:Nat}{spare:Nat->Bool}{held:Bool}{cs:List Value}{x:DataW H × List MemPlace}(h:DataW.trod enc prog w base spare held fuel 127 cs=some x)
  (a b c:Int) (e:x.1=.agg [.lit (.int .i64 a),.lit (.int .i64 b),.lit (.int .i64 c)]):cs=[.int .i64 a,.int .i64 b,.int .i64 c]:=by
 have k3:Tryz.prog.cellsOf 3=1:=by kernel_rfl
 have kp:Tryz.prog.cellsOf 127=3:=by kernel_rfl
 obtain⟨xs,m,_,hx,hlen,hn,hel⟩:=DataW.trod_array underlying127 h
 rw[hx]at e
 match xs,hn,cs,hlen.trans kp with
 | [x0,x1,x2],_,[c0,c1,c2],_=>
  have h0:=hel 0 (by decide)
  have h1:=hel 1 (by decide)
  have h2:=hel 2 (by decide)
  simp[k3]at h0 h1 h2
  obtain⟨n0,e0,f0,_⟩:=DataW.trod_int underlying3 h0
  obtain⟨n1,e1,f1,_⟩:=DataW.trod_int underlying3 h1
  obtain⟨n2,e2,f2,_⟩:=DataW.trod_int underlying3 h2
  simp at e0 e1 e2
  simp[f0,f1,f2]at e
  rw[e0,e1,e2,e.1,e.2.1,e.2.2]
theorem dN{H:Type}{enc:TypeId × Value->H}{w:World}{base fuel:Nat}{spare:Nat->Bool}{held:Bool}{cs:List Value}{x:DataW H × List MemPlace}(h:DataW.trod enc prog w base spare held fuel 134 cs=some x)
  (p q r:P3) (e:x.1=.agg [.agg [.lit (.int .i64 p.1),.lit (.int .i64 p.2.1),.lit (.int .i64 p.2.2)],.agg [.lit (.int .i64 q.1),.lit (.int .i64 q.2.1),.lit (.int .i64 q.2.2)],.agg [.lit (.int .i64 r.1),.lit (.int .i64 r.2.1),.lit (.int .i64 r.2.2)]]):
  cs=[.int .i64 p.1,.int .i64 p.2.1,.int .i64 p.2.2,.int .i64 q.1,.int .i64 q.2.1,.int .i64 q.2.2,.int .i64 r.1,.int .i64 r.2.1,.int .i64 r.2.2]:=by
 have kp:Tryz.prog.cellsOf 127=3:=by kernel_rfl
 have kf:Tryz.prog.cellsOf 134=9:=by kernel_rfl
 obtain⟨xs,m,_,hx,hlen,hn,hel⟩:=DataW.trod_struct underlying134 h
 rw[hx]at e
 match xs,hn,cs,hlen.trans kf with
 | [x0,x1,x2],_,[c0,c1,c2,c3,c4,c5,c6,c7,c8],_=>
  have h0:=hel 0 _ rfl
  have h1:=hel 1 _ rfl
  have h2:=hel 2 _ rfl
  simp[kp]at h0 h1 h2
  simp at e
  have e0:=rE h0 _ _ _ e.1
  have e1:=rE h1 _ _ _ e.2.1
  have e2:=rE h2 _ _ _ e.2.2
  simp at e0 e1 e2
  simp[e0,e1,e2]
theorem vM{H:Type}{enc:TypeId × Value->H}{w:World}{base fuel:Nat}{spare:Nat->Bool}{held:Bool}{cs:List Value}{x:DataW H × List MemPlace}(h:DataW.trod enc prog w base spare held fuel 135 cs=some x)
  (e:x.1=Rows.laid_tarn_cube_frames): ∀f,f<6->(cs.drop (f*9)).take 9=[.int .i64 (cC f).1,.int .i64 (cC f).2.1,.int .i64 (cC f).2.2,.int .i64 (cR f).1,.int .i64 (cR f).2.1,.int .i64 (cR f).2.2,.int .i64 (cU f).1,.int .i64 (cU f).2.1,.int .i64 (cU f).2.2]:=by
 have kf:Tryz.prog.cellsOf 134=9:=by kernel_rfl
 obtain⟨xs,m,_,hx,hlen,hn,hel⟩:=DataW.trod_array underlying135 h
 rw[hx]at e
 intro f hf
 have h0:=hel f hf
 rw[kf]at h0
 match xs,hn with
 | [x0,x1,x2,x3,x4,x5],_=>
  simp only[List.map_cons,List.map_nil,Rows.laid_tarn_cube_frames,DataW.agg.injEq,List.cons.injEq]at e
  rcases six hf with rfl | rfl | rfl | rfl | rfl | rfl
  ·exact dN h0 (cC 0) (cR 0) (cU 0) e.1
  ·exact dN h0 (cC 1) (cR 1) (cU 1) e.2.1
  ·exact dN h0 (cC 2) (cR 2) (cU 2) e.2.2.1
  ·exact dN h0 (cC 3) (cR 3) (cU 3) e.2.2.2.1
  ·exact dN h0 (cC 4) (cR 4) (cU 4) e.2.2.2.2.1
  ·exact dN h0 (cC 5) (cR 5) (cU 5) e.2.2.2.2.2.1
theorem of_laid{W:World}(h:laidMetH prog [("tarn/cube.frames",Rows.laid_tarn_cube_frames)] W):Fr W:=by
 rw[MakeChecks.laidMetH_plain _ _ _ (by kernel_rfl)]at h
 obtain⟨ps,⟨g0,t0,cs0,f0,p0,q0,hg0,ht0,hv0,hd0,_⟩,_⟩:=h
 obtain rfl:=Option.some.inj (gFrames.symm.trans hg0)
 obtain rfl:=Option.some.inj (tFrames.symm.trans ht0)
 have T:=vM hd0 rfl
 have C:=World.var?_cell hg0 hv0
 have K: ∀f,f<6-> ∀k,k<9->W.cell? ⟨1,f*9+k,none⟩=((cs0.toList.drop (f*9)).take 9)[k]? :=by
  intro f hf k hk
  rw[C,List.getElem?_take,if_pos hk,List.getElem?_drop]
  simp
 have N: ∀f,f<6->Fr9 W f:=by
  intro f hf
  have K:=K f hf
  rw[T f hf]at K
  exact⟨⟨K 0 (by omega),K 1 (by omega),K 2 (by omega)⟩,⟨K 3 (by omega),K 4 (by omega),K 5 (by omega)⟩,⟨K 6 (by omega),K 7 (by omega),K 8 (by omega)⟩⟩
 refine⟨?_,N⟩
 have c0:=(N 0 (by omega)).1.1
 rcases Nat.lt_or_ge 1 W.heap.size with h1 | h1
 ·exact h1
 ·rw[World.cell?,Array.getElem?_eq_none h1]at c0;cases c0
end
section
open Go.ChangeShapes Go.WideShapes Go.ChangeAt Go.WideMaps Go.WideElems Go.RowKit Go.Deep
theorem array7'{c:Array Value}(h:c.size=7): ∃v0 v1 v2 v3 v4 v5 v6,c= #[v0,v1,v2,v3,v4,v5,v6]:=by
 rcases c with⟨l⟩
 match l,h with
 | [v0,v1,v2,v3,v4,v5,v6],_=>exact⟨v0,v1,v2,v3,v4,v5,v6,rfl⟩
theorem tL{H:Type}{enc:TypeId × Value->H}{P:Program}{w:World}{base:Nat}{spare:Nat->Bool}{held:Bool}{t:TypeId}{fuel:Nat}{v:Value}{x:DataW H × List MemPlace}(ht:P.underlying t=some .bool)(h:DataW.trod enc P w base spare held fuel t [v]=some x):
  ∃b,v=.bool b:=by
 cases fuel with
 | zero=>simp[DataW.trod]at h
 | succ n=>
  unfold DataW.trod at h
  rw[ht]at h
  split at h<;>simp_all
end
section
open Go.ChangeShapes Go.WideShapes Go.ChangeAt Go.WideMaps Go.WideElems Go.RowKit Go.Deep
namespace Fc
theorem tM{H:Type}{enc:TypeId × Value->H}{W:World}{r:Reach}{b0:Nat}{v:Value}{d:DataW H}{p:List MemPlace}(hv:Value.okWide prog W r b0 25 v)(h:DataW.Trod enc prog W 0 (fun _=>true) true 25 v d p):
  ∃sd dt gr dr lim rv pr lr cr,v=.agg #[.int .i64 sd,.float .f64 dt,.float .f64 gr,.float .f64 dr,.int .i64 lim,.bool rv,.slice pr lr cr]/\(dt<18446744073709551616/\gr<18446744073709551616/\dr<18446744073709551616):=by
 have hC:Tryz.prog.cellsOf 25=7:=by kernel_rfl
 obtain⟨cs,rfl,hsz⟩:=okWide_struct underlying25 hv
 obtain⟨v0,v1,v2,v3,v4,v5,v6,rfl⟩:=array7' (hsz.trans hC)
 obtain⟨fuel,hf⟩:=h
 have hf':DataW.trod enc prog W 0 (fun _=>true) true fuel 25 [v0,v1,v2,v3,v4,v5,v6]=some (d,p):=by simpa [Value.cells]using hf
 have k0:Tryz.prog.cellsOf 22=1:=by kernel_rfl
 have k1:Tryz.prog.cellsOf 4=1:=by kernel_rfl
 have k2:Tryz.prog.cellsOf 23=1:=by kernel_rfl
 have k3:Tryz.prog.cellsOf 3=1:=by kernel_rfl
 obtain⟨xs,m,_,hx,hlen,hn,hel⟩:=DataW.trod_struct underlying25 hf'
 match xs,hn with
 | [x0,x1,x2,x3,x4,x5,x6],_=>
  have h0:=hel 0 _ rfl
  have h1:=hel 1 _ rfl
  have h2:=hel 2 _ rfl
  have h3:=hel 3 _ rfl
  have h4:=hel 4 _ rfl
  have h5:=hel 5 _ rfl
  have h6:=hel 6 _ rfl
  simp[k0,k1,k2,k3]at h0 h1 h2 h3 h4 h5 h6
  obtain⟨sd,rfl,i0⟩:=nM underlying3 h0
  obtain⟨dt,rfl,i1⟩:=gD underlying22 h1
  obtain⟨gr,rfl,i2⟩:=gD underlying22 h2
  obtain⟨dr,rfl,i3⟩:=gD underlying22 h3
  obtain⟨lim,rfl,i4⟩:=nM underlying3 h4
  obtain⟨rv,rfl⟩:=tL underlying4 h5
  rcases open_slice underlying23 h6 with⟨hcs,_⟩ | ⟨a,l,c,_,_,_,_,hcs,_⟩
  ·simp at hcs
   subst hcs
   exact⟨_,_,_,_,_,_,_,_,_,rfl,i1,i2,i3⟩
  ·simp at hcs
   subst hcs
   exact⟨_,_,_,_,_,_,_,_,_,rfl,i1,i2,i3⟩
end Fc
end
end Go.Proofs.YtjheiemgfibgpaaGreatDoor
