/-
  Some of the texts of this proof, one behind the other.
-/
import Derived.Deep.QuietTactic
import Derived.Test.YtjheiemgfibgpaaGreatDoorUb13
set_option maxRecDepth 100000
set_option maxHeartbeats 400000000
namespace Go.Proofs.YtjheiemgfibgpaaGreatDoor
open _root_.Go.Proofs.Tryz
section
open Go.RowKit Tf Cu
attribute [local go_sem] aI aJ aN aO aP aQ aV aF
theorem tC(gp:Value)(pb pw pt ps:Option Addr)(lb cb lw cw lt ct ls cs:Nat)(sky st:Int)(M:Nat)(q:Bool)(w:World)
  (hq:(((lb:Int)==(M:Int))=false/\q=false)\/(((lb:Int)==(M:Int))=true/\((lw:Int)==(M:Int))=q))
  (CC:Hid (∀v,Ab w v->Calls prog 28 #[gp] v fun e w'=>e=.returned (.int .i64 (M:Nat))/\Below v.heap.size v w')):
  Calls prog 47 #[gp,.agg #[.slice pb lb cb,.slice pw lw cw,.slice pt lt ct,.slice ps ls cs,.int .i64 sky,.int .i64 st]] w fun e w'=>e=.returned (.bool q)/\Below w.heap.size w w':=by
 obtain⟨A0,RO⟩:=bV w (.cells #[.slice pb lb cb,.slice pw lw cw,.slice pt lt ct,.slice ps ls cs,.int .i64 sky,.int .i64 st] 29)
 go_enter func47,ntmps47
 go_upto_region 1 with fail
 generalize hW:World.alloc w _=W at*
 obtain⟨gs,hgs⟩:=aB w.heap.size
 rw[hgs]at RO ⊢
 clear hgs hW
 rcases hq with⟨q1,rfl⟩ | ⟨q1,q2⟩
 ·obtain⟨UU,E,hF1,hF2⟩:=cls W
  have HU:=hid hF2
  have HU1:=hid hF1
  have HX:Hid (∀u,Ab w (E u)):=fun u=>Ab.trans A0.out (hF1 u)
  have x0: ∀u,(E u).cell? ⟨gs,0,none⟩=some (.slice pb lb cb):=fun u=>aA 0 ((hF1 u).heap RO.out)
  have x1: ∀u,(E u).cell? ⟨gs,1,none⟩=some (.slice pw lw cw):=fun u=>aA 1 ((hF1 u).heap RO.out)
  have DD0:=HU.out _ (Ab.refl W).drew
  clear hF1 hF2
  refine aG E (by kernel_rfl) (by kernel_rfl) DD0 ?_
  repeat(go_big_quiet_step (first
   | (with_reducible rfl)
   | (go_at_call 28;exact aD HU HU1 (CC.out _ (HX.out _)))))
  refine wpQuiet_nil ?_
  intro z hwz
  obtain⟨u0,hu⟩:=hwz
  have AZ:Hid (Ab w z):=by rw[hu];exact HX.out u0
  clear hu u0
  clear HU HU1 HX DD0 x0 x1
  clear E UU
  go_wp2
  go_ret
  exact⟨rfl,AZ.out⟩
 ·obtain⟨UU,E,hF1,hF2⟩:=cls W
  have HU:=hid hF2
  have HU1:=hid hF1
  have HX:Hid (∀u,Ab w (E u)):=fun u=>Ab.trans A0.out (hF1 u)
  have x0: ∀u,(E u).cell? ⟨gs,0,none⟩=some (.slice pb lb cb):=fun u=>aA 0 ((hF1 u).heap RO.out)
  have x1: ∀u,(E u).cell? ⟨gs,1,none⟩=some (.slice pw lw cw):=fun u=>aA 1 ((hF1 u).heap RO.out)
  have DD0:=HU.out _ (Ab.refl W).drew
  clear hF1 hF2
  refine aG E (by kernel_rfl) (by kernel_rfl) DD0 ?_
  repeat(go_big_quiet_step (first
   | (with_reducible rfl)
   | (go_at_call 28;exact aD HU HU1 (CC.out _ (HX.out _)))))
  refine wpQuiet_nil ?_
  intro z hwz
  obtain⟨u0,hu⟩:=hwz
  have AZ:Hid (Ab w z):=by rw[hu];exact HX.out u0
  clear hu u0
  clear HU HU1 HX DD0 x0 x1
  clear E UU
  go_wp2
  go_ret
  exact⟨rfl,AZ.out⟩
theorem nU(gp:Value)(bb bo wb wo M cb cw:Nat)(pt ps:Option Addr)(lt ct ls cs:Nat)(sky st:Int)(c:Nat)(wC aC:Int)(h:Nat)(w:World)(hc:((c:Nat):Int)<M)
  (FW:Hid (∀v,Ab w v->v.cell? ⟨wb,wo+c,none⟩=some (.int .i64 wC)))
  (AC:Hid (∀v,Ab w v->Calls prog 17 #[gp,.int .i64 (c:Nat)] v fun e w'=>e=.returned (.int .i64 aC)/\Below v.heap.size v w'))
  (DC:Hid (∀v:World,Calls prog 99 #[.int .i64 wC,.int .i64 aC] v fun e w'=>e=.returned (.float .f64 h)/\Below v.heap.size v w')):
  Calls prog 74 #[gp,.agg #[.slice (some ⟨bb,bo,none⟩) M cb,.slice (some ⟨wb,wo,none⟩) M cw,.slice pt lt ct,.slice ps ls cs,.int .i64 sky,.int .i64 st],.int .i64 (c:Nat)] w fun e w'=>e=.returned (.float .f64 h)/\Below w.heap.size w w':=by
 obtain⟨A0,RO⟩:=bV w (.cells #[.slice (some ⟨bb,bo,none⟩) M cb,.slice (some ⟨wb,wo,none⟩) M cw,.slice pt lt ct,.slice ps ls cs,.int .i64 sky,.int .i64 st] 29)
 go_enter func74,ntmps74
 go_upto_region 1 with fail
 generalize hW:World.alloc w _=W at*
 obtain⟨gs,hgs⟩:=aB w.heap.size
 rw[hgs]at RO ⊢
 clear hgs hW
 obtain⟨UU,E,hF1,hF2⟩:=cls W
 have HU:=hid hF2
 have HU1:=hid hF1
 have HX:Hid (∀u,Ab w (E u)):=fun u=>Ab.trans A0.out (hF1 u)
 have x1: ∀u,(E u).cell? ⟨gs,1,none⟩=some (.slice (some ⟨wb,wo,none⟩) M cw):=fun u=>aA 1 ((hF1 u).heap RO.out)
 have xw: ∀u,(E u).cell? ⟨wb,wo+c,none⟩=some (.int .i64 wC):=fun u=>FW.out _ (HX.out u)
 have DD0:=HU.out _ (Ab.refl W).drew
 clear hF1 hF2
 refine aG E (by kernel_rfl) (by kernel_rfl) DD0 ?_
 repeat(go_big_quiet_step (first
  | (with_reducible rfl)
  | (go_at_call 17;exact aD HU HU1 (AC.out _ (HX.out _)))
  | (go_at_call 99;exact aD HU HU1 (DC.out _))))
 refine wpQuiet_nil ?_
 intro z hwz
 obtain⟨u0,hu⟩:=hwz
 have AZ:Hid (Ab w z):=by rw[hu];exact HX.out u0
 clear hu u0
 clear HU HU1 HX DD0 x1 xw
 clear E UU
 go_wp2
 go_ret
 exact⟨rfl,AZ.out⟩
theorem wo12_no(gp:Value)(e:Int)(u:Nat)(w:World)
  (CE:Hid (∀v,Ab w v->Calls prog 59 #[gp,.int .i64 e] v fun e w'=>e=.returned (.tuple #[.agg #[.int .i64 0,.int .i64 0,.int .i64 0,.int .i64 0],.bool false])/\Below v.heap.size v w')):
  Calls prog 48 #[gp,.int .i64 e,.float .f64 u] w fun e w'=>e=.returned (.tuple #[.agg #[.int .i64 0,.int .i64 0,.int .i64 0],.bool false])/\Below w.heap.size w w':=by
 obtain⟨A0,R0⟩:=bV w (.cells #[.int .i64 0,.int .i64 0,.int .i64 0] 91)
 go_enter func48,ntmps48
 go_wp2_with fail
 refine(CE.out _ A0.out).mono ?_
 rintro e9 v1 ⟨rfl,b1⟩
 have A1:Hid (Ab w (v1.alloc (.cells #[.int .i64 0,.int .i64 0,.int .i64 0,.int .i64 0] 105))):=(A0.out.call b1).alloc _
 have R1:Hid ((v1.alloc (.cells #[.int .i64 0,.int .i64 0,.int .i64 0,.int .i64 0] 105)).heap[w.heap.size]? =some (.cells #[.int .i64 0,.int .i64 0,.int .i64 0] 91)):=Ab.heap (bl1 _ _) (Ab.heap b1 R0.out)
 have ER1:=hid (heap_alloc_new v1 (.cells #[.int .i64 0,.int .i64 0,.int .i64 0,.int .i64 0] 105))
 clear b1 A0 R0
 obtain⟨⟨o0,o1,o2⟩,o3,o4,o5⟩:=rowfacts R1.out
 go_wp2
 refine bodyPost_ret ?_ rfl ⟨rfl,?_⟩
 ·exact cG results48 _ _ w.heap.size _ _ (0,0) _ _ rfl rfl (iP R1.out) underlying91 rfl (by kernel_rfl)
 ·exact((A1.out.setk (Nat.le_refl _) _).setk (Nat.le_refl _) _).setk (Nat.le_refl _) _
theorem wo12_pos(gp:Value)(e:Int)(u:Nat)(L S R Q p q:Nat)(w:World)(hu1:fgt u 0=true)
  (CE:Hid (∀v,Ab w v->Calls prog 59 #[gp,.int .i64 e] v fun e w'=>e=.returned (.tuple #[.agg #[.int .i64 (L:Nat),.int .i64 (S:Nat),.int .i64 (R:Nat),.int .i64 (Q:Nat)],.bool true])/\Below v.heap.size v w'))
  (CB:Hid (∀v,Ab w v->Calls prog 60 #[gp,.int .i64 e] v fun e w'=>e=.returned (.tuple #[.int .i64 (p:Nat),.int .i64 (q:Nat),.bool true])/\Below v.heap.size v w')):
  Calls prog 48 #[gp,.int .i64 e,.float .f64 u] w fun e w'=>e=.returned (.tuple #[.agg #[.int .i64 (L:Nat),.int .i64 (R:Nat),.int .i64 (p:Nat)],.bool true])/\Below w.heap.size w w':=by
 obtain⟨A0,R0⟩:=bV w (.cells #[.int .i64 0,.int .i64 0,.int .i64 0] 91)
 go_enter func48,ntmps48
 go_wp2_with fail
 refine(CE.out _ A0.out).mono ?_
 rintro e9 v1 ⟨rfl,b1⟩
 have A1:Hid (Ab w (v1.alloc (.cells #[.int .i64 (L:Nat),.int .i64 (S:Nat),.int .i64 (R:Nat),.int .i64 (Q:Nat)] 105))):=(A0.out.call b1).alloc _
 have R1:Hid ((v1.alloc (.cells #[.int .i64 (L:Nat),.int .i64 (S:Nat),.int .i64 (R:Nat),.int .i64 (Q:Nat)] 105)).heap[w.heap.size]? =some (.cells #[.int .i64 0,.int .i64 0,.int .i64 0] 91)):=Ab.heap (bl1 _ _) (Ab.heap b1 R0.out)
 have ER1:=hid (heap_alloc_new v1 (.cells #[.int .i64 (L:Nat),.int .i64 (S:Nat),.int .i64 (R:Nat),.int .i64 (Q:Nat)] 105))
 clear b1 A0 R0
 go_wp2_with fail
 refine(CB.out _ A1.out).mono ?_
 rintro e9 v2 ⟨rfl,b2⟩
 obtain⟨ge,hge⟩:=aB v1.heap.size
 have A2:Hid (Ab w v2):=A1.out.call b2
 have R2:Hid (v2.heap[w.heap.size]? =some (.cells #[.int .i64 0,.int .i64 0,.int .i64 0] 91)):=Ab.heap b2 R1.out
 have ER2:Hid (v2.heap[ge]? =some (.cells #[.int .i64 (L:Nat),.int .i64 (S:Nat),.int .i64 (R:Nat),.int .i64 (Q:Nat)] 105)):=by rw[<- hge];exact Ab.heap b2 ER1.out
 clear b2 A1 R1 ER1
 rw[hge]
 clear hge
 obtain⟨⟨o0,o1,o2⟩,o3,o4,o5⟩:=rowfacts R2.out
 have e0:=aA 0 ER2.out
 have e2:=aA 2 ER2.out
 go_wp2
 refine bodyPost_ret ?_ rfl ⟨rfl,?_⟩
 ·exact cG results48 _ _ w.heap.size _ _ (0,0) _ _ rfl rfl (iP R2.out) underlying91 rfl (by kernel_rfl)
 ·exact((A2.out.setk (Nat.le_refl _) _).setk (Nat.le_refl _) _).setk (Nat.le_refl _) _
theorem wo12_neg(gp:Value)(e:Int)(u:Nat)(L S R Q p q:Nat)(w:World)(hu1:fgt u 0=false)(hu2:flt u 0=true)
  (CE:Hid (∀v,Ab w v->Calls prog 59 #[gp,.int .i64 e] v fun e w'=>e=.returned (.tuple #[.agg #[.int .i64 (L:Nat),.int .i64 (S:Nat),.int .i64 (R:Nat),.int .i64 (Q:Nat)],.bool true])/\Below v.heap.size v w'))
  (CB:Hid (∀v,Ab w v->Calls prog 60 #[gp,.int .i64 e] v fun e w'=>e=.returned (.tuple #[.int .i64 (p:Nat),.int .i64 (q:Nat),.bool true])/\Below v.heap.size v w')):
  Calls prog 48 #[gp,.int .i64 e,.float .f64 u] w fun e w'=>e=.returned (.tuple #[.agg #[.int .i64 (R:Nat),.int .i64 (L:Nat),.int .i64 (q:Nat)],.bool true])/\Below w.heap.size w w':=by
 obtain⟨A0,R0⟩:=bV w (.cells #[.int .i64 0,.int .i64 0,.int .i64 0] 91)
 go_enter func48,ntmps48
 go_wp2_with fail
 refine(CE.out _ A0.out).mono ?_
 rintro e9 v1 ⟨rfl,b1⟩
 have A1:Hid (Ab w (v1.alloc (.cells #[.int .i64 (L:Nat),.int .i64 (S:Nat),.int .i64 (R:Nat),.int .i64 (Q:Nat)] 105))):=(A0.out.call b1).alloc _
 have R1:Hid ((v1.alloc (.cells #[.int .i64 (L:Nat),.int .i64 (S:Nat),.int .i64 (R:Nat),.int .i64 (Q:Nat)] 105)).heap[w.heap.size]? =some (.cells #[.int .i64 0,.int .i64 0,.int .i64 0] 91)):=Ab.heap (bl1 _ _) (Ab.heap b1 R0.out)
 have ER1:=hid (heap_alloc_new v1 (.cells #[.int .i64 (L:Nat),.int .i64 (S:Nat),.int .i64 (R:Nat),.int .i64 (Q:Nat)] 105))
 clear b1 A0 R0
 go_wp2_with fail
 refine(CB.out _ A1.out).mono ?_
 rintro e9 v2 ⟨rfl,b2⟩
 obtain⟨ge,hge⟩:=aB v1.heap.size
 have A2:Hid (Ab w v2):=A1.out.call b2
 have R2:Hid (v2.heap[w.heap.size]? =some (.cells #[.int .i64 0,.int .i64 0,.int .i64 0] 91)):=Ab.heap b2 R1.out
 have ER2:Hid (v2.heap[ge]? =some (.cells #[.int .i64 (L:Nat),.int .i64 (S:Nat),.int .i64 (R:Nat),.int .i64 (Q:Nat)] 105)):=by rw[<- hge];exact Ab.heap b2 ER1.out
 clear b2 A1 R1 ER1
 rw[hge]
 clear hge
 obtain⟨⟨o0,o1,o2⟩,o3,o4,o5⟩:=rowfacts R2.out
 have e0:=aA 0 ER2.out
 have e2:=aA 2 ER2.out
 go_wp2
 refine bodyPost_ret ?_ rfl ⟨rfl,?_⟩
 ·exact cG results48 _ _ w.heap.size _ _ (0,0) _ _ rfl rfl (iP R2.out) underlying91 rfl (by kernel_rfl)
 ·exact((A2.out.setk (Nat.le_refl _) _).setk (Nat.le_refl _) _).setk (Nat.le_refl _) _
theorem vD(gp:Value)(e:Int)(u:Nat)(L S R Q p q:Nat)(w:World)(hu1:fgt u 0=false)(hu2:flt u 0=false)
  (CE:Hid (∀v,Ab w v->Calls prog 59 #[gp,.int .i64 e] v fun e w'=>e=.returned (.tuple #[.agg #[.int .i64 (L:Nat),.int .i64 (S:Nat),.int .i64 (R:Nat),.int .i64 (Q:Nat)],.bool true])/\Below v.heap.size v w'))
  (CB:Hid (∀v,Ab w v->Calls prog 60 #[gp,.int .i64 e] v fun e w'=>e=.returned (.tuple #[.int .i64 (p:Nat),.int .i64 (q:Nat),.bool true])/\Below v.heap.size v w')):
  Calls prog 48 #[gp,.int .i64 e,.float .f64 u] w fun e w'=>e=.returned (.tuple #[.agg #[.int .i64 0,.int .i64 0,.int .i64 0],.bool false])/\Below w.heap.size w w':=by
 obtain⟨A0,R0⟩:=bV w (.cells #[.int .i64 0,.int .i64 0,.int .i64 0] 91)
 go_enter func48,ntmps48
 go_wp2_with fail
 refine(CE.out _ A0.out).mono ?_
 rintro e9 v1 ⟨rfl,b1⟩
 have A1:Hid (Ab w (v1.alloc (.cells #[.int .i64 (L:Nat),.int .i64 (S:Nat),.int .i64 (R:Nat),.int .i64 (Q:Nat)] 105))):=(A0.out.call b1).alloc _
 have R1:Hid ((v1.alloc (.cells #[.int .i64 (L:Nat),.int .i64 (S:Nat),.int .i64 (R:Nat),.int .i64 (Q:Nat)] 105)).heap[w.heap.size]? =some (.cells #[.int .i64 0,.int .i64 0,.int .i64 0] 91)):=Ab.heap (bl1 _ _) (Ab.heap b1 R0.out)
 have ER1:=hid (heap_alloc_new v1 (.cells #[.int .i64 (L:Nat),.int .i64 (S:Nat),.int .i64 (R:Nat),.int .i64 (Q:Nat)] 105))
 clear b1 A0 R0
 go_wp2_with fail
 refine(CB.out _ A1.out).mono ?_
 rintro e9 v2 ⟨rfl,b2⟩
 obtain⟨ge,hge⟩:=aB v1.heap.size
 have A2:Hid (Ab w v2):=A1.out.call b2
 have R2:Hid (v2.heap[w.heap.size]? =some (.cells #[.int .i64 0,.int .i64 0,.int .i64 0] 91)):=Ab.heap b2 R1.out
 have ER2:Hid (v2.heap[ge]? =some (.cells #[.int .i64 (L:Nat),.int .i64 (S:Nat),.int .i64 (R:Nat),.int .i64 (Q:Nat)] 105)):=by rw[<- hge];exact Ab.heap b2 ER1.out
 clear b2 A1 R1 ER1
 rw[hge]
 clear hge
 obtain⟨⟨o0,o1,o2⟩,o3,o4,o5⟩:=rowfacts R2.out
 have e0:=aA 0 ER2.out
 have e2:=aA 2 ER2.out
 go_wp2
 refine bodyPost_ret ?_ rfl ⟨rfl,?_⟩
 ·exact cG results48 _ _ w.heap.size _ _ (0,0) _ _ rfl rfl (iP R2.out) underlying91 rfl (by kernel_rfl)
 ·exact((A2.out.setk (Nat.le_refl _) _).setk (Nat.le_refl _) _).setk (Nat.le_refl _) _
theorem tD(gp:Value)(bb bo wb wo M cb cw:Nat)(pt ps:Option Addr)(lt ct ls cs:Nat)(sky st:Int)(k:Int)(U D K:Nat)(h hk hd x y s f vv:Nat)(w:World)
  (DU:Hid (∀v,Ab w v->Calls prog 74 #[gp,.agg #[.slice (some ⟨bb,bo,none⟩) M cb,.slice (some ⟨wb,wo,none⟩) M cw,.slice pt lt ct,.slice ps ls cs,.int .i64 sky,.int .i64 st],.int .i64 (U:Nat)] v fun e w'=>e=.returned (.float .f64 h)/\Below v.heap.size v w'))
  (DK:Hid (∀v,Ab w v->Calls prog 74 #[gp,.agg #[.slice (some ⟨bb,bo,none⟩) M cb,.slice (some ⟨wb,wo,none⟩) M cw,.slice pt lt ct,.slice ps ls cs,.int .i64 sky,.int .i64 st],.int .i64 (K:Nat)] v fun e w'=>e=.returned (.float .f64 hk)/\Below v.heap.size v w'))
  (DD:Hid (∀v,Ab w v->Calls prog 74 #[gp,.agg #[.slice (some ⟨bb,bo,none⟩) M cb,.slice (some ⟨wb,wo,none⟩) M cw,.slice pt lt ct,.slice ps ls cs,.int .i64 sky,.int .i64 st],.int .i64 (D:Nat)] v fun e w'=>e=.returned (.float .f64 hd)/\Below v.heap.size v w'))
  (CS:Hid (∀v:World,Calls prog 75 #[.int .i64 k,.float .f64 x,.float .f64 y] v fun e w'=>e=.returned (.float .f64 s)/\Below v.heap.size v w'))
  (hx: ∀(t:TypeId) (w:World),(binOp .sub t (.float .f64 h) (.float .f64 hk)).run prog w=.ok (.float .f64 x) w)
  (hy: ∀(t:TypeId) (w:World),(binOp .sub t (.float .f64 hd) (.float .f64 h)).run prog w=.ok (.float .f64 y) w)
  (hm: ∀(t:TypeId) (w:World),(binOp .mul t (.float .f64 4602678819172646912) (.float .f64 s)).run prog w=.ok (.float .f64 f) w)
  (hv: ∀(t:TypeId) (w:World),(binOp .add t (.float .f64 h) (.float .f64 f)).run prog w=.ok (.float .f64 vv) w):
  Calls prog 50 #[.agg #[.int .i64 (U:Nat),.int .i64 (D:Nat),.int .i64 (K:Nat)],gp,.int .i64 k,.agg #[.slice (some ⟨bb,bo,none⟩) M cb,.slice (some ⟨wb,wo,none⟩) M cw,.slice pt lt ct,.slice ps ls cs,.int .i64 sky,.int .i64 st]] w fun e w'=>e=.returned (.float .f64 vv)/\Below w.heap.size w w':=by
 obtain⟨A0,RW0,RS0⟩:=bW w (.cells #[.int .i64 (U:Nat),.int .i64 (D:Nat),.int .i64 (K:Nat)] 91) (.cells #[.slice (some ⟨bb,bo,none⟩) M cb,.slice (some ⟨wb,wo,none⟩) M cw,.slice pt lt ct,.slice ps ls cs,.int .i64 sky,.int .i64 st] 29)
 go_enter func50,ntmps50
 have AV:Hid (Ab ((w.alloc (.cells #[.int .i64 (U:Nat),.int .i64 (D:Nat),.int .i64 (K:Nat)] 91)).alloc (.cells #[.slice (some ⟨bb,bo,none⟩) M cb,.slice (some ⟨wb,wo,none⟩) M cw,.slice pt lt ct,.slice ps ls cs,.int .i64 sky,.int .i64 st] 29)) ((w.alloc (.cells #[.int .i64 (U:Nat),.int .i64 (D:Nat),.int .i64 (K:Nat)] 91)).alloc (.cells #[.slice (some ⟨bb,bo,none⟩) M cb,.slice (some ⟨wb,wo,none⟩) M cw,.slice pt lt ct,.slice ps ls cs,.int .i64 sky,.int .i64 st] 29))):=Ab.refl _
 have s0:=aH (AV.out.heap RS0.out)
 have y0:=aA 0 (AV.out.heap RW0.out)
 have y1:=aA 1 (AV.out.heap RW0.out)
 have y2:=aA 2 (AV.out.heap RW0.out)
 go_wp2_with fail
 generalize hW:World.alloc (World.alloc w _) _=W at*
 obtain⟨g0,hg0⟩:=aB w.heap.size
 obtain⟨g1,hg1⟩:=aB (w.heap.size+1)
 rw[hg0]at RW0
 rw[hg1]at RS0
 clear s0 y0 y1 y2
 clear hW
 refine(DU.out _ (A0.out.trans AV.out)).mono ?_
 rintro e9 v1 ⟨rfl,b1⟩
 have AV2:Hid (Ab W v1):=AV.out.call b1
 clear b1 AV
 have AV:=AV2
 clear AV2
 rw[hg1,hg0]
 clear hg0 hg1
 have s0:=aH (AV.out.heap RS0.out)
 have y0:=aA 0 (AV.out.heap RW0.out)
 have y1:=aA 1 (AV.out.heap RW0.out)
 have y2:=aA 2 (AV.out.heap RW0.out)
 go_wp2_with fail
 clear s0 y0 y1 y2
 refine(DK.out _ (A0.out.trans AV.out)).mono ?_
 rintro e9 v2 ⟨rfl,b1⟩
 have AV2:Hid (Ab W v2):=AV.out.call b1
 clear b1 AV
 have AV:=AV2
 clear AV2
 have s0:=aH (AV.out.heap RS0.out)
 have y0:=aA 0 (AV.out.heap RW0.out)
 have y1:=aA 1 (AV.out.heap RW0.out)
 have y2:=aA 2 (AV.out.heap RW0.out)
 go_wp2_with fail
 clear s0 y0 y1 y2
 refine(DD.out _ (A0.out.trans AV.out)).mono ?_
 rintro e9 v3 ⟨rfl,b1⟩
 have AV2:Hid (Ab W v3):=AV.out.call b1
 clear b1 AV
 have AV:=AV2
 clear AV2
 go_wp2_with fail
 refine(CS.out _).mono ?_
 rintro e9 v4 ⟨rfl,b1⟩
 have AV2:Hid (Ab W v4):=AV.out.call b1
 clear b1
 go_wp2
 go_ret
 exact⟨rfl,A0.out.trans AV2.out⟩
end
section
open Go.RowKit Tf Cu
attribute [local go_sem] aI aJ aN aO aP aQ aV aF
theorem nV(gp:Value)(bb bo wb wo M cb cw:Nat)(pt ps:Option Addr)(lt ct ls cs:Nat)(sky st:Int)(U D K:Nat)(wU aU:Int)(bU bD l m:Nat)(w:World)(hU:((U:Nat):Int)<M)(hD:((D:Nat):Int)<M)
  (FW:Hid (∀v,Ab w v->v.cell? ⟨wb,wo+U,none⟩=some (.int .i64 wU)/\v.cell? ⟨bb,bo+U,none⟩=some (.float .f64 bU)/\v.cell? ⟨bb,bo+D,none⟩=some (.float .f64 bD)))
  (AU:Hid (∀v,Ab w v->Calls prog 17 #[gp,.int .i64 (U:Nat)] v fun e w'=>e=.returned (.int .i64 aU)/\Below v.heap.size v w'))
  (CL:Hid (∀v:World,Calls prog 76 #[.float .f64 bU,.int .i64 wU,.int .i64 aU] v fun e w'=>e=.returned (.float .f64 l)/\Below v.heap.size v w'))
  (CM:Hid (∀v:World,Calls prog 77 #[.float .f64 bU,.float .f64 bD] v fun e w'=>e=.returned (.float .f64 m)/\Below v.heap.size v w'))
  (g:Nat)
  (hg: ∀(t:TypeId) (w:World),(binOp .sub t (.float .f64 l) (.float .f64 m)).run prog w=.ok (.float .f64 g) w):
  Calls prog 51 #[.agg #[.int .i64 (U:Nat),.int .i64 (D:Nat),.int .i64 (K:Nat)],gp,.agg #[.slice (some ⟨bb,bo,none⟩) M cb,.slice (some ⟨wb,wo,none⟩) M cw,.slice pt lt ct,.slice ps ls cs,.int .i64 sky,.int .i64 st]] w fun e w'=>e=.returned (.float .f64 g)/\Below w.heap.size w w':=by
 obtain⟨A0,RW0,RS0⟩:=bW w (.cells #[.int .i64 (U:Nat),.int .i64 (D:Nat),.int .i64 (K:Nat)] 91) (.cells #[.slice (some ⟨bb,bo,none⟩) M cb,.slice (some ⟨wb,wo,none⟩) M cw,.slice pt lt ct,.slice ps ls cs,.int .i64 sky,.int .i64 st] 29)
 have AV:Hid (Ab ((w.alloc (.cells #[.int .i64 (U:Nat),.int .i64 (D:Nat),.int .i64 (K:Nat)] 91)).alloc (.cells #[.slice (some ⟨bb,bo,none⟩) M cb,.slice (some ⟨wb,wo,none⟩) M cw,.slice pt lt ct,.slice ps ls cs,.int .i64 sky,.int .i64 st] 29)) ((w.alloc (.cells #[.int .i64 (U:Nat),.int .i64 (D:Nat),.int .i64 (K:Nat)] 91)).alloc (.cells #[.slice (some ⟨bb,bo,none⟩) M cb,.slice (some ⟨wb,wo,none⟩) M cw,.slice pt lt ct,.slice ps ls cs,.int .i64 sky,.int .i64 st] 29))):=Ab.refl _
 have bb1:=(FW.out _ A0.out).2.1
 go_enter func51,ntmps51
 have s0:=aA 0 RS0.out
 have y0:=aA 0 RW0.out
 go_upto_region 2 with fail
 clear s0 y0 bb1
 generalize hW:World.alloc (World.alloc w _) _=W at*
 obtain⟨g0,hg0⟩:=aB w.heap.size
 obtain⟨g1,hg1⟩:=aB (w.heap.size+1)
 rw[hg0]at RW0
 rw[hg1]at RS0
 rw[hg1,hg0]
 clear hg0 hg1 hW AV
 obtain⟨UU,E,hF1,hF2⟩:=cls W
 have HU:=hid hF2
 have HU1:=hid hF1
 have HX:Hid (∀u,Ab w (E u)):=fun u=>Ab.trans A0.out (hF1 u)
 have s0: ∀u,(E u).cell? ⟨g1,0,none⟩=some (.slice (some ⟨bb,bo,none⟩) M cb):=fun u=>aA 0 ((hF1 u).heap RS0.out)
 have s1: ∀u,(E u).cell? ⟨g1,1,none⟩=some (.slice (some ⟨wb,wo,none⟩) M cw):=fun u=>aA 1 ((hF1 u).heap RS0.out)
 have y0: ∀u,(E u).cell? ⟨g0,0,none⟩=some (.int .i64 (U:Nat)):=fun u=>aA 0 ((hF1 u).heap RW0.out)
 have y1: ∀u,(E u).cell? ⟨g0,1,none⟩=some (.int .i64 (D:Nat)):=fun u=>aA 1 ((hF1 u).heap RW0.out)
 have xw: ∀u,(E u).cell? ⟨wb,wo+U,none⟩=some (.int .i64 wU):=fun u=>(FW.out _ (HX.out u)).1
 have xd: ∀u,(E u).cell? ⟨bb,bo+D,none⟩=some (.float .f64 bD):=fun u=>(FW.out _ (HX.out u)).2.2
 have DD0:=HU.out _ (Ab.refl W).drew
 clear hF1 hF2
 refine aG E (by kernel_rfl) (by kernel_rfl) DD0 ?_
 repeat(go_big_quiet_step (first
  | (with_reducible rfl)
  | (go_at_call 17;exact aD HU HU1 (AU.out _ (HX.out _)))
  | (go_at_call 76;exact aD HU HU1 (CL.out _))
  | (go_at_call 77;exact aD HU HU1 (CM.out _))))
 refine wpQuiet_nil ?_
 intro z hwz
 obtain⟨u0,hu⟩:=hwz
 have AZ:Hid (Ab w z):=by rw[hu];exact HX.out u0
 clear hu u0
 clear HU HU1 HX DD0 s0 s1 y0 y1 xw xd
 clear E UU
 go_wp2
 go_ret
 exact⟨rfl,AZ.out⟩
theorem nW(gp:Value)(bb bo wb wo M cb cw:Nat)(pt ps:Option Addr)(lt ct ls cs:Nat)(sky st:Int)(U D K:Nat)(wU aU:Int)(bU bD l m:Nat)(w:World)(hU:((U:Nat):Int)<M)(hD:((D:Nat):Int)<M)
  (FW:Hid (∀v,Ab w v->v.cell? ⟨wb,wo+U,none⟩=some (.int .i64 wU)/\v.cell? ⟨bb,bo+U,none⟩=some (.float .f64 bU)/\v.cell? ⟨bb,bo+D,none⟩=some (.float .f64 bD)))
  (AU:Hid (∀v,Ab w v->Calls prog 17 #[gp,.int .i64 (U:Nat)] v fun e w'=>e=.returned (.int .i64 aU)/\Below v.heap.size v w'))
  (CL:Hid (∀v:World,Calls prog 76 #[.float .f64 bU,.int .i64 wU,.int .i64 aU] v fun e w'=>e=.returned (.float .f64 l)/\Below v.heap.size v w'))
  (CM:Hid (∀v:World,Calls prog 77 #[.float .f64 bU,.float .f64 bD] v fun e w'=>e=.returned (.float .f64 m)/\Below v.heap.size v w'))
  (hg: ∀(t:TypeId) (w:World),(binOp .sub t (.float .f64 l) (.float .f64 m)).run prog w=.ok (.float .f64 (nanOf w l m)) (w.drewN 1)):
  Calls prog 51 #[.agg #[.int .i64 (U:Nat),.int .i64 (D:Nat),.int .i64 (K:Nat)],gp,.agg #[.slice (some ⟨bb,bo,none⟩) M cb,.slice (some ⟨wb,wo,none⟩) M cw,.slice pt lt ct,.slice ps ls cs,.int .i64 sky,.int .i64 st]] w fun e w'=> ∃g,e=.returned (.float .f64 g)/\(g<18446744073709551616/\isN g=true)/\Below w.heap.size w w':=by
 obtain⟨A0,RW0,RS0⟩:=bW w (.cells #[.int .i64 (U:Nat),.int .i64 (D:Nat),.int .i64 (K:Nat)] 91) (.cells #[.slice (some ⟨bb,bo,none⟩) M cb,.slice (some ⟨wb,wo,none⟩) M cw,.slice pt lt ct,.slice ps ls cs,.int .i64 sky,.int .i64 st] 29)
 have AV:Hid (Ab ((w.alloc (.cells #[.int .i64 (U:Nat),.int .i64 (D:Nat),.int .i64 (K:Nat)] 91)).alloc (.cells #[.slice (some ⟨bb,bo,none⟩) M cb,.slice (some ⟨wb,wo,none⟩) M cw,.slice pt lt ct,.slice ps ls cs,.int .i64 sky,.int .i64 st] 29)) ((w.alloc (.cells #[.int .i64 (U:Nat),.int .i64 (D:Nat),.int .i64 (K:Nat)] 91)).alloc (.cells #[.slice (some ⟨bb,bo,none⟩) M cb,.slice (some ⟨wb,wo,none⟩) M cw,.slice pt lt ct,.slice ps ls cs,.int .i64 sky,.int .i64 st] 29))):=Ab.refl _
 have bb1:=(FW.out _ A0.out).2.1
 go_enter func51,ntmps51
 have s0:=aA 0 RS0.out
 have y0:=aA 0 RW0.out
 go_upto_region 2 with fail
 clear s0 y0 bb1
 generalize hW:World.alloc (World.alloc w _) _=W at*
 obtain⟨g0,hg0⟩:=aB w.heap.size
 obtain⟨g1,hg1⟩:=aB (w.heap.size+1)
 rw[hg0]at RW0
 rw[hg1]at RS0
 rw[hg1,hg0]
 clear hg0 hg1 hW AV
 obtain⟨UU,E,hF1,hF2⟩:=cls W
 have HU:=hid hF2
 have HU1:=hid hF1
 have HX:Hid (∀u,Ab w (E u)):=fun u=>Ab.trans A0.out (hF1 u)
 have s0: ∀u,(E u).cell? ⟨g1,0,none⟩=some (.slice (some ⟨bb,bo,none⟩) M cb):=fun u=>aA 0 ((hF1 u).heap RS0.out)
 have s1: ∀u,(E u).cell? ⟨g1,1,none⟩=some (.slice (some ⟨wb,wo,none⟩) M cw):=fun u=>aA 1 ((hF1 u).heap RS0.out)
 have y0: ∀u,(E u).cell? ⟨g0,0,none⟩=some (.int .i64 (U:Nat)):=fun u=>aA 0 ((hF1 u).heap RW0.out)
 have y1: ∀u,(E u).cell? ⟨g0,1,none⟩=some (.int .i64 (D:Nat)):=fun u=>aA 1 ((hF1 u).heap RW0.out)
 have xw: ∀u,(E u).cell? ⟨wb,wo+U,none⟩=some (.int .i64 wU):=fun u=>(FW.out _ (HX.out u)).1
 have xd: ∀u,(E u).cell? ⟨bb,bo+D,none⟩=some (.float .f64 bD):=fun u=>(FW.out _ (HX.out u)).2.2
 have DD0:=HU.out _ (Ab.refl W).drew
 clear hF1 hF2
 refine cS 20 E (by kernel_rfl) (by kernel_rfl) (by kernel_rfl) DD0 ?_
 simp only[List.take_succ_cons,List.take_zero,List.drop_succ_cons,List.drop_zero]
 repeat(go_big_quiet_step (first
  | (with_reducible rfl)
  | (go_at_call 17;exact aD HU HU1 (AU.out _ (HX.out _)))
  | (go_at_call 76;exact aD HU HU1 (CL.out _))
  | (go_at_call 77;exact aD HU HU1 (CM.out _))))
 refine wpQuiet_nil ?_
 intro z hwz
 obtain⟨u0,hu⟩:=hwz
 have AZ:Hid (Ab w z):=by rw[hu];exact HX.out u0
 clear hu u0
 clear HU HU1 HX DD0 s0 s1 y0 y1 xw xd
 clear E UU
 go_wp2
 go_ret
 exact⟨_,rfl,⟨dX _ _ _,cW _ _ _⟩,Ab.drewN AZ.out 1⟩
end
section
open Go.RowKit Tf Cu
attribute [local go_sem] aI aJ aN aO aP aQ aV aF
theorem vE(gp:Value)(pb pw pt ps:Option Addr)(lb cb lw cw lt ct ls cs:Nat)(sky st:Int)(k:Int)(e:Int)(u:Nat)(w:World)
  (CF:Hid (∀v,Ab w v->Calls prog 47 #[gp,.agg #[.slice pb lb cb,.slice pw lw cw,.slice pt lt ct,.slice ps ls cs,.int .i64 sky,.int .i64 st]] v fun e w'=>e=.returned (.bool false)/\Below v.heap.size v w')):
  Calls prog 14 #[gp,.int .i64 k,.agg #[.slice pb lb cb,.slice pw lw cw,.slice pt lt ct,.slice ps ls cs,.int .i64 sky,.int .i64 st],.int .i64 e,.float .f64 u] w fun e w'=>e=.returned (.float .f64 0)/\Below w.heap.size w w':=by
 obtain⟨A0,RO⟩:=bV w (.cells #[.slice pb lb cb,.slice pw lw cw,.slice pt lt ct,.slice ps ls cs,.int .i64 sky,.int .i64 st] 29)
 go_enter func14,ntmps14
 have s0:=aH RO.out
 go_wp2_with fail
 clear s0
 refine(CF.out _ A0.out).mono ?_
 rintro e9 v1 ⟨rfl,b1⟩
 have A1:Hid (Ab w v1):=A0.out.call b1
 have RO1:Hid (v1.heap[w.heap.size]? =some (.cells #[.slice pb lb cb,.slice pw lw cw,.slice pt lt ct,.slice ps ls cs,.int .i64 sky,.int .i64 st] 29)):=Ab.heap b1 RO.out
 clear b1 A0 RO
 go_wp2
 go_ret
 exact⟨rfl,A1.out⟩
theorem nX(gp:Value)(pb pw pt ps:Option Addr)(lb cb lw cw lt ct ls cs:Nat)(sky st:Int)(k:Int)(e:Int)(u:Nat)(w:World)
  (CF:Hid (∀v,Ab w v->Calls prog 47 #[gp,.agg #[.slice pb lb cb,.slice pw lw cw,.slice pt lt ct,.slice ps ls cs,.int .i64 sky,.int .i64 st]] v fun e w'=>e=.returned (.bool true)/\Below v.heap.size v w'))
  (CW:Hid (∀v,Ab w v->Calls prog 48 #[gp,.int .i64 e,.float .f64 u] v fun e w'=>e=.returned (.tuple #[.agg #[.int .i64 0,.int .i64 0,.int .i64 0],.bool false])/\Below v.heap.size v w')):
  Calls prog 14 #[gp,.int .i64 k,.agg #[.slice pb lb cb,.slice pw lw cw,.slice pt lt ct,.slice ps ls cs,.int .i64 sky,.int .i64 st],.int .i64 e,.float .f64 u] w fun e w'=>e=.returned (.float .f64 0)/\Below w.heap.size w w':=by
 obtain⟨A0,RO⟩:=bV w (.cells #[.slice pb lb cb,.slice pw lw cw,.slice pt lt ct,.slice ps ls cs,.int .i64 sky,.int .i64 st] 29)
 go_enter func14,ntmps14
 have s0:=aH RO.out
 go_wp2_with fail
 clear s0
 refine(CF.out _ A0.out).mono ?_
 rintro e9 v1 ⟨rfl,b1⟩
 have A1:Hid (Ab w v1):=A0.out.call b1
 have RO1:Hid (v1.heap[w.heap.size]? =some (.cells #[.slice pb lb cb,.slice pw lw cw,.slice pt lt ct,.slice ps ls cs,.int .i64 sky,.int .i64 st] 29)):=Ab.heap b1 RO.out
 clear b1 A0 RO
 go_wp2_with fail
 refine(CW.out _ A1.out).mono ?_
 rintro e9 v2 ⟨rfl,b2⟩
 have A2:Hid (Ab w (v2.alloc (.cells #[.int .i64 0,.int .i64 0,.int .i64 0] 91))):=(A1.out.call b2).alloc _
 clear b2 A1 RO1
 go_wp2
 go_ret
 exact⟨rfl,A2.out⟩
theorem zK(gp:Value)(bb bo wb wo M cb cw:Nat)(pt ps:Option Addr)(lt ct ls cs:Nat)(sky st:Int)(k:Int)(e:Int)(u:Nat)(w:World)(U D K vv r:Nat)(c:Bool)
  (CF:Hid (∀v,Ab w v->Calls prog 47 #[gp,.agg #[.slice (some ⟨bb,bo,none⟩) M cb,.slice (some ⟨wb,wo,none⟩) M cw,.slice pt lt ct,.slice ps ls cs,.int .i64 sky,.int .i64 st]] v fun e w'=>e=.returned (.bool true)/\Below v.heap.size v w'))
  (CW:Hid (∀v,Ab w v->Calls prog 48 #[gp,.int .i64 e,.float .f64 u] v fun e w'=>e=.returned (.tuple #[.agg #[.int .i64 (U:Nat),.int .i64 (D:Nat),.int .i64 (K:Nat)],.bool true])/\Below v.heap.size v w'))
  (CO:Hid (∀v,Ab w v->Calls prog 50 #[.agg #[.int .i64 (U:Nat),.int .i64 (D:Nat),.int .i64 (K:Nat)],gp,.int .i64 k,.agg #[.slice (some ⟨bb,bo,none⟩) M cb,.slice (some ⟨wb,wo,none⟩) M cw,.slice pt lt ct,.slice ps ls cs,.int .i64 sky,.int .i64 st]] v fun e w'=>e=.returned (.float .f64 vv)/\Below v.heap.size v w'))
  (g:Nat)
  (CG:Hid (∀v,Ab w v->Calls prog 51 #[.agg #[.int .i64 (U:Nat),.int .i64 (D:Nat),.int .i64 (K:Nat)],gp,.agg #[.slice (some ⟨bb,bo,none⟩) M cb,.slice (some ⟨wb,wo,none⟩) M cw,.slice pt lt ct,.slice ps ls cs,.int .i64 sky,.int .i64 st]] v fun e w'=>e=.returned (.float .f64 g)/\Below v.heap.size v w'))
  (CN:Hid (∀v:World,Calls prog 49 #[.float .f64 vv,.float .f64 g] v fun e w'=>e=.returned (.float .f64 r)/\Below v.heap.size v w'))
  (hr:fgt r 0=c):
  Calls prog 14 #[gp,.int .i64 k,.agg #[.slice (some ⟨bb,bo,none⟩) M cb,.slice (some ⟨wb,wo,none⟩) M cw,.slice pt lt ct,.slice ps ls cs,.int .i64 sky,.int .i64 st],.int .i64 e,.float .f64 u] w fun e w'=>e=.returned (.float .f64 (if c=true then r else 0))/\Below w.heap.size w w':=by
 obtain⟨A0,RO⟩:=bV w (.cells #[.slice (some ⟨bb,bo,none⟩) M cb,.slice (some ⟨wb,wo,none⟩) M cw,.slice pt lt ct,.slice ps ls cs,.int .i64 sky,.int .i64 st] 29)
 go_enter func14,ntmps14
 obtain⟨s0,s1,s2,s3,s4,s5⟩:=aH RO.out
 go_wp2_with fail
 clear s0 s1 s2 s3 s4 s5
 refine(CF.out _ A0.out).mono ?_
 rintro e9 v1 ⟨rfl,b1⟩
 have A1:Hid (Ab w v1):=A0.out.call b1
 have RO1:Hid (v1.heap[w.heap.size]? =some (.cells #[.slice (some ⟨bb,bo,none⟩) M cb,.slice (some ⟨wb,wo,none⟩) M cw,.slice pt lt ct,.slice ps ls cs,.int .i64 sky,.int .i64 st] 29)):=Ab.heap b1 RO.out
 clear b1 A0 RO
 go_wp2_with fail
 refine(CW.out _ A1.out).mono ?_
 rintro e9 v2 ⟨rfl,b2⟩
 have A2:Hid (Ab w (v2.alloc (.cells #[.int .i64 (U:Nat),.int .i64 (D:Nat),.int .i64 (K:Nat)] 91))):=(A1.out.call b2).alloc _
 have RS:Hid ((v2.alloc (.cells #[.int .i64 (U:Nat),.int .i64 (D:Nat),.int .i64 (K:Nat)] 91)).heap[w.heap.size]? =some (.cells #[.slice (some ⟨bb,bo,none⟩) M cb,.slice (some ⟨wb,wo,none⟩) M cw,.slice pt lt ct,.slice ps ls cs,.int .i64 sky,.int .i64 st] 29)):=Ab.heap (bl1 _ _) (Ab.heap b2 RO1.out)
 have RW:=hid (heap_alloc_new v2 (.cells #[.int .i64 (U:Nat),.int .i64 (D:Nat),.int .i64 (K:Nat)] 91))
 clear b2 A1 RO1
 go_upto_region 6 with fail
 generalize hW:World.alloc v2 _=W at*
 obtain⟨gs,hgs⟩:=aB w.heap.size
 obtain⟨ge,hge⟩:=aB v2.heap.size
 rw[hgs]at RS
 rw[hge]at RW
 rw[hge,hgs]
 clear hW hgs hge
 obtain⟨UU,E,hF1,hF2⟩:=cls W
 have HU:=hid hF2
 have HU1:=hid hF1
 have HX:Hid (∀u,Ab w (E u)):=fun u=>Ab.trans A2.out (hF1 u)
 have s0: ∀u,(E u).cell? ⟨gs,0,none⟩=some (.slice (some ⟨bb,bo,none⟩) M cb):=fun u=>aA 0 ((hF1 u).heap RS.out)
 have s1: ∀u,(E u).cell? ⟨gs,1,none⟩=some (.slice (some ⟨wb,wo,none⟩) M cw):=fun u=>aA 1 ((hF1 u).heap RS.out)
 have s2: ∀u,(E u).cell? ⟨gs,2,none⟩=some (.slice pt lt ct):=fun u=>aA 2 ((hF1 u).heap RS.out)
 have s3: ∀u,(E u).cell? ⟨gs,3,none⟩=some (.slice ps ls cs):=fun u=>aA 3 ((hF1 u).heap RS.out)
 have s4: ∀u,(E u).cell? ⟨gs,4,none⟩=some (.int .i64 sky):=fun u=>aA 4 ((hF1 u).heap RS.out)
 have s5: ∀u,(E u).cell? ⟨gs,5,none⟩=some (.int .i64 st):=fun u=>aA 5 ((hF1 u).heap RS.out)
 have y0: ∀u,(E u).cell? ⟨ge,0,none⟩=some (.int .i64 (U:Nat)):=fun u=>aA 0 ((hF1 u).heap RW.out)
 have y1: ∀u,(E u).cell? ⟨ge,1,none⟩=some (.int .i64 (D:Nat)):=fun u=>aA 1 ((hF1 u).heap RW.out)
 have y2: ∀u,(E u).cell? ⟨ge,2,none⟩=some (.int .i64 (K:Nat)):=fun u=>aA 2 ((hF1 u).heap RW.out)
 have DD0:=HU.out _ (Ab.refl W).drew
 clear hF1 hF2
 refine aG E (by kernel_rfl) (by kernel_rfl) DD0 ?_
 repeat(go_big_quiet_step (first
  | (with_reducible rfl)
  | (go_at_call 50;exact aD HU HU1 (CO.out _ (HX.out _)))
  | (go_at_call 51;exact aD HU HU1 (CG.out _ (HX.out _)))
  | (go_at_call 49;exact aD HU HU1 (CN.out _))))
 refine wpQuiet_nil ?_
 intro z hwz
 obtain⟨u0,hu⟩:=hwz
 have AZ:Hid (Ab w z):=by rw[hu];exact HX.out u0
 clear hu u0
 clear HU HU1 HX DD0 s0 s1 s2 s3 s4 s5 y0 y1 y2
 clear E UU
 have AY:Hid (Ab w z):=AZ.out
 clear AZ
 cases c
 ·go_wp2
  go_ret
  exact⟨rfl,AY.out⟩
 ·go_wp2
  go_ret
  exact⟨rfl,AY.out⟩
theorem zL(gp:Value)(bb bo wb wo M cb cw:Nat)(pt ps:Option Addr)(lt ct ls cs:Nat)(sky st:Int)(k:Int)(e:Int)(u:Nat)(w:World)(U D K vv r:Nat)(c:Bool)
  (CF:Hid (∀v,Ab w v->Calls prog 47 #[gp,.agg #[.slice (some ⟨bb,bo,none⟩) M cb,.slice (some ⟨wb,wo,none⟩) M cw,.slice pt lt ct,.slice ps ls cs,.int .i64 sky,.int .i64 st]] v fun e w'=>e=.returned (.bool true)/\Below v.heap.size v w'))
  (CW:Hid (∀v,Ab w v->Calls prog 48 #[gp,.int .i64 e,.float .f64 u] v fun e w'=>e=.returned (.tuple #[.agg #[.int .i64 (U:Nat),.int .i64 (D:Nat),.int .i64 (K:Nat)],.bool true])/\Below v.heap.size v w'))
  (CO:Hid (∀v,Ab w v->Calls prog 50 #[.agg #[.int .i64 (U:Nat),.int .i64 (D:Nat),.int .i64 (K:Nat)],gp,.int .i64 k,.agg #[.slice (some ⟨bb,bo,none⟩) M cb,.slice (some ⟨wb,wo,none⟩) M cw,.slice pt lt ct,.slice ps ls cs,.int .i64 sky,.int .i64 st]] v fun e w'=>e=.returned (.float .f64 vv)/\Below v.heap.size v w'))
  (CG:Hid (∀v,Ab w v->Calls prog 51 #[.agg #[.int .i64 (U:Nat),.int .i64 (D:Nat),.int .i64 (K:Nat)],gp,.agg #[.slice (some ⟨bb,bo,none⟩) M cb,.slice (some ⟨wb,wo,none⟩) M cw,.slice pt lt ct,.slice ps ls cs,.int .i64 sky,.int .i64 st]] v fun e w'=> ∃g,e=.returned (.float .f64 g)/\(g<18446744073709551616/\isN g=true)/\Below v.heap.size v w'))
  (CN:Hid (∀g,g<18446744073709551616->isN g=true-> ∀v:World,Calls prog 49 #[.float .f64 vv,.float .f64 g] v fun e w'=>e=.returned (.float .f64 r)/\Below v.heap.size v w'))
  (hr:fgt r 0=c):
  Calls prog 14 #[gp,.int .i64 k,.agg #[.slice (some ⟨bb,bo,none⟩) M cb,.slice (some ⟨wb,wo,none⟩) M cw,.slice pt lt ct,.slice ps ls cs,.int .i64 sky,.int .i64 st],.int .i64 e,.float .f64 u] w fun e w'=>e=.returned (.float .f64 (if c=true then r else 0))/\Below w.heap.size w w':=by
 obtain⟨A0,RO⟩:=bV w (.cells #[.slice (some ⟨bb,bo,none⟩) M cb,.slice (some ⟨wb,wo,none⟩) M cw,.slice pt lt ct,.slice ps ls cs,.int .i64 sky,.int .i64 st] 29)
 go_enter func14,ntmps14
 obtain⟨s0,s1,s2,s3,s4,s5⟩:=aH RO.out
 go_wp2_with fail
 clear s0 s1 s2 s3 s4 s5
 refine(CF.out _ A0.out).mono ?_
 rintro e9 v1 ⟨rfl,b1⟩
 have A1:Hid (Ab w v1):=A0.out.call b1
 have RO1:Hid (v1.heap[w.heap.size]? =some (.cells #[.slice (some ⟨bb,bo,none⟩) M cb,.slice (some ⟨wb,wo,none⟩) M cw,.slice pt lt ct,.slice ps ls cs,.int .i64 sky,.int .i64 st] 29)):=Ab.heap b1 RO.out
 clear b1 A0 RO
 go_wp2_with fail
 refine(CW.out _ A1.out).mono ?_
 rintro e9 v2 ⟨rfl,b2⟩
 have A2:Hid (Ab w (v2.alloc (.cells #[.int .i64 (U:Nat),.int .i64 (D:Nat),.int .i64 (K:Nat)] 91))):=(A1.out.call b2).alloc _
 have RS:Hid ((v2.alloc (.cells #[.int .i64 (U:Nat),.int .i64 (D:Nat),.int .i64 (K:Nat)] 91)).heap[w.heap.size]? =some (.cells #[.slice (some ⟨bb,bo,none⟩) M cb,.slice (some ⟨wb,wo,none⟩) M cw,.slice pt lt ct,.slice ps ls cs,.int .i64 sky,.int .i64 st] 29)):=Ab.heap (bl1 _ _) (Ab.heap b2 RO1.out)
 have RW:=hid (heap_alloc_new v2 (.cells #[.int .i64 (U:Nat),.int .i64 (D:Nat),.int .i64 (K:Nat)] 91))
 clear b2 A1 RO1
 go_upto_region 6 with fail
 generalize hW:World.alloc v2 _=W at*
 obtain⟨gs,hgs⟩:=aB w.heap.size
 obtain⟨ge,hge⟩:=aB v2.heap.size
 rw[hgs]at RS
 rw[hge]at RW
 rw[hge,hgs]
 clear hW hgs hge
 obtain⟨UU,E,hF1,hF2⟩:=cls W
 have HU:=hid hF2
 have HU1:=hid hF1
 have HX:Hid (∀u,Ab w (E u)):=fun u=>Ab.trans A2.out (hF1 u)
 have s0: ∀u,(E u).cell? ⟨gs,0,none⟩=some (.slice (some ⟨bb,bo,none⟩) M cb):=fun u=>aA 0 ((hF1 u).heap RS.out)
 have s1: ∀u,(E u).cell? ⟨gs,1,none⟩=some (.slice (some ⟨wb,wo,none⟩) M cw):=fun u=>aA 1 ((hF1 u).heap RS.out)
 have s2: ∀u,(E u).cell? ⟨gs,2,none⟩=some (.slice pt lt ct):=fun u=>aA 2 ((hF1 u).heap RS.out)
 have s3: ∀u,(E u).cell? ⟨gs,3,none⟩=some (.slice ps ls cs):=fun u=>aA 3 ((hF1 u).heap RS.out)
 have s4: ∀u,(E u).cell? ⟨gs,4,none⟩=some (.int .i64 sky):=fun u=>aA 4 ((hF1 u).heap RS.out)
 have s5: ∀u,(E u).cell? ⟨gs,5,none⟩=some (.int .i64 st):=fun u=>aA 5 ((hF1 u).heap RS.out)
 have y0: ∀u,(E u).cell? ⟨ge,0,none⟩=some (.int .i64 (U:Nat)):=fun u=>aA 0 ((hF1 u).heap RW.out)
 have y1: ∀u,(E u).cell? ⟨ge,1,none⟩=some (.int .i64 (D:Nat)):=fun u=>aA 1 ((hF1 u).heap RW.out)
 have y2: ∀u,(E u).cell? ⟨ge,2,none⟩=some (.int .i64 (K:Nat)):=fun u=>aA 2 ((hF1 u).heap RW.out)
 have DD0:=HU.out _ (Ab.refl W).drew
 clear hF1 hF2
 refine cS 8 E (by kernel_rfl) (by kernel_rfl) (by kernel_rfl) DD0 ?_
 simp only[List.take_succ_cons,List.take_zero,List.drop_succ_cons,List.drop_zero]
 repeat(go_big_quiet_step (first
  | (with_reducible rfl)
  | (go_at_call 50;exact aD HU HU1 (CO.out _ (HX.out _)))))
 refine wpQuiet_nil ?_
 intro z hwz
 obtain⟨u0,hu⟩:=hwz
 have AZ:Hid (Ab w z):=by rw[hu];exact HX.out u0
 clear hu u0
 clear HU HU1 HX DD0 s0 s1 s2 s3 s4 s5 y0 y1 y2
 clear E UU
 go_wp2_with fail
 refine(CG.out _ AZ.out).mono ?_
 rintro e9 v3 ⟨g,rfl,hg,b3⟩
 have A3:Hid (Ab w v3):=AZ.out.call b3
 have HG:=hid hg
 clear b3 hg AZ
 go_wp2_with fail
 refine(CN.out g HG.out.1 HG.out.2 _).mono ?_
 rintro e9 v4 ⟨rfl,b4⟩
 have AZ:Hid (Ab w v4):=A3.out.call b4
 clear b4 A3 HG
 have AY:Hid (Ab w v4):=AZ.out
 clear AZ
 cases c
 ·go_wp2
  go_ret
  exact⟨rfl,AY.out⟩
 ·go_wp2
  go_ret
  exact⟨rfl,AY.out⟩
end
section
open Go.RowKit Tf
attribute [local go_sem] aI aJ aN aO aP aQ aV
theorem kU{P:Program}(w:World)(ts:Array TypeId)(t:TypeId){a b:Nat}(ha:a<=9218868437227405312)(hb:b<=9218868437227405312):
  (Builtin.min_ ts t #[.float .f64 a,.float .f64 b]).run P w=.ok (.float .f64 (min a b)) w:=by
 have h:FloatKind.f64.format.order a b=_:=sO ha hb
 by_cases c:a<b
 ·rw[if_pos c]at h
  simp[Builtin.min_,Builtin.min2,h]
  omega
 ·rw[if_neg c]at h
  by_cases d:b<a
  ·rw[if_pos d]at h
   simp[Builtin.min_,Builtin.min2,h]
   omega
  ·rw[if_neg d]at h
   have e:a=b:=by omega
   subst e
   simp[Builtin.min_,Builtin.min2,h]
theorem zM{P:Program}(w:World)(ts:Array TypeId)(t:TypeId){a b:Nat}(ha:a<=9218868437227405312)(hb:b<=9218868437227405312):
  (Builtin.max_ ts t #[.float .f64 a,.float .f64 b]).run P w=.ok (.float .f64 (max a b)) w:=by
 have h:FloatKind.f64.format.order a b=_:=sO ha hb
 by_cases c:a<b
 ·rw[if_pos c]at h
  simp[Builtin.max_,Builtin.max2,h]
  omega
 ·rw[if_neg c]at h
  by_cases d:b<a
  ·rw[if_pos d]at h
   simp[Builtin.max_,Builtin.max2,h]
   omega
  ·rw[if_neg d]at h
   have e:a=b:=by omega
   subst e
   simp[Builtin.max_,Builtin.max2,h]
theorem plain_at(a b:Nat)(w:World):Calls prog 118 #[.float .f64 a,.float .f64 b] w fun e w'=>e=.returned (.float .f64 0)/\w'=w:=by
 go_enter func118,ntmps118
 go_wp2
 go_ret
 exact⟨rfl,rfl⟩
theorem zN(a b:Nat)(w:World)(ha:a<=9218868437227405312)(hb:b<=9218868437227405312):Calls prog 119 #[.float .f64 a,.float .f64 b] w fun e w'=>e=.returned (.float .f64 (min a b))/\w'=w:=by
 have h: ∀ts t,(Builtin.min_ ts t #[.float .f64 a,.float .f64 b]).run prog w=.ok (.float .f64 (min a b)) w:=fun ts t=>kU w ts t ha hb
 generalize e:min a b=m at h ⊢
 clear e ha hb
 go_enter func119,ntmps119
 go_wp2
 go_ret
 exact⟨rfl,rfl⟩
theorem tE(a b:Nat)(w:World)(ha:ps a=true)(hb:ps b=true):Calls prog 120 #[.float .f64 a,.float .f64 b] w fun e w'=>e=.returned (.float .f64 (sbee a b))/\w'=w:=by
 obtain⟨a0,a1⟩:=bN.1 ha
 obtain⟨b0,b1⟩:=bN.1 hb
 have fa:=(eZ a1).1
 have fb:=(eZ b1).1
 have h1: ∀t,(binOp .mul t (.float .f64 4611686018427387904) (.float .f64 a)).run prog w=.ok (.float .f64 (mlB 4611686018427387904 a)) w:=fun t=>run_float_arith w .mul t .f64 _ _ _ (qV (by decide) a1 (by decide) a0)
 have h2: ∀t,(binOp .mul t (.float .f64 4611686018427387904) (.float .f64 b)).run prog w=.ok (.float .f64 (mlB 4611686018427387904 b)) w:=fun t=>run_float_arith w .mul t .f64 _ _ _ (qV (by decide) b1 (by decide) b0)
 have h3: ∀ts t,(Builtin.min_ ts t #[.float .f64 (mlB 4611686018427387904 a),.float .f64 b]).run prog w=.ok (.float .f64 (min (mlB 4611686018427387904 a) b)) w:=fun ts t=>kU w ts t fa b1
 have h4: ∀ts t,(Builtin.min_ ts t #[.float .f64 a,.float .f64 (mlB 4611686018427387904 b)]).run prog w=.ok (.float .f64 (min a (mlB 4611686018427387904 b))) w:=fun ts t=>kU w ts t a1 fb
 have h5: ∀ts t,(Builtin.max_ ts t #[.float .f64 (min (mlB 4611686018427387904 a) b),.float .f64 (min a (mlB 4611686018427387904 b))]).run prog w=.ok (.float .f64 (sbee a b)) w:=fun ts t=>zM w ts t (by omega) (by omega)
 generalize mlB 4611686018427387904 a=p at*
 generalize mlB 4611686018427387904 b=q at*
 generalize min p b=u at*
 generalize min a q=v at*
 generalize sbee a b=s at*
 clear a0 a1 b0 b1 fa fb ha hb
 go_enter func120,ntmps120
 go_wp2
 go_ret
 exact⟨rfl,rfl⟩
theorem leer_at(a b:Nat)(w:World)(ha:ps a=true)(hb:ps b=true):Calls prog 121 #[.float .f64 a,.float .f64 b] w fun e w'=> ∃r,e=.returned (.float .f64 r)/\(∃n,w'=w.drewN n)/\IsC r (lr a b):=by
 obtain⟨a0,a1⟩:=bN.1 ha
 obtain⟨b0,b1⟩:=bN.1 hb
 have fa:=eZ a1
 have L:=leer_nn a1 b1 a0 b0
 have h1: ∀t,(binOp .mul t (.float .f64 4611686018427387904) (.float .f64 a)).run prog w=.ok (.float .f64 (mlB 4611686018427387904 a)) w:=fun t=>run_float_arith w .mul t .f64 _ _ _ (qV (by decide) a1 (by decide) a0)
 have h2: ∀t,(binOp .mul t (.float .f64 (mlB 4611686018427387904 a)) (.float .f64 b)).run prog w=.ok (.float .f64 (mlB (mlB 4611686018427387904 a) b)) w:=fun t=>run_float_arith w .mul t .f64 _ _ _ (qV fa.1 b1 (by omega) b0)
 have h3: ∀t,(binOp .add t (.float .f64 a) (.float .f64 b)).run prog w=.ok (.float .f64 (plB a b)) w:=fun t=>run_float_arith w .add t .f64 _ _ _ (add_pp a1 b1)
 obtain⟨r,n,h4,hc⟩:=eK (P:=prog) w (mlB (mlB 4611686018427387904 a) b) (plB a b)
 have hc:IsC r (leer a b):=hc
 obtain⟨k1,k2⟩:=lr_le_of hc L
 have HL:=lr_le a b
 by_cases c:leer a b<9218868437227405312
 ·have e:lr a b=leer a b:=by unfold lr;rw[if_pos c]
  rw[decide_eq_true c]at k1
  have HC:Hid (IsC r (lr a b)):=by rw[e];exact hc
  generalize mlB (mlB 4611686018427387904 a) b=q at*
  generalize mlB 4611686018427387904 a=p at*
  generalize plB a b=s at*
  clear e k2 c L fa a0 a1 b0 b1 ha hb HL
  clear hc
  go_enter func121,ntmps121
  go_wp2
  go_ret
  exact⟨r,rfl,⟨n,rfl⟩,HC.out⟩
 ·have e:lr a b=0:=by unfold lr;rw[if_neg c]
  rw[decide_eq_false c]at k1
  have HC:Hid (IsC 0 (lr a b)):=by rw[e];exact⟨by decide,by decide⟩
  generalize mlB (mlB 4611686018427387904 a) b=q at*
  generalize mlB 4611686018427387904 a=p at*
  generalize plB a b=s at*
  clear e k2 c L fa a0 a1 b0 b1 ha hb HL
  clear hc
  go_enter func121,ntmps121
  go_wp2
  go_ret
  exact⟨0,rfl,⟨n,rfl⟩,HC.out⟩
theorem nY{P:Program}{w:World}{a:Addr}{m:Mode}(f:Fn)(x y:Array Value):(store a (.func f x y) m).run P w=stored P w a (.func f x y) m:=run_store P w a _ m rfl
attribute [local go_sem] nY
theorem bK(w:World):Calls prog 103 #[] w fun e w'=>e=.returned (.agg #[.func (.func 118) #[] #[],.func (.func 119) #[] #[],.func (.func 120) #[] #[],.func (.func 121) #[] #[]])/\Below w.heap.size w w':=by
 go_enter func103,ntmps103
 go_wp2
 refine bodyPost_ret ?_ rfl ⟨rfl,?_⟩
 ·exact results_cell_row results103 _ _ w.heap.size _ _ (0,0) _ rfl (heap_alloc_new w _) underlying157 rfl (by kernel_rfl)
 ·exact bl1 w _
theorem cQ(k:Int)(w:World):Calls prog 102 #[.int .i64 k] w fun e w'=>e=.returned (.bool (decide (0<=k/\k<=3)))/\Below w.heap.size w w':=by
 have L:=hid (bK w)
 by_cases c:0<=k
 ·have e:decide (0<=k/\k<=3)=decide (k<4):=by by_cases d:k<4<;>simp[d]<;>omega
  rw[e]
  clear e
  go_enter func102,ntmps102
  go_wp2_with fail
  refine L.out.mono ?_
  rintro e w1 ⟨rfl,b1⟩
  go_wp2
  go_ret
  exact⟨rfl,b1⟩
 ·have e:decide (0<=k/\k<=3)=false:=decide_eq_false (by omega)
  rw[e]
  clear e
  go_enter func102,ntmps102
  go_wp2
  go_ret
  exact⟨rfl,Below.refl _ _⟩
end
end Go.Proofs.YtjheiemgfibgpaaGreatDoor
