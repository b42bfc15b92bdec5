/-
  Some of the texts of this proof, one behind the other.
-/
import Derived.Deep.QuietTactic
import Derived.Test.YtmhnilnaffjhmaaGreatDoorCeg17
set_option maxRecDepth 100000
set_option maxHeartbeats 400000000
namespace Go.Proofs.YtmhnilnaffjhmaaGreatDoor
open _root_.Go.Proofs.Tryz
section
open Go.RowKit Tf Cu
attribute [local go_sem] aJ aK aN aO aP aQ aV aD
theorem zJ(gp:Value)(pb pw pt ps:Option Addr)(lb cb lw cw lt ct ls cs:Nat)(sky st:Int)(M:Nat)(q:Bool)(w:World)
  (hq:(((lb:Int)==(M:Int))=false/\q=false)\/(((lb:Int)==(M:Int))=true/\((lw:Int)==(M:Int))=q))
  (CC:Hid (∀v,Ab w v->Calls prog 7 #[gp] v fun e w'=>e=.returned (.int .i64 (M:Nat))/\Below v.heap.size v w')):
  Calls prog 149 #[gp,.agg #[.slice pb lb cb,.slice pw lw cw,.slice pt lt ct,.slice ps ls cs,.int .i64 sky,.int .i64 st]] w fun e w'=>e=.returned (.bool q)/\Below w.heap.size w w':=by
 obtain⟨A0,RO⟩:=aL w (.cells #[.slice pb lb cb,.slice pw lw cw,.slice pt lt ct,.slice ps ls cs,.int .i64 sky,.int .i64 st] 48)
 go_enter func149,ntmps149
 go_upto_region 1 with fail
 generalize hW:World.alloc w _=W at*
 obtain⟨gs,hgs⟩:=aB w.heap.size
 rw[hgs]at RO ⊢
 clear hgs hW
 rcases hq with⟨q1,rfl⟩ | ⟨q1,q2⟩
 ·obtain⟨UU,E,hF1,hF2⟩:=cls W
  have HU:=hid hF2
  have HU1:=hid hF1
  have HX:Hid (∀u,Ab w (E u)):=fun u=>Ab.trans A0.out (hF1 u)
  have x0: ∀u,(E u).cell? ⟨gs,0,none⟩=some (.slice pb lb cb):=fun u=>aA 0 ((hF1 u).heap RO.out)
  have x1: ∀u,(E u).cell? ⟨gs,1,none⟩=some (.slice pw lw cw):=fun u=>aA 1 ((hF1 u).heap RO.out)
  have DD0:=HU.out _ (Ab.refl W).drew
  clear hF1 hF2
  refine aM E (by kernel_rfl) (by kernel_rfl) DD0 ?_
  repeat(go_big_quiet_step (first
   | (with_reducible rfl)
   | (go_at_call 7;exact aH HU HU1 (CC.out _ (HX.out _)))))
  refine wpQuiet_nil ?_
  intro z hwz
  obtain⟨u0,hu⟩:=hwz
  have AZ:Hid (Ab w z):=by rw[hu];exact HX.out u0
  clear hu u0
  clear HU HU1 HX DD0 x0 x1
  clear E UU
  go_wp2
  go_ret
  exact⟨rfl,AZ.out⟩
 ·obtain⟨UU,E,hF1,hF2⟩:=cls W
  have HU:=hid hF2
  have HU1:=hid hF1
  have HX:Hid (∀u,Ab w (E u)):=fun u=>Ab.trans A0.out (hF1 u)
  have x0: ∀u,(E u).cell? ⟨gs,0,none⟩=some (.slice pb lb cb):=fun u=>aA 0 ((hF1 u).heap RO.out)
  have x1: ∀u,(E u).cell? ⟨gs,1,none⟩=some (.slice pw lw cw):=fun u=>aA 1 ((hF1 u).heap RO.out)
  have DD0:=HU.out _ (Ab.refl W).drew
  clear hF1 hF2
  refine aM E (by kernel_rfl) (by kernel_rfl) DD0 ?_
  repeat(go_big_quiet_step (first
   | (with_reducible rfl)
   | (go_at_call 7;exact aH HU HU1 (CC.out _ (HX.out _)))))
  refine wpQuiet_nil ?_
  intro z hwz
  obtain⟨u0,hu⟩:=hwz
  have AZ:Hid (Ab w z):=by rw[hu];exact HX.out u0
  clear hu u0
  clear HU HU1 HX DD0 x0 x1
  clear E UU
  go_wp2
  go_ret
  exact⟨rfl,AZ.out⟩
theorem sO(gp:Value)(bb bo wb wo M cb cw:Nat)(pt ps:Option Addr)(lt ct ls cs:Nat)(sky st:Int)(c:Nat)(wC aC:Int)(h:Nat)(w:World)(hc:((c:Nat):Int)<M)
  (FW:Hid (∀v,Ab w v->v.cell? ⟨wb,wo+c,none⟩=some (.int .i64 wC)))
  (AC:Hid (∀v,Ab w v->Calls prog 17 #[gp,.int .i64 (c:Nat)] v fun e w'=>e=.returned (.int .i64 aC)/\Below v.heap.size v w'))
  (DC:Hid (∀v:World,Calls prog 134 #[.int .i64 wC,.int .i64 aC] v fun e w'=>e=.returned (.float .f64 h)/\Below v.heap.size v w')):
  Calls prog 173 #[gp,.agg #[.slice (some ⟨bb,bo,none⟩) M cb,.slice (some ⟨wb,wo,none⟩) M cw,.slice pt lt ct,.slice ps ls cs,.int .i64 sky,.int .i64 st],.int .i64 (c:Nat)] w fun e w'=>e=.returned (.float .f64 h)/\Below w.heap.size w w':=by
 obtain⟨A0,RO⟩:=aL w (.cells #[.slice (some ⟨bb,bo,none⟩) M cb,.slice (some ⟨wb,wo,none⟩) M cw,.slice pt lt ct,.slice ps ls cs,.int .i64 sky,.int .i64 st] 48)
 go_enter func173,ntmps173
 go_upto_region 1 with fail
 generalize hW:World.alloc w _=W at*
 obtain⟨gs,hgs⟩:=aB w.heap.size
 rw[hgs]at RO ⊢
 clear hgs hW
 obtain⟨UU,E,hF1,hF2⟩:=cls W
 have HU:=hid hF2
 have HU1:=hid hF1
 have HX:Hid (∀u,Ab w (E u)):=fun u=>Ab.trans A0.out (hF1 u)
 have x1: ∀u,(E u).cell? ⟨gs,1,none⟩=some (.slice (some ⟨wb,wo,none⟩) M cw):=fun u=>aA 1 ((hF1 u).heap RO.out)
 have xw: ∀u,(E u).cell? ⟨wb,wo+c,none⟩=some (.int .i64 wC):=fun u=>FW.out _ (HX.out u)
 have DD0:=HU.out _ (Ab.refl W).drew
 clear hF1 hF2
 refine aM E (by kernel_rfl) (by kernel_rfl) DD0 ?_
 repeat(go_big_quiet_step (first
  | (with_reducible rfl)
  | (go_at_call 17;exact aH HU HU1 (AC.out _ (HX.out _)))
  | (go_at_call 134;exact aH HU HU1 (DC.out _))))
 refine wpQuiet_nil ?_
 intro z hwz
 obtain⟨u0,hu⟩:=hwz
 have AZ:Hid (Ab w z):=by rw[hu];exact HX.out u0
 clear hu u0
 clear HU HU1 HX DD0 x1 xw
 clear E UU
 go_wp2
 go_ret
 exact⟨rfl,AZ.out⟩
theorem wo12_no(gp:Value)(e:Int)(u:Nat)(w:World)
  (CE:Hid (∀v,Ab w v->Calls prog 10 #[gp,.int .i64 e] v fun e w'=>e=.returned (.tuple #[.agg #[.int .i64 0,.int .i64 0,.int .i64 0,.int .i64 0],.bool false])/\Below v.heap.size v w')):
  Calls prog 150 #[gp,.int .i64 e,.float .f64 u] w fun e w'=>e=.returned (.tuple #[.agg #[.int .i64 0,.int .i64 0,.int .i64 0],.bool false])/\Below w.heap.size w w':=by
 obtain⟨A0,R0⟩:=aL w (.cells #[.int .i64 0,.int .i64 0,.int .i64 0] 197)
 go_enter func150,ntmps150
 go_wp2_with fail
 refine(CE.out _ A0.out).mono ?_
 rintro e9 v1 ⟨rfl,b1⟩
 have A1:Hid (Ab w (v1.alloc (.cells #[.int .i64 0,.int .i64 0,.int .i64 0,.int .i64 0] 30))):=(A0.out.call b1).alloc _
 have R1:Hid ((v1.alloc (.cells #[.int .i64 0,.int .i64 0,.int .i64 0,.int .i64 0] 30)).heap[w.heap.size]? =some (.cells #[.int .i64 0,.int .i64 0,.int .i64 0] 197)):=Ab.heap (bl1 _ _) (Ab.heap b1 R0.out)
 have ER1:=hid (heap_alloc_new v1 (.cells #[.int .i64 0,.int .i64 0,.int .i64 0,.int .i64 0] 30))
 clear b1 A0 R0
 obtain⟨⟨o0,o1,o2⟩,o3,o4,o5⟩:=rowfacts R1.out
 go_wp2
 refine bodyPost_ret ?_ rfl ⟨rfl,?_⟩
 ·exact dE results150 _ _ w.heap.size _ _ (0,0) _ _ rfl rfl (lF R1.out) underlying197 rfl (by kernel_rfl)
 ·exact((A1.out.setk (Nat.le_refl _) _).setk (Nat.le_refl _) _).setk (Nat.le_refl _) _
theorem wo12_pos(gp:Value)(e:Int)(u:Nat)(L S R Q p q:Nat)(w:World)(hu1:fgt u 0=true)
  (CE:Hid (∀v,Ab w v->Calls prog 10 #[gp,.int .i64 e] v fun e w'=>e=.returned (.tuple #[.agg #[.int .i64 (L:Nat),.int .i64 (S:Nat),.int .i64 (R:Nat),.int .i64 (Q:Nat)],.bool true])/\Below v.heap.size v w'))
  (CB:Hid (∀v,Ab w v->Calls prog 172 #[gp,.int .i64 e] v fun e w'=>e=.returned (.tuple #[.int .i64 (p:Nat),.int .i64 (q:Nat),.bool true])/\Below v.heap.size v w')):
  Calls prog 150 #[gp,.int .i64 e,.float .f64 u] w fun e w'=>e=.returned (.tuple #[.agg #[.int .i64 (L:Nat),.int .i64 (R:Nat),.int .i64 (p:Nat)],.bool true])/\Below w.heap.size w w':=by
 obtain⟨A0,R0⟩:=aL w (.cells #[.int .i64 0,.int .i64 0,.int .i64 0] 197)
 go_enter func150,ntmps150
 go_wp2_with fail
 refine(CE.out _ A0.out).mono ?_
 rintro e9 v1 ⟨rfl,b1⟩
 have A1:Hid (Ab w (v1.alloc (.cells #[.int .i64 (L:Nat),.int .i64 (S:Nat),.int .i64 (R:Nat),.int .i64 (Q:Nat)] 30))):=(A0.out.call b1).alloc _
 have R1:Hid ((v1.alloc (.cells #[.int .i64 (L:Nat),.int .i64 (S:Nat),.int .i64 (R:Nat),.int .i64 (Q:Nat)] 30)).heap[w.heap.size]? =some (.cells #[.int .i64 0,.int .i64 0,.int .i64 0] 197)):=Ab.heap (bl1 _ _) (Ab.heap b1 R0.out)
 have ER1:=hid (heap_alloc_new v1 (.cells #[.int .i64 (L:Nat),.int .i64 (S:Nat),.int .i64 (R:Nat),.int .i64 (Q:Nat)] 30))
 clear b1 A0 R0
 go_wp2_with fail
 refine(CB.out _ A1.out).mono ?_
 rintro e9 v2 ⟨rfl,b2⟩
 obtain⟨ge,hge⟩:=aB v1.heap.size
 have A2:Hid (Ab w v2):=A1.out.call b2
 have R2:Hid (v2.heap[w.heap.size]? =some (.cells #[.int .i64 0,.int .i64 0,.int .i64 0] 197)):=Ab.heap b2 R1.out
 have ER2:Hid (v2.heap[ge]? =some (.cells #[.int .i64 (L:Nat),.int .i64 (S:Nat),.int .i64 (R:Nat),.int .i64 (Q:Nat)] 30)):=by rw[<- hge];exact Ab.heap b2 ER1.out
 clear b2 A1 R1 ER1
 rw[hge]
 clear hge
 obtain⟨⟨o0,o1,o2⟩,o3,o4,o5⟩:=rowfacts R2.out
 have e0:=aA 0 ER2.out
 have e2:=aA 2 ER2.out
 go_wp2
 refine bodyPost_ret ?_ rfl ⟨rfl,?_⟩
 ·exact dE results150 _ _ w.heap.size _ _ (0,0) _ _ rfl rfl (lF R2.out) underlying197 rfl (by kernel_rfl)
 ·exact((A2.out.setk (Nat.le_refl _) _).setk (Nat.le_refl _) _).setk (Nat.le_refl _) _
theorem wo12_neg(gp:Value)(e:Int)(u:Nat)(L S R Q p q:Nat)(w:World)(hu1:fgt u 0=false)(hu2:flt u 0=true)
  (CE:Hid (∀v,Ab w v->Calls prog 10 #[gp,.int .i64 e] v fun e w'=>e=.returned (.tuple #[.agg #[.int .i64 (L:Nat),.int .i64 (S:Nat),.int .i64 (R:Nat),.int .i64 (Q:Nat)],.bool true])/\Below v.heap.size v w'))
  (CB:Hid (∀v,Ab w v->Calls prog 172 #[gp,.int .i64 e] v fun e w'=>e=.returned (.tuple #[.int .i64 (p:Nat),.int .i64 (q:Nat),.bool true])/\Below v.heap.size v w')):
  Calls prog 150 #[gp,.int .i64 e,.float .f64 u] w fun e w'=>e=.returned (.tuple #[.agg #[.int .i64 (R:Nat),.int .i64 (L:Nat),.int .i64 (q:Nat)],.bool true])/\Below w.heap.size w w':=by
 obtain⟨A0,R0⟩:=aL w (.cells #[.int .i64 0,.int .i64 0,.int .i64 0] 197)
 go_enter func150,ntmps150
 go_wp2_with fail
 refine(CE.out _ A0.out).mono ?_
 rintro e9 v1 ⟨rfl,b1⟩
 have A1:Hid (Ab w (v1.alloc (.cells #[.int .i64 (L:Nat),.int .i64 (S:Nat),.int .i64 (R:Nat),.int .i64 (Q:Nat)] 30))):=(A0.out.call b1).alloc _
 have R1:Hid ((v1.alloc (.cells #[.int .i64 (L:Nat),.int .i64 (S:Nat),.int .i64 (R:Nat),.int .i64 (Q:Nat)] 30)).heap[w.heap.size]? =some (.cells #[.int .i64 0,.int .i64 0,.int .i64 0] 197)):=Ab.heap (bl1 _ _) (Ab.heap b1 R0.out)
 have ER1:=hid (heap_alloc_new v1 (.cells #[.int .i64 (L:Nat),.int .i64 (S:Nat),.int .i64 (R:Nat),.int .i64 (Q:Nat)] 30))
 clear b1 A0 R0
 go_wp2_with fail
 refine(CB.out _ A1.out).mono ?_
 rintro e9 v2 ⟨rfl,b2⟩
 obtain⟨ge,hge⟩:=aB v1.heap.size
 have A2:Hid (Ab w v2):=A1.out.call b2
 have R2:Hid (v2.heap[w.heap.size]? =some (.cells #[.int .i64 0,.int .i64 0,.int .i64 0] 197)):=Ab.heap b2 R1.out
 have ER2:Hid (v2.heap[ge]? =some (.cells #[.int .i64 (L:Nat),.int .i64 (S:Nat),.int .i64 (R:Nat),.int .i64 (Q:Nat)] 30)):=by rw[<- hge];exact Ab.heap b2 ER1.out
 clear b2 A1 R1 ER1
 rw[hge]
 clear hge
 obtain⟨⟨o0,o1,o2⟩,o3,o4,o5⟩:=rowfacts R2.out
 have e0:=aA 0 ER2.out
 have e2:=aA 2 ER2.out
 go_wp2
 refine bodyPost_ret ?_ rfl ⟨rfl,?_⟩
 ·exact dE results150 _ _ w.heap.size _ _ (0,0) _ _ rfl rfl (lF R2.out) underlying197 rfl (by kernel_rfl)
 ·exact((A2.out.setk (Nat.le_refl _) _).setk (Nat.le_refl _) _).setk (Nat.le_refl _) _
theorem BD(gp:Value)(e:Int)(u:Nat)(L S R Q p q:Nat)(w:World)(hu1:fgt u 0=false)(hu2:flt u 0=false)
  (CE:Hid (∀v,Ab w v->Calls prog 10 #[gp,.int .i64 e] v fun e w'=>e=.returned (.tuple #[.agg #[.int .i64 (L:Nat),.int .i64 (S:Nat),.int .i64 (R:Nat),.int .i64 (Q:Nat)],.bool true])/\Below v.heap.size v w'))
  (CB:Hid (∀v,Ab w v->Calls prog 172 #[gp,.int .i64 e] v fun e w'=>e=.returned (.tuple #[.int .i64 (p:Nat),.int .i64 (q:Nat),.bool true])/\Below v.heap.size v w')):
  Calls prog 150 #[gp,.int .i64 e,.float .f64 u] w fun e w'=>e=.returned (.tuple #[.agg #[.int .i64 0,.int .i64 0,.int .i64 0],.bool false])/\Below w.heap.size w w':=by
 obtain⟨A0,R0⟩:=aL w (.cells #[.int .i64 0,.int .i64 0,.int .i64 0] 197)
 go_enter func150,ntmps150
 go_wp2_with fail
 refine(CE.out _ A0.out).mono ?_
 rintro e9 v1 ⟨rfl,b1⟩
 have A1:Hid (Ab w (v1.alloc (.cells #[.int .i64 (L:Nat),.int .i64 (S:Nat),.int .i64 (R:Nat),.int .i64 (Q:Nat)] 30))):=(A0.out.call b1).alloc _
 have R1:Hid ((v1.alloc (.cells #[.int .i64 (L:Nat),.int .i64 (S:Nat),.int .i64 (R:Nat),.int .i64 (Q:Nat)] 30)).heap[w.heap.size]? =some (.cells #[.int .i64 0,.int .i64 0,.int .i64 0] 197)):=Ab.heap (bl1 _ _) (Ab.heap b1 R0.out)
 have ER1:=hid (heap_alloc_new v1 (.cells #[.int .i64 (L:Nat),.int .i64 (S:Nat),.int .i64 (R:Nat),.int .i64 (Q:Nat)] 30))
 clear b1 A0 R0
 go_wp2_with fail
 refine(CB.out _ A1.out).mono ?_
 rintro e9 v2 ⟨rfl,b2⟩
 obtain⟨ge,hge⟩:=aB v1.heap.size
 have A2:Hid (Ab w v2):=A1.out.call b2
 have R2:Hid (v2.heap[w.heap.size]? =some (.cells #[.int .i64 0,.int .i64 0,.int .i64 0] 197)):=Ab.heap b2 R1.out
 have ER2:Hid (v2.heap[ge]? =some (.cells #[.int .i64 (L:Nat),.int .i64 (S:Nat),.int .i64 (R:Nat),.int .i64 (Q:Nat)] 30)):=by rw[<- hge];exact Ab.heap b2 ER1.out
 clear b2 A1 R1 ER1
 rw[hge]
 clear hge
 obtain⟨⟨o0,o1,o2⟩,o3,o4,o5⟩:=rowfacts R2.out
 have e0:=aA 0 ER2.out
 have e2:=aA 2 ER2.out
 go_wp2
 refine bodyPost_ret ?_ rfl ⟨rfl,?_⟩
 ·exact dE results150 _ _ w.heap.size _ _ (0,0) _ _ rfl rfl (lF R2.out) underlying197 rfl (by kernel_rfl)
 ·exact((A2.out.setk (Nat.le_refl _) _).setk (Nat.le_refl _) _).setk (Nat.le_refl _) _
theorem zK(gp:Value)(bb bo wb wo M cb cw:Nat)(pt ps:Option Addr)(lt ct ls cs:Nat)(sky st:Int)(k:Int)(U D K:Nat)(h hk hd x y s f vv:Nat)(w:World)
  (DU:Hid (∀v,Ab w v->Calls prog 173 #[gp,.agg #[.slice (some ⟨bb,bo,none⟩) M cb,.slice (some ⟨wb,wo,none⟩) M cw,.slice pt lt ct,.slice ps ls cs,.int .i64 sky,.int .i64 st],.int .i64 (U:Nat)] v fun e w'=>e=.returned (.float .f64 h)/\Below v.heap.size v w'))
  (DK:Hid (∀v,Ab w v->Calls prog 173 #[gp,.agg #[.slice (some ⟨bb,bo,none⟩) M cb,.slice (some ⟨wb,wo,none⟩) M cw,.slice pt lt ct,.slice ps ls cs,.int .i64 sky,.int .i64 st],.int .i64 (K:Nat)] v fun e w'=>e=.returned (.float .f64 hk)/\Below v.heap.size v w'))
  (DD:Hid (∀v,Ab w v->Calls prog 173 #[gp,.agg #[.slice (some ⟨bb,bo,none⟩) M cb,.slice (some ⟨wb,wo,none⟩) M cw,.slice pt lt ct,.slice ps ls cs,.int .i64 sky,.int .i64 st],.int .i64 (D:Nat)] v fun e w'=>e=.returned (.float .f64 hd)/\Below v.heap.size v w'))
  (CS:Hid (∀v:World,Calls prog 174 #[.int .i64 k,.float .f64 x,.float .f64 y] v fun e w'=>e=.returned (.float .f64 s)/\Below v.heap.size v w'))
  (hx: ∀(t:TypeId) (w:World),(binOp .sub t (.float .f64 h) (.float .f64 hk)).run prog w=.ok (.float .f64 x) w)
  (hy: ∀(t:TypeId) (w:World),(binOp .sub t (.float .f64 hd) (.float .f64 h)).run prog w=.ok (.float .f64 y) w)
  (hm: ∀(t:TypeId) (w:World),(binOp .mul t (.float .f64 4602678819172646912) (.float .f64 s)).run prog w=.ok (.float .f64 f) w)
  (hv: ∀(t:TypeId) (w:World),(binOp .add t (.float .f64 h) (.float .f64 f)).run prog w=.ok (.float .f64 vv) w):
  Calls prog 152 #[.agg #[.int .i64 (U:Nat),.int .i64 (D:Nat),.int .i64 (K:Nat)],gp,.int .i64 k,.agg #[.slice (some ⟨bb,bo,none⟩) M cb,.slice (some ⟨wb,wo,none⟩) M cw,.slice pt lt ct,.slice ps ls cs,.int .i64 sky,.int .i64 st]] w fun e w'=>e=.returned (.float .f64 vv)/\Below w.heap.size w w':=by
 obtain⟨A0,RW0,RS0⟩:=cA w (.cells #[.int .i64 (U:Nat),.int .i64 (D:Nat),.int .i64 (K:Nat)] 197) (.cells #[.slice (some ⟨bb,bo,none⟩) M cb,.slice (some ⟨wb,wo,none⟩) M cw,.slice pt lt ct,.slice ps ls cs,.int .i64 sky,.int .i64 st] 48)
 go_enter func152,ntmps152
 have AV:Hid (Ab ((w.alloc (.cells #[.int .i64 (U:Nat),.int .i64 (D:Nat),.int .i64 (K:Nat)] 197)).alloc (.cells #[.slice (some ⟨bb,bo,none⟩) M cb,.slice (some ⟨wb,wo,none⟩) M cw,.slice pt lt ct,.slice ps ls cs,.int .i64 sky,.int .i64 st] 48)) ((w.alloc (.cells #[.int .i64 (U:Nat),.int .i64 (D:Nat),.int .i64 (K:Nat)] 197)).alloc (.cells #[.slice (some ⟨bb,bo,none⟩) M cb,.slice (some ⟨wb,wo,none⟩) M cw,.slice pt lt ct,.slice ps ls cs,.int .i64 sky,.int .i64 st] 48))):=Ab.refl _
 have s0:=aG (AV.out.heap RS0.out)
 have y0:=aA 0 (AV.out.heap RW0.out)
 have y1:=aA 1 (AV.out.heap RW0.out)
 have y2:=aA 2 (AV.out.heap RW0.out)
 go_wp2_with fail
 generalize hW:World.alloc (World.alloc w _) _=W at*
 obtain⟨g0,hg0⟩:=aB w.heap.size
 obtain⟨g1,hg1⟩:=aB (w.heap.size+1)
 rw[hg0]at RW0
 rw[hg1]at RS0
 clear s0 y0 y1 y2
 clear hW
 refine(DU.out _ (A0.out.trans AV.out)).mono ?_
 rintro e9 v1 ⟨rfl,b1⟩
 have AV2:Hid (Ab W v1):=AV.out.call b1
 clear b1 AV
 have AV:=AV2
 clear AV2
 rw[hg1,hg0]
 clear hg0 hg1
 have s0:=aG (AV.out.heap RS0.out)
 have y0:=aA 0 (AV.out.heap RW0.out)
 have y1:=aA 1 (AV.out.heap RW0.out)
 have y2:=aA 2 (AV.out.heap RW0.out)
 go_wp2_with fail
 clear s0 y0 y1 y2
 refine(DK.out _ (A0.out.trans AV.out)).mono ?_
 rintro e9 v2 ⟨rfl,b1⟩
 have AV2:Hid (Ab W v2):=AV.out.call b1
 clear b1 AV
 have AV:=AV2
 clear AV2
 have s0:=aG (AV.out.heap RS0.out)
 have y0:=aA 0 (AV.out.heap RW0.out)
 have y1:=aA 1 (AV.out.heap RW0.out)
 have y2:=aA 2 (AV.out.heap RW0.out)
 go_wp2_with fail
 clear s0 y0 y1 y2
 refine(DD.out _ (A0.out.trans AV.out)).mono ?_
 rintro e9 v3 ⟨rfl,b1⟩
 have AV2:Hid (Ab W v3):=AV.out.call b1
 clear b1 AV
 have AV:=AV2
 clear AV2
 go_wp2_with fail
 refine(CS.out _).mono ?_
 rintro e9 v4 ⟨rfl,b1⟩
 have AV2:Hid (Ab W v4):=AV.out.call b1
 clear b1
 go_wp2
 go_ret
 exact⟨rfl,A0.out.trans AV2.out⟩
end
section
open Go.RowKit Tf Cu
attribute [local go_sem] aJ aK aN aO aP aQ aV aD
theorem sP(gp:Value)(bb bo wb wo M cb cw:Nat)(pt ps:Option Addr)(lt ct ls cs:Nat)(sky st:Int)(U D K:Nat)(wU aU:Int)(bU bD l m:Nat)(w:World)(hU:((U:Nat):Int)<M)(hD:((D:Nat):Int)<M)
  (FW:Hid (∀v,Ab w v->v.cell? ⟨wb,wo+U,none⟩=some (.int .i64 wU)/\v.cell? ⟨bb,bo+U,none⟩=some (.float .f64 bU)/\v.cell? ⟨bb,bo+D,none⟩=some (.float .f64 bD)))
  (AU:Hid (∀v,Ab w v->Calls prog 17 #[gp,.int .i64 (U:Nat)] v fun e w'=>e=.returned (.int .i64 aU)/\Below v.heap.size v w'))
  (CL:Hid (∀v:World,Calls prog 175 #[.float .f64 bU,.int .i64 wU,.int .i64 aU] v fun e w'=>e=.returned (.float .f64 l)/\Below v.heap.size v w'))
  (CM:Hid (∀v:World,Calls prog 176 #[.float .f64 bU,.float .f64 bD] v fun e w'=>e=.returned (.float .f64 m)/\Below v.heap.size v w'))
  (g:Nat)
  (hg: ∀(t:TypeId) (w:World),(binOp .sub t (.float .f64 l) (.float .f64 m)).run prog w=.ok (.float .f64 g) w):
  Calls prog 153 #[.agg #[.int .i64 (U:Nat),.int .i64 (D:Nat),.int .i64 (K:Nat)],gp,.agg #[.slice (some ⟨bb,bo,none⟩) M cb,.slice (some ⟨wb,wo,none⟩) M cw,.slice pt lt ct,.slice ps ls cs,.int .i64 sky,.int .i64 st]] w fun e w'=>e=.returned (.float .f64 g)/\Below w.heap.size w w':=by
 obtain⟨A0,RW0,RS0⟩:=cA w (.cells #[.int .i64 (U:Nat),.int .i64 (D:Nat),.int .i64 (K:Nat)] 197) (.cells #[.slice (some ⟨bb,bo,none⟩) M cb,.slice (some ⟨wb,wo,none⟩) M cw,.slice pt lt ct,.slice ps ls cs,.int .i64 sky,.int .i64 st] 48)
 have AV:Hid (Ab ((w.alloc (.cells #[.int .i64 (U:Nat),.int .i64 (D:Nat),.int .i64 (K:Nat)] 197)).alloc (.cells #[.slice (some ⟨bb,bo,none⟩) M cb,.slice (some ⟨wb,wo,none⟩) M cw,.slice pt lt ct,.slice ps ls cs,.int .i64 sky,.int .i64 st] 48)) ((w.alloc (.cells #[.int .i64 (U:Nat),.int .i64 (D:Nat),.int .i64 (K:Nat)] 197)).alloc (.cells #[.slice (some ⟨bb,bo,none⟩) M cb,.slice (some ⟨wb,wo,none⟩) M cw,.slice pt lt ct,.slice ps ls cs,.int .i64 sky,.int .i64 st] 48))):=Ab.refl _
 have bb1:=(FW.out _ A0.out).2.1
 go_enter func153,ntmps153
 have s0:=aA 0 RS0.out
 have y0:=aA 0 RW0.out
 go_upto_region 2 with fail
 clear s0 y0 bb1
 generalize hW:World.alloc (World.alloc w _) _=W at*
 obtain⟨g0,hg0⟩:=aB w.heap.size
 obtain⟨g1,hg1⟩:=aB (w.heap.size+1)
 rw[hg0]at RW0
 rw[hg1]at RS0
 rw[hg1,hg0]
 clear hg0 hg1 hW AV
 obtain⟨UU,E,hF1,hF2⟩:=cls W
 have HU:=hid hF2
 have HU1:=hid hF1
 have HX:Hid (∀u,Ab w (E u)):=fun u=>Ab.trans A0.out (hF1 u)
 have s0: ∀u,(E u).cell? ⟨g1,0,none⟩=some (.slice (some ⟨bb,bo,none⟩) M cb):=fun u=>aA 0 ((hF1 u).heap RS0.out)
 have s1: ∀u,(E u).cell? ⟨g1,1,none⟩=some (.slice (some ⟨wb,wo,none⟩) M cw):=fun u=>aA 1 ((hF1 u).heap RS0.out)
 have y0: ∀u,(E u).cell? ⟨g0,0,none⟩=some (.int .i64 (U:Nat)):=fun u=>aA 0 ((hF1 u).heap RW0.out)
 have y1: ∀u,(E u).cell? ⟨g0,1,none⟩=some (.int .i64 (D:Nat)):=fun u=>aA 1 ((hF1 u).heap RW0.out)
 have xw: ∀u,(E u).cell? ⟨wb,wo+U,none⟩=some (.int .i64 wU):=fun u=>(FW.out _ (HX.out u)).1
 have xd: ∀u,(E u).cell? ⟨bb,bo+D,none⟩=some (.float .f64 bD):=fun u=>(FW.out _ (HX.out u)).2.2
 have DD0:=HU.out _ (Ab.refl W).drew
 clear hF1 hF2
 refine aM E (by kernel_rfl) (by kernel_rfl) DD0 ?_
 repeat(go_big_quiet_step (first
  | (with_reducible rfl)
  | (go_at_call 17;exact aH HU HU1 (AU.out _ (HX.out _)))
  | (go_at_call 175;exact aH HU HU1 (CL.out _))
  | (go_at_call 176;exact aH HU HU1 (CM.out _))))
 refine wpQuiet_nil ?_
 intro z hwz
 obtain⟨u0,hu⟩:=hwz
 have AZ:Hid (Ab w z):=by rw[hu];exact HX.out u0
 clear hu u0
 clear HU HU1 HX DD0 s0 s1 y0 y1 xw xd
 clear E UU
 go_wp2
 go_ret
 exact⟨rfl,AZ.out⟩
theorem sQ(gp:Value)(bb bo wb wo M cb cw:Nat)(pt ps:Option Addr)(lt ct ls cs:Nat)(sky st:Int)(U D K:Nat)(wU aU:Int)(bU bD l m:Nat)(w:World)(hU:((U:Nat):Int)<M)(hD:((D:Nat):Int)<M)
  (FW:Hid (∀v,Ab w v->v.cell? ⟨wb,wo+U,none⟩=some (.int .i64 wU)/\v.cell? ⟨bb,bo+U,none⟩=some (.float .f64 bU)/\v.cell? ⟨bb,bo+D,none⟩=some (.float .f64 bD)))
  (AU:Hid (∀v,Ab w v->Calls prog 17 #[gp,.int .i64 (U:Nat)] v fun e w'=>e=.returned (.int .i64 aU)/\Below v.heap.size v w'))
  (CL:Hid (∀v:World,Calls prog 175 #[.float .f64 bU,.int .i64 wU,.int .i64 aU] v fun e w'=>e=.returned (.float .f64 l)/\Below v.heap.size v w'))
  (CM:Hid (∀v:World,Calls prog 176 #[.float .f64 bU,.float .f64 bD] v fun e w'=>e=.returned (.float .f64 m)/\Below v.heap.size v w'))
  (hg: ∀(t:TypeId) (w:World),(binOp .sub t (.float .f64 l) (.float .f64 m)).run prog w=.ok (.float .f64 (nanOf w l m)) (w.drewN 1)):
  Calls prog 153 #[.agg #[.int .i64 (U:Nat),.int .i64 (D:Nat),.int .i64 (K:Nat)],gp,.agg #[.slice (some ⟨bb,bo,none⟩) M cb,.slice (some ⟨wb,wo,none⟩) M cw,.slice pt lt ct,.slice ps ls cs,.int .i64 sky,.int .i64 st]] w fun e w'=> ∃g,e=.returned (.float .f64 g)/\(g<18446744073709551616/\isN g=true)/\Below w.heap.size w w':=by
 obtain⟨A0,RW0,RS0⟩:=cA w (.cells #[.int .i64 (U:Nat),.int .i64 (D:Nat),.int .i64 (K:Nat)] 197) (.cells #[.slice (some ⟨bb,bo,none⟩) M cb,.slice (some ⟨wb,wo,none⟩) M cw,.slice pt lt ct,.slice ps ls cs,.int .i64 sky,.int .i64 st] 48)
 have AV:Hid (Ab ((w.alloc (.cells #[.int .i64 (U:Nat),.int .i64 (D:Nat),.int .i64 (K:Nat)] 197)).alloc (.cells #[.slice (some ⟨bb,bo,none⟩) M cb,.slice (some ⟨wb,wo,none⟩) M cw,.slice pt lt ct,.slice ps ls cs,.int .i64 sky,.int .i64 st] 48)) ((w.alloc (.cells #[.int .i64 (U:Nat),.int .i64 (D:Nat),.int .i64 (K:Nat)] 197)).alloc (.cells #[.slice (some ⟨bb,bo,none⟩) M cb,.slice (some ⟨wb,wo,none⟩) M cw,.slice pt lt ct,.slice ps ls cs,.int .i64 sky,.int .i64 st] 48))):=Ab.refl _
 have bb1:=(FW.out _ A0.out).2.1
 go_enter func153,ntmps153
 have s0:=aA 0 RS0.out
 have y0:=aA 0 RW0.out
 go_upto_region 2 with fail
 clear s0 y0 bb1
 generalize hW:World.alloc (World.alloc w _) _=W at*
 obtain⟨g0,hg0⟩:=aB w.heap.size
 obtain⟨g1,hg1⟩:=aB (w.heap.size+1)
 rw[hg0]at RW0
 rw[hg1]at RS0
 rw[hg1,hg0]
 clear hg0 hg1 hW AV
 obtain⟨UU,E,hF1,hF2⟩:=cls W
 have HU:=hid hF2
 have HU1:=hid hF1
 have HX:Hid (∀u,Ab w (E u)):=fun u=>Ab.trans A0.out (hF1 u)
 have s0: ∀u,(E u).cell? ⟨g1,0,none⟩=some (.slice (some ⟨bb,bo,none⟩) M cb):=fun u=>aA 0 ((hF1 u).heap RS0.out)
 have s1: ∀u,(E u).cell? ⟨g1,1,none⟩=some (.slice (some ⟨wb,wo,none⟩) M cw):=fun u=>aA 1 ((hF1 u).heap RS0.out)
 have y0: ∀u,(E u).cell? ⟨g0,0,none⟩=some (.int .i64 (U:Nat)):=fun u=>aA 0 ((hF1 u).heap RW0.out)
 have y1: ∀u,(E u).cell? ⟨g0,1,none⟩=some (.int .i64 (D:Nat)):=fun u=>aA 1 ((hF1 u).heap RW0.out)
 have xw: ∀u,(E u).cell? ⟨wb,wo+U,none⟩=some (.int .i64 wU):=fun u=>(FW.out _ (HX.out u)).1
 have xd: ∀u,(E u).cell? ⟨bb,bo+D,none⟩=some (.float .f64 bD):=fun u=>(FW.out _ (HX.out u)).2.2
 have DD0:=HU.out _ (Ab.refl W).drew
 clear hF1 hF2
 refine cH 20 E (by kernel_rfl) (by kernel_rfl) (by kernel_rfl) DD0 ?_
 simp only[List.take_succ_cons,List.take_zero,List.drop_succ_cons,List.drop_zero]
 repeat(go_big_quiet_step (first
  | (with_reducible rfl)
  | (go_at_call 17;exact aH HU HU1 (AU.out _ (HX.out _)))
  | (go_at_call 175;exact aH HU HU1 (CL.out _))
  | (go_at_call 176;exact aH HU HU1 (CM.out _))))
 refine wpQuiet_nil ?_
 intro z hwz
 obtain⟨u0,hu⟩:=hwz
 have AZ:Hid (Ab w z):=by rw[hu];exact HX.out u0
 clear hu u0
 clear HU HU1 HX DD0 s0 s1 y0 y1 xw xd
 clear E UU
 go_wp2
 go_ret
 exact⟨_,rfl,⟨fW _ _ _,dS _ _ _⟩,Ab.drewN AZ.out 1⟩
end
section
open Go.RowKit Tf Cu
attribute [local go_sem] aJ aK aN aO aP aQ aV aD
theorem BH(gp:Value)(pb pw pt ps:Option Addr)(lb cb lw cw lt ct ls cs:Nat)(sky st:Int)(k:Int)(e:Int)(u:Nat)(w:World)
  (CF:Hid (∀v,Ab w v->Calls prog 149 #[gp,.agg #[.slice pb lb cb,.slice pw lw cw,.slice pt lt ct,.slice ps ls cs,.int .i64 sky,.int .i64 st]] v fun e w'=>e=.returned (.bool false)/\Below v.heap.size v w')):
  Calls prog 113 #[gp,.int .i64 k,.agg #[.slice pb lb cb,.slice pw lw cw,.slice pt lt ct,.slice ps ls cs,.int .i64 sky,.int .i64 st],.int .i64 e,.float .f64 u] w fun e w'=>e=.returned (.float .f64 0)/\Below w.heap.size w w':=by
 obtain⟨A0,RO⟩:=aL w (.cells #[.slice pb lb cb,.slice pw lw cw,.slice pt lt ct,.slice ps ls cs,.int .i64 sky,.int .i64 st] 48)
 go_enter func113,ntmps113
 have s0:=aG RO.out
 go_wp2_with fail
 clear s0
 refine(CF.out _ A0.out).mono ?_
 rintro e9 v1 ⟨rfl,b1⟩
 have A1:Hid (Ab w v1):=A0.out.call b1
 have RO1:Hid (v1.heap[w.heap.size]? =some (.cells #[.slice pb lb cb,.slice pw lw cw,.slice pt lt ct,.slice ps ls cs,.int .i64 sky,.int .i64 st] 48)):=Ab.heap b1 RO.out
 clear b1 A0 RO
 go_wp2
 go_ret
 exact⟨rfl,A1.out⟩
theorem sS(gp:Value)(pb pw pt ps:Option Addr)(lb cb lw cw lt ct ls cs:Nat)(sky st:Int)(k:Int)(e:Int)(u:Nat)(w:World)
  (CF:Hid (∀v,Ab w v->Calls prog 149 #[gp,.agg #[.slice pb lb cb,.slice pw lw cw,.slice pt lt ct,.slice ps ls cs,.int .i64 sky,.int .i64 st]] v fun e w'=>e=.returned (.bool true)/\Below v.heap.size v w'))
  (CW:Hid (∀v,Ab w v->Calls prog 150 #[gp,.int .i64 e,.float .f64 u] v fun e w'=>e=.returned (.tuple #[.agg #[.int .i64 0,.int .i64 0,.int .i64 0],.bool false])/\Below v.heap.size v w')):
  Calls prog 113 #[gp,.int .i64 k,.agg #[.slice pb lb cb,.slice pw lw cw,.slice pt lt ct,.slice ps ls cs,.int .i64 sky,.int .i64 st],.int .i64 e,.float .f64 u] w fun e w'=>e=.returned (.float .f64 0)/\Below w.heap.size w w':=by
 obtain⟨A0,RO⟩:=aL w (.cells #[.slice pb lb cb,.slice pw lw cw,.slice pt lt ct,.slice ps ls cs,.int .i64 sky,.int .i64 st] 48)
 go_enter func113,ntmps113
 have s0:=aG RO.out
 go_wp2_with fail
 clear s0
 refine(CF.out _ A0.out).mono ?_
 rintro e9 v1 ⟨rfl,b1⟩
 have A1:Hid (Ab w v1):=A0.out.call b1
 have RO1:Hid (v1.heap[w.heap.size]? =some (.cells #[.slice pb lb cb,.slice pw lw cw,.slice pt lt ct,.slice ps ls cs,.int .i64 sky,.int .i64 st] 48)):=Ab.heap b1 RO.out
 clear b1 A0 RO
 go_wp2_with fail
 refine(CW.out _ A1.out).mono ?_
 rintro e9 v2 ⟨rfl,b2⟩
 have A2:Hid (Ab w (v2.alloc (.cells #[.int .i64 0,.int .i64 0,.int .i64 0] 197))):=(A1.out.call b2).alloc _
 clear b2 A1 RO1
 go_wp2
 go_ret
 exact⟨rfl,A2.out⟩
theorem Fs(gp:Value)(bb bo wb wo M cb cw:Nat)(pt ps:Option Addr)(lt ct ls cs:Nat)(sky st:Int)(k:Int)(e:Int)(u:Nat)(w:World)(U D K vv r:Nat)(c:Bool)
  (CF:Hid (∀v,Ab w v->Calls prog 149 #[gp,.agg #[.slice (some ⟨bb,bo,none⟩) M cb,.slice (some ⟨wb,wo,none⟩) M cw,.slice pt lt ct,.slice ps ls cs,.int .i64 sky,.int .i64 st]] v fun e w'=>e=.returned (.bool true)/\Below v.heap.size v w'))
  (CW:Hid (∀v,Ab w v->Calls prog 150 #[gp,.int .i64 e,.float .f64 u] v fun e w'=>e=.returned (.tuple #[.agg #[.int .i64 (U:Nat),.int .i64 (D:Nat),.int .i64 (K:Nat)],.bool true])/\Below v.heap.size v w'))
  (CO:Hid (∀v,Ab w v->Calls prog 152 #[.agg #[.int .i64 (U:Nat),.int .i64 (D:Nat),.int .i64 (K:Nat)],gp,.int .i64 k,.agg #[.slice (some ⟨bb,bo,none⟩) M cb,.slice (some ⟨wb,wo,none⟩) M cw,.slice pt lt ct,.slice ps ls cs,.int .i64 sky,.int .i64 st]] v fun e w'=>e=.returned (.float .f64 vv)/\Below v.heap.size v w'))
  (g:Nat)
  (CG:Hid (∀v,Ab w v->Calls prog 153 #[.agg #[.int .i64 (U:Nat),.int .i64 (D:Nat),.int .i64 (K:Nat)],gp,.agg #[.slice (some ⟨bb,bo,none⟩) M cb,.slice (some ⟨wb,wo,none⟩) M cw,.slice pt lt ct,.slice ps ls cs,.int .i64 sky,.int .i64 st]] v fun e w'=>e=.returned (.float .f64 g)/\Below v.heap.size v w'))
  (CN:Hid (∀v:World,Calls prog 151 #[.float .f64 vv,.float .f64 g] v fun e w'=>e=.returned (.float .f64 r)/\Below v.heap.size v w'))
  (hr:fgt r 0=c):
  Calls prog 113 #[gp,.int .i64 k,.agg #[.slice (some ⟨bb,bo,none⟩) M cb,.slice (some ⟨wb,wo,none⟩) M cw,.slice pt lt ct,.slice ps ls cs,.int .i64 sky,.int .i64 st],.int .i64 e,.float .f64 u] w fun e w'=>e=.returned (.float .f64 (if c=true then r else 0))/\Below w.heap.size w w':=by
 obtain⟨A0,RO⟩:=aL w (.cells #[.slice (some ⟨bb,bo,none⟩) M cb,.slice (some ⟨wb,wo,none⟩) M cw,.slice pt lt ct,.slice ps ls cs,.int .i64 sky,.int .i64 st] 48)
 go_enter func113,ntmps113
 obtain⟨s0,s1,s2,s3,s4,s5⟩:=aG RO.out
 go_wp2_with fail
 clear s0 s1 s2 s3 s4 s5
 refine(CF.out _ A0.out).mono ?_
 rintro e9 v1 ⟨rfl,b1⟩
 have A1:Hid (Ab w v1):=A0.out.call b1
 have RO1:Hid (v1.heap[w.heap.size]? =some (.cells #[.slice (some ⟨bb,bo,none⟩) M cb,.slice (some ⟨wb,wo,none⟩) M cw,.slice pt lt ct,.slice ps ls cs,.int .i64 sky,.int .i64 st] 48)):=Ab.heap b1 RO.out
 clear b1 A0 RO
 go_wp2_with fail
 refine(CW.out _ A1.out).mono ?_
 rintro e9 v2 ⟨rfl,b2⟩
 have A2:Hid (Ab w (v2.alloc (.cells #[.int .i64 (U:Nat),.int .i64 (D:Nat),.int .i64 (K:Nat)] 197))):=(A1.out.call b2).alloc _
 have RS:Hid ((v2.alloc (.cells #[.int .i64 (U:Nat),.int .i64 (D:Nat),.int .i64 (K:Nat)] 197)).heap[w.heap.size]? =some (.cells #[.slice (some ⟨bb,bo,none⟩) M cb,.slice (some ⟨wb,wo,none⟩) M cw,.slice pt lt ct,.slice ps ls cs,.int .i64 sky,.int .i64 st] 48)):=Ab.heap (bl1 _ _) (Ab.heap b2 RO1.out)
 have RW:=hid (heap_alloc_new v2 (.cells #[.int .i64 (U:Nat),.int .i64 (D:Nat),.int .i64 (K:Nat)] 197))
 clear b2 A1 RO1
 go_upto_region 6 with fail
 generalize hW:World.alloc v2 _=W at*
 obtain⟨gs,hgs⟩:=aB w.heap.size
 obtain⟨ge,hge⟩:=aB v2.heap.size
 rw[hgs]at RS
 rw[hge]at RW
 rw[hge,hgs]
 clear hW hgs hge
 obtain⟨UU,E,hF1,hF2⟩:=cls W
 have HU:=hid hF2
 have HU1:=hid hF1
 have HX:Hid (∀u,Ab w (E u)):=fun u=>Ab.trans A2.out (hF1 u)
 have s0: ∀u,(E u).cell? ⟨gs,0,none⟩=some (.slice (some ⟨bb,bo,none⟩) M cb):=fun u=>aA 0 ((hF1 u).heap RS.out)
 have s1: ∀u,(E u).cell? ⟨gs,1,none⟩=some (.slice (some ⟨wb,wo,none⟩) M cw):=fun u=>aA 1 ((hF1 u).heap RS.out)
 have s2: ∀u,(E u).cell? ⟨gs,2,none⟩=some (.slice pt lt ct):=fun u=>aA 2 ((hF1 u).heap RS.out)
 have s3: ∀u,(E u).cell? ⟨gs,3,none⟩=some (.slice ps ls cs):=fun u=>aA 3 ((hF1 u).heap RS.out)
 have s4: ∀u,(E u).cell? ⟨gs,4,none⟩=some (.int .i64 sky):=fun u=>aA 4 ((hF1 u).heap RS.out)
 have s5: ∀u,(E u).cell? ⟨gs,5,none⟩=some (.int .i64 st):=fun u=>aA 5 ((hF1 u).heap RS.out)
 have y0: ∀u,(E u).cell? ⟨ge,0,none⟩=some (.int .i64 (U:Nat)):=fun u=>aA 0 ((hF1 u).heap RW.out)
 have y1: ∀u,(E u).cell? ⟨ge,1,none⟩=some (.int .i64 (D:Nat)):=fun u=>aA 1 ((hF1 u).heap RW.out)
 have y2: ∀u,(E u).cell? ⟨ge,2,none⟩=some (.int .i64 (K:Nat)):=fun u=>aA 2 ((hF1 u).heap RW.out)
 have DD0:=HU.out _ (Ab.refl W).drew
 clear hF1 hF2
 refine aM E (by kernel_rfl) (by kernel_rfl) DD0 ?_
 repeat(go_big_quiet_step (first
  | (with_reducible rfl)
  | (go_at_call 152;exact aH HU HU1 (CO.out _ (HX.out _)))
  | (go_at_call 153;exact aH HU HU1 (CG.out _ (HX.out _)))
  | (go_at_call 151;exact aH HU HU1 (CN.out _))))
 refine wpQuiet_nil ?_
 intro z hwz
 obtain⟨u0,hu⟩:=hwz
 have AZ:Hid (Ab w z):=by rw[hu];exact HX.out u0
 clear hu u0
 clear HU HU1 HX DD0 s0 s1 s2 s3 s4 s5 y0 y1 y2
 clear E UU
 have AY:Hid (Ab w z):=AZ.out
 clear AZ
 cases c
 ·go_wp2
  go_ret
  exact⟨rfl,AY.out⟩
 ·go_wp2
  go_ret
  exact⟨rfl,AY.out⟩
theorem Ft(gp:Value)(bb bo wb wo M cb cw:Nat)(pt ps:Option Addr)(lt ct ls cs:Nat)(sky st:Int)(k:Int)(e:Int)(u:Nat)(w:World)(U D K vv r:Nat)(c:Bool)
  (CF:Hid (∀v,Ab w v->Calls prog 149 #[gp,.agg #[.slice (some ⟨bb,bo,none⟩) M cb,.slice (some ⟨wb,wo,none⟩) M cw,.slice pt lt ct,.slice ps ls cs,.int .i64 sky,.int .i64 st]] v fun e w'=>e=.returned (.bool true)/\Below v.heap.size v w'))
  (CW:Hid (∀v,Ab w v->Calls prog 150 #[gp,.int .i64 e,.float .f64 u] v fun e w'=>e=.returned (.tuple #[.agg #[.int .i64 (U:Nat),.int .i64 (D:Nat),.int .i64 (K:Nat)],.bool true])/\Below v.heap.size v w'))
  (CO:Hid (∀v,Ab w v->Calls prog 152 #[.agg #[.int .i64 (U:Nat),.int .i64 (D:Nat),.int .i64 (K:Nat)],gp,.int .i64 k,.agg #[.slice (some ⟨bb,bo,none⟩) M cb,.slice (some ⟨wb,wo,none⟩) M cw,.slice pt lt ct,.slice ps ls cs,.int .i64 sky,.int .i64 st]] v fun e w'=>e=.returned (.float .f64 vv)/\Below v.heap.size v w'))
  (CG:Hid (∀v,Ab w v->Calls prog 153 #[.agg #[.int .i64 (U:Nat),.int .i64 (D:Nat),.int .i64 (K:Nat)],gp,.agg #[.slice (some ⟨bb,bo,none⟩) M cb,.slice (some ⟨wb,wo,none⟩) M cw,.slice pt lt ct,.slice ps ls cs,.int .i64 sky,.int .i64 st]] v fun e w'=> ∃g,e=.returned (.float .f64 g)/\(g<18446744073709551616/\isN g=true)/\Below v.heap.size v w'))
  (CN:Hid (∀g,g<18446744073709551616->isN g=true-> ∀v:World,Calls prog 151 #[.float .f64 vv,.float .f64 g] v fun e w'=>e=.returned (.float .f64 r)/\Below v.heap.size v w'))
  (hr:fgt r 0=c):
  Calls prog 113 #[gp,.int .i64 k,.agg #[.slice (some ⟨bb,bo,none⟩) M cb,.slice (some ⟨wb,wo,none⟩) M cw,.slice pt lt ct,.slice ps ls cs,.int .i64 sky,.int .i64 st],.int .i64 e,.float .f64 u] w fun e w'=>e=.returned (.float .f64 (if c=true then r else 0))/\Below w.heap.size w w':=by
 obtain⟨A0,RO⟩:=aL w (.cells #[.slice (some ⟨bb,bo,none⟩) M cb,.slice (some ⟨wb,wo,none⟩) M cw,.slice pt lt ct,.slice ps ls cs,.int .i64 sky,.int .i64 st] 48)
 go_enter func113,ntmps113
 obtain⟨s0,s1,s2,s3,s4,s5⟩:=aG RO.out
 go_wp2_with fail
 clear s0 s1 s2 s3 s4 s5
 refine(CF.out _ A0.out).mono ?_
 rintro e9 v1 ⟨rfl,b1⟩
 have A1:Hid (Ab w v1):=A0.out.call b1
 have RO1:Hid (v1.heap[w.heap.size]? =some (.cells #[.slice (some ⟨bb,bo,none⟩) M cb,.slice (some ⟨wb,wo,none⟩) M cw,.slice pt lt ct,.slice ps ls cs,.int .i64 sky,.int .i64 st] 48)):=Ab.heap b1 RO.out
 clear b1 A0 RO
 go_wp2_with fail
 refine(CW.out _ A1.out).mono ?_
 rintro e9 v2 ⟨rfl,b2⟩
 have A2:Hid (Ab w (v2.alloc (.cells #[.int .i64 (U:Nat),.int .i64 (D:Nat),.int .i64 (K:Nat)] 197))):=(A1.out.call b2).alloc _
 have RS:Hid ((v2.alloc (.cells #[.int .i64 (U:Nat),.int .i64 (D:Nat),.int .i64 (K:Nat)] 197)).heap[w.heap.size]? =some (.cells #[.slice (some ⟨bb,bo,none⟩) M cb,.slice (some ⟨wb,wo,none⟩) M cw,.slice pt lt ct,.slice ps ls cs,.int .i64 sky,.int .i64 st] 48)):=Ab.heap (bl1 _ _) (Ab.heap b2 RO1.out)
 have RW:=hid (heap_alloc_new v2 (.cells #[.int .i64 (U:Nat),.int .i64 (D:Nat),.int .i64 (K:Nat)] 197))
 clear b2 A1 RO1
 go_upto_region 6 with fail
 generalize hW:World.alloc v2 _=W at*
 obtain⟨gs,hgs⟩:=aB w.heap.size
 obtain⟨ge,hge⟩:=aB v2.heap.size
 rw[hgs]at RS
 rw[hge]at RW
 rw[hge,hgs]
 clear hW hgs hge
 obtain⟨UU,E,hF1,hF2⟩:=cls W
 have HU:=hid hF2
 have HU1:=hid hF1
 have HX:Hid (∀u,Ab w (E u)):=fun u=>Ab.trans A2.out (hF1 u)
 have s0: ∀u,(E u).cell? ⟨gs,0,none⟩=some (.slice (some ⟨bb,bo,none⟩) M cb):=fun u=>aA 0 ((hF1 u).heap RS.out)
 have s1: ∀u,(E u).cell? ⟨gs,1,none⟩=some (.slice (some ⟨wb,wo,none⟩) M cw):=fun u=>aA 1 ((hF1 u).heap RS.out)
 have s2: ∀u,(E u).cell? ⟨gs,2,none⟩=some (.slice pt lt ct):=fun u=>aA 2 ((hF1 u).heap RS.out)
 have s3: ∀u,(E u).cell? ⟨gs,3,none⟩=some (.slice ps ls cs):=fun u=>aA 3 ((hF1 u).heap RS.out)
 have s4: ∀u,(E u).cell? ⟨gs,4,none⟩=some (.int .i64 sky):=fun u=>aA 4 ((hF1 u).heap RS.out)
 have s5: ∀u,(E u).cell? ⟨gs,5,none⟩=some (.int .i64 st):=fun u=>aA 5 ((hF1 u).heap RS.out)
 have y0: ∀u,(E u).cell? ⟨ge,0,none⟩=some (.int .i64 (U:Nat)):=fun u=>aA 0 ((hF1 u).heap RW.out)
 have y1: ∀u,(E u).cell? ⟨ge,1,none⟩=some (.int .i64 (D:Nat)):=fun u=>aA 1 ((hF1 u).heap RW.out)
 have y2: ∀u,(E u).cell? ⟨ge,2,none⟩=some (.int .i64 (K:Nat)):=fun u=>aA 2 ((hF1 u).heap RW.out)
 have DD0:=HU.out _ (Ab.refl W).drew
 clear hF1 hF2
 refine cH 8 E (by kernel_rfl) (by kernel_rfl) (by kernel_rfl) DD0 ?_
 simp only[List.take_succ_cons,List.take_zero,List.drop_succ_cons,List.drop_zero]
 repeat(go_big_quiet_step (first
  | (with_reducible rfl)
  | (go_at_call 152;exact aH HU HU1 (CO.out _ (HX.out _)))))
 refine wpQuiet_nil ?_
 intro z hwz
 obtain⟨u0,hu⟩:=hwz
 have AZ:Hid (Ab w z):=by rw[hu];exact HX.out u0
 clear hu u0
 clear HU HU1 HX DD0 s0 s1 s2 s3 s4 s5 y0 y1 y2
 clear E UU
 go_wp2_with fail
 refine(CG.out _ AZ.out).mono ?_
 rintro e9 v3 ⟨g,rfl,hg,b3⟩
 have A3:Hid (Ab w v3):=AZ.out.call b3
 have HG:=hid hg
 clear b3 hg AZ
 go_wp2_with fail
 refine(CN.out g HG.out.1 HG.out.2 _).mono ?_
 rintro e9 v4 ⟨rfl,b4⟩
 have AZ:Hid (Ab w v4):=A3.out.call b4
 clear b4 A3 HG
 have AY:Hid (Ab w v4):=AZ.out
 clear AZ
 cases c
 ·go_wp2
  go_ret
  exact⟨rfl,AY.out⟩
 ·go_wp2
  go_ret
  exact⟨rfl,AY.out⟩
end
section
open Go.RowKit Tf Cu
def DepthC:Prop:= ∀(n gb:Nat) (k:Int) (pb:Option Addr) (lb cb:Nat) (B:Nat->Nat) (pw:Option Addr) (lw cw:Nat) (Wt:Nat->Int) (pt:Option Addr) (lt ct:Nat) (ps:Option Addr) (ls cs:Nat) (sky st e:Int) (u:Nat) (w:World),(1<=n/\n<=32)->GridOf n gb w->IsFl w pb lb B->IsIn w pw lw Wt->u<18446744073709551616->
 Calls prog 113 #[.pointer (some ⟨gb,0,none⟩),.int .i64 k,.agg #[.slice pb lb cb,.slice pw lw cw,.slice pt lt ct,.slice ps ls cs,.int .i64 sky,.int .i64 st],.int .i64 e,.float .f64 u] w fun e' w'=>e'=.returned (.float .f64 (rdAll n k lb lw B Wt e u))/\Below w.heap.size w w'
end
section
open Go.RowKit Tf Cu
theorem DQ{n gb:Nat}(k:Int)(bb bo wb wo cb cw:Nat)(pt ps:Option Addr)(lt ct ls cs:Nat)(sky st:Int){B:Nat->Nat}{Wt:Nat->Int}{U D K:Nat}(e:Int)(u:Nat)(w:World)(hn:1<=n/\n<=32)(cU:U<6*n*n)(cD:D<6*n*n)(cK:K<6*n*n)(g:GridOf n gb w)
  (hB:IsFl w (some ⟨bb,bo,none⟩) (6*n*n) B) (hW:IsIn w (some ⟨wb,wo,none⟩) (6*n*n) Wt)
  (CF:Hid (∀v,Ab w v->Calls prog 149 #[.pointer (some ⟨gb,0,none⟩),.agg #[.slice (some ⟨bb,bo,none⟩) (6*n*n) cb,.slice (some ⟨wb,wo,none⟩) (6*n*n) cw,.slice pt lt ct,.slice ps ls cs,.int .i64 sky,.int .i64 st]] v fun e w'=>e=.returned (.bool true)/\Below v.heap.size v w'))
  (CW:Hid (∀v,Ab w v->Calls prog 150 #[.pointer (some ⟨gb,0,none⟩),.int .i64 e,.float .f64 u] v fun e w'=>e=.returned (.tuple #[.agg #[.int .i64 (U:Nat),.int .i64 (D:Nat),.int .i64 (K:Nat)],.bool true])/\Below v.heap.size v w')):
  Calls prog 113 #[.pointer (some ⟨gb,0,none⟩),.int .i64 k,.agg #[.slice (some ⟨bb,bo,none⟩) (6*n*n) cb,.slice (some ⟨wb,wo,none⟩) (6*n*n) cw,.slice pt lt ct,.slice ps ls cs,.int .i64 sky,.int .i64 st],.int .i64 e,.float .f64 u] w fun e w'=>e=.returned (.float .f64 (ovC k (arC n) B Wt U D K))/\Below w.heap.size w w':=by
 have bU:=hB.at0 cU
 have bD:=hB.at0 cD
 have wU:=hW.at0 cU
 have wD:=hW.at0 cD
 have wK:=hW.at0 cK
 unfold ovC rcR
 have FW: ∀v,Ab w v->v.cell? ⟨wb,wo+U,none⟩=some (.int .i64 (Wt U))/\v.cell? ⟨bb,bo+U,none⟩=some (.float .f64 (B U))/\v.cell? ⟨bb,bo+D,none⟩=some (.float .f64 (B D)):=fun v hv=>
  ⟨(Below.cell hv wU.2.1).trans wU.2.2,(Below.cell hv bU.2.1).trans bU.2.2,(Below.cell hv bD.2.1).trans bD.2.2⟩
 have DU: ∀v,Ab w v->Calls prog 173 #[.pointer (some ⟨gb,0,none⟩),.agg #[.slice (some ⟨bb,bo,none⟩) (6*n*n) cb,.slice (some ⟨wb,wo,none⟩) (6*n*n) cw,.slice pt lt ct,.slice ps ls cs,.int .i64 sky,.int .i64 st],.int .i64 (U:Nat)] v fun e w'=>e=.returned (.float .f64 (dpB (Wt U) (arC n U)))/\Below v.heap.size v w':=(fun v hv=>sO (.pointer (some ⟨gb,0,none⟩)) bb bo wb wo (6*n*n) cb cw pt ps lt ct ls cs sky st U (Wt U) (arC n U) _ v (by omega) (fun z hz=>(Below.cell (hv.trans hz) wU.2.1).trans wU.2.2) (fun z hz=>fX hn cU (g.to (hv.trans hz))) (fun z=>(kG _ _ z wU.1 (cO n _).2).mono fun _ _ h=>⟨h.1,by obtain⟨_,j,rfl⟩:=h;exact below_drewN (Below.refl _ _) j⟩))
 have DK: ∀v,Ab w v->Calls prog 173 #[.pointer (some ⟨gb,0,none⟩),.agg #[.slice (some ⟨bb,bo,none⟩) (6*n*n) cb,.slice (some ⟨wb,wo,none⟩) (6*n*n) cw,.slice pt lt ct,.slice ps ls cs,.int .i64 sky,.int .i64 st],.int .i64 (K:Nat)] v fun e w'=>e=.returned (.float .f64 (dpB (Wt K) (arC n K)))/\Below v.heap.size v w':=(fun v hv=>sO (.pointer (some ⟨gb,0,none⟩)) bb bo wb wo (6*n*n) cb cw pt ps lt ct ls cs sky st K (Wt K) (arC n K) _ v (by omega) (fun z hz=>(Below.cell (hv.trans hz) wK.2.1).trans wK.2.2) (fun z hz=>fX hn cK (g.to (hv.trans hz))) (fun z=>(kG _ _ z wK.1 (cO n _).2).mono fun _ _ h=>⟨h.1,by obtain⟨_,j,rfl⟩:=h;exact below_drewN (Below.refl _ _) j⟩))
 have DD: ∀v,Ab w v->Calls prog 173 #[.pointer (some ⟨gb,0,none⟩),.agg #[.slice (some ⟨bb,bo,none⟩) (6*n*n) cb,.slice (some ⟨wb,wo,none⟩) (6*n*n) cw,.slice pt lt ct,.slice ps ls cs,.int .i64 sky,.int .i64 st],.int .i64 (D:Nat)] v fun e w'=>e=.returned (.float .f64 (dpB (Wt D) (arC n D)))/\Below v.heap.size v w':=(fun v hv=>sO (.pointer (some ⟨gb,0,none⟩)) bb bo wb wo (6*n*n) cb cw pt ps lt ct ls cs sky st D (Wt D) (arC n D) _ v (by omega) (fun z hz=>(Below.cell (hv.trans hz) wD.2.1).trans wD.2.2) (fun z hz=>fX hn cD (g.to (hv.trans hz))) (fun z=>(kG _ _ z wD.1 (cO n _).2).mono fun _ _ h=>⟨h.1,by obtain⟨_,j,rfl⟩:=h;exact below_drewN (Below.refl _ _) j⟩))
 have fU:dpB (Wt U) (arC n U)<9218868437227405312:=by have:=pA wU.1 (cO n U).2;omega
 have fK:dpB (Wt K) (arC n K)<9218868437227405312:=by have:=pA wK.1 (cO n K).2;omega
 have fD:dpB (Wt D) (arC n D)<9218868437227405312:=by have:=pA wD.1 (cO n D).2;omega
 have hx:=rP fU fK
 have hy:=rP fD fU
 have lx:=(vZ (by omega) hx (by omega)).1
 have ly:=(vZ (by omega) hy (by omega)).1
 have sN:=slp_N k (sbB (dpB (Wt U) (arC n U)) (dpB (Wt K) (arC n K))) (sbB (dpB (Wt D) (arC n D)) (dpB (Wt U) (arC n U)))
 have sl:=slp_lt k (sbB (dpB (Wt U) (arC n U)) (dpB (Wt K) (arC n K))) (sbB (dpB (Wt D) (arC n D)) (dpB (Wt U) (arC n U)))
 have hm:=uD sl sN
 have hf:=half_N sl sN
 have hv0:=uE fU hf.2 hf.1
 have vl:=rcV_lt (k:=k) (hb:=dpB (Wt K) (arC n K)) (hd:=dpB (Wt D) (arC n D)) fU
 have ll:=vU (b:=B U) (w:=Wt U) (a:=arC n U) bU.1 wU.1 (cO n _).2
 have ml:=Du (a:=B U) (b:=B D) bU.1 bD.1
 cases hs:Ieee.double.sub (lvl (B U) (Wt U) (arC n U)) (maxB (B U) (B D))with
 | some z=>
  have hc:=vZ ml hs ll
  rw[show rcG (lvl (B U) (Wt U) (arC n U)) (B U) (B D)=sbB (lvl (B U) (Wt U) (arC n U)) (maxB (B U) (B D))from rfl,<- pos0_c vl hc]
  exact Fs (.pointer (some ⟨gb,0,none⟩)) bb bo wb wo (6*n*n) cb cw pt ps lt ct ls cs sky st k e u w U D K _ _ _ CF CW
   (fun v hv=>zK (.pointer (some ⟨gb,0,none⟩)) bb bo wb wo (6*n*n) cb cw pt ps lt ct ls cs sky st k U D K _ _ _ _ _ _ _ _ v (fun z hz=>DU z (hv.trans hz)) (fun z hz=>DK z (hv.trans hz)) (fun z hz=>DD z (hv.trans hz)) (fun z=>yU k _ _ z lx ly) (fun t w=>run_float_arith w .sub t .f64 _ _ _ hx) (fun t w=>run_float_arith w .sub t .f64 _ _ _ hy) (fun t w=>run_float_arith w .mul t .f64 _ _ _ hm) (fun t w=>run_float_arith w .add t .f64 _ _ _ hv0)) z
   (fun v hv=>sP (.pointer (some ⟨gb,0,none⟩)) bb bo wb wo (6*n*n) cb cw pt ps lt ct ls cs sky st U D K (Wt U) (arC n U) (B U) (B D) _ _ v (by omega) (by omega) (fun z hz=>FW z (hv.trans hz)) (fun z hz=>fX hn cU (g.to (hv.trans hz))) (fun z=>(sM _ _ _ z bU.1 wU.1 (cO n _).2).mono fun _ _ h=>⟨h.1,by obtain⟨_,j,rfl⟩:=h;exact below_drewN (Below.refl _ _) j⟩) (fun z=>(Cz _ _ z bU.1 bD.1).mono fun _ _ h=>⟨h.1,by obtain⟨_,rfl⟩:=h;exact Below.refl _ _⟩) z (fun t w=>run_float_arith w .sub t .f64 _ _ _ hs)) (fun v=>(CI _ _ v vl hc.1).mono fun _ _ h=>⟨h.1,by obtain⟨_,rfl⟩:=h;exact Below.refl _ _⟩) rfl
 | none=>
  have hN:isN (rcG (lvl (B U) (Wt U) (arC n U)) (B U) (B D))=true:=by
   unfold rcG sbB
   rw[aX (by rw[<- pS _ _ ml];exact hs)]
   decide
  rw[iY (.inr hN)]
  exact Ft (.pointer (some ⟨gb,0,none⟩)) bb bo wb wo (6*n*n) cb cw pt ps lt ct ls cs sky st k e u w U D K _ _ _ CF CW
   (fun v hv=>zK (.pointer (some ⟨gb,0,none⟩)) bb bo wb wo (6*n*n) cb cw pt ps lt ct ls cs sky st k U D K _ _ _ _ _ _ _ _ v (fun z hz=>DU z (hv.trans hz)) (fun z hz=>DK z (hv.trans hz)) (fun z hz=>DD z (hv.trans hz)) (fun z=>yU k _ _ z lx ly) (fun t w=>run_float_arith w .sub t .f64 _ _ _ hx) (fun t w=>run_float_arith w .sub t .f64 _ _ _ hy) (fun t w=>run_float_arith w .mul t .f64 _ _ _ hm) (fun t w=>run_float_arith w .add t .f64 _ _ _ hv0))
   (fun v hv=>sQ (.pointer (some ⟨gb,0,none⟩)) bb bo wb wo (6*n*n) cb cw pt ps lt ct ls cs sky st U D K (Wt U) (arC n U) (B U) (B D) _ _ v (by omega) (by omega) (fun z hz=>FW z (hv.trans hz)) (fun z hz=>fX hn cU (g.to (hv.trans hz))) (fun z=>(sM _ _ _ z bU.1 wU.1 (cO n _).2).mono fun _ _ h=>⟨h.1,by obtain⟨_,j,rfl⟩:=h;exact below_drewN (Below.refl _ _) j⟩) (fun z=>(Cz _ _ z bU.1 bD.1).mono fun _ _ h=>⟨h.1,by obtain⟨_,rfl⟩:=h;exact Below.refl _ _⟩) (fun t w=>oW w t _ _ hs)) (fun z hz1 hz2 v=>by
    have h:=CI (rcV k (dpB (Wt U) (arC n U)) (dpB (Wt K) (arC n K)) (dpB (Wt D) (arC n D))) z v vl hz1
    rw[iY (.inr hz2)]at h
    exact(h).mono fun _ _ h=>⟨h.1,by obtain⟨_,rfl⟩:=h;exact Below.refl _ _⟩) rfl
theorem depthC:DepthC:=by
 intro n gb k pb lb cb B pw lw cw Wt pt lt ct ps ls cs sky st e u w hn g hB hW hu
 have CC:Hid (∀v,Ab w v->Calls prog 7 #[.pointer (some ⟨gb,0,none⟩)] v fun e w'=>e=.returned (.int .i64 (6*n*n:Nat))/\Below v.heap.size v w'):=fun v hv=>(dT (g.to hv)).mono fun _ _ h=>⟨h.1,by obtain⟨_,rfl⟩:=h;exact Below.refl _ _⟩
 by_cases c:lb=6*n*n/\lw=6*n*n
 ·obtain⟨rfl,rfl⟩:=c
  have CF:Hid (∀v,Ab w v->Calls prog 149 #[.pointer (some ⟨gb,0,none⟩),.agg #[.slice pb (6*n*n) cb,.slice pw (6*n*n) cw,.slice pt lt ct,.slice ps ls cs,.int .i64 sky,.int .i64 st]] v fun e w'=>e=.returned (.bool true)/\Below v.heap.size v w'):=fun v hv=>zJ (.pointer (some ⟨gb,0,none⟩)) pb pw pt ps _ cb _ cw lt ct ls cs sky st (6*n*n) true v (.inr ⟨by simp,by simp⟩) (fun z hz=>CC.out z (hv.trans hz))
  cases h:inR e (12*n*n:Nat)with
  | false=>
   rw[yK (fun q=>by rw[h]at q;exact absurd q.1 (by decide))]
   exact sS (.pointer (some ⟨gb,0,none⟩)) pb pw pt ps _ cb _ cw lt ct ls cs sky st k e u w CF (fun v hv=>wo12_no (.pointer (some ⟨gb,0,none⟩)) e u v (fun z hz=>yC h (g.to (hv.trans hz))))
  | true=>
   obtain⟨E,rfl,hE⟩:=qA h
   obtain⟨t1,t2,t3⟩:=bM hn.1 hE
   rw[<- t3]
   have mtd:=eO hn.1 t1
   have cL:=aW t1
   have cR:bsC n (edT n E/4) (edT n E%4)<6*n*n:=by rw[<- mtd.1];exact aW (cX hn.1 t1)
   have cp:bsC n (edT n E/4) ((edT n E%4+2)%4)<6*n*n:=bk_lt hn.1 t1
   have cq:bsC n (bsC n (edT n E/4) (edT n E%4)) ((bsS n (edT n E/4) (edT n E%4)+2)%4)<6*n*n:=by
    have:=bk_lt hn.1 (cX hn.1 t1)
    unfold bkC at this
    rwa [mtd.1,mtd.2]at this
   obtain⟨bb,bo,rfl⟩:=hB.some0 (Dv hn.1)
   obtain⟨wb,wo,rfl⟩:=hW.some0 (Dv hn.1)
   rw[rdAll_eN hn.1 t1 t2]
   cases p:fgt u 0 with
   | true=>
    have e:sdD n k (arC n) B Wt (edT n E)=ovC k (arC n) B Wt (edT n E/4) (bsC n (edT n E/4) (edT n E%4)) (bsC n (edT n E/4) ((edT n E%4+2)%4)):=by
     unfold sdD
     rw[mtd.1];rfl
    rw[rdT_p p,e]
    exact DQ k bb bo wb wo cb cw pt ps lt ct ls cs sky st _ u w hn cL cR cp g hB hW CF (fun v hv=>wo12_pos (.pointer (some ⟨gb,0,none⟩)) _ u _ _ _ _ _ _ v p (fun z hz=>iV hn t1 t2 (g.to (hv.trans hz))) (fun z hz=>lQ hn t1 t2 (g.to (hv.trans hz))))
   | false=>
    cases q:flt u 0 with
    | true=>
     have e:sdD n k (arC n) B Wt (mt n (edT n E))=ovC k (arC n) B Wt (bsC n (edT n E/4) (edT n E%4)) (edT n E/4) (bsC n (bsC n (edT n E/4) (edT n E%4)) ((bsS n (edT n E/4) (edT n E%4)+2)%4)):=by
      unfold sdD
      rw[gX hn.1 t1,mtd.1];unfold bkC;rw[mtd.1,mtd.2]
     rw[rdT_n p q,e]
     exact DQ k bb bo wb wo cb cw pt ps lt ct ls cs sky st _ u w hn cR cL cq g hB hW CF (fun v hv=>wo12_neg (.pointer (some ⟨gb,0,none⟩)) _ u _ _ _ _ _ _ v p q (fun z hz=>iV hn t1 t2 (g.to (hv.trans hz))) (fun z hz=>lQ hn t1 t2 (g.to (hv.trans hz))))
    | false=>
     rw[rdT_0 p q]
     exact sS (.pointer (some ⟨gb,0,none⟩)) (some ⟨bb,bo,none⟩) (some ⟨wb,wo,none⟩) pt ps _ cb _ cw lt ct ls cs sky st k _ u w CF (fun v hv=>BD (.pointer (some ⟨gb,0,none⟩)) _ u _ _ _ _ _ _ v p q (fun z hz=>iV hn t1 t2 (g.to (hv.trans hz))) (fun z hz=>lQ hn t1 t2 (g.to (hv.trans hz))))
 ·rw[yK (fun q=>c q.2)]
  refine BH (.pointer (some ⟨gb,0,none⟩)) pb pw pt ps lb cb lw cw lt ct ls cs sky st k e u w (fun v hv=>zJ (.pointer (some ⟨gb,0,none⟩)) pb pw pt ps lb cb lw cw lt ct ls cs sky st (6*n*n) false v ?_ (fun z hz=>CC.out z (hv.trans hz)))
  by_cases c1:lb=6*n*n
  ·exact .inr ⟨by rw[c1];simp,by rw[beq_eq_false_iff_ne];omega⟩
  ·exact .inl ⟨by rw[beq_eq_false_iff_ne];omega,rfl⟩
end
section
open Go.RowKit Tf Cu Go.Deep
theorem allC:AllC:=by
 intro n gb sd dt gr dr lim rv pr lr cr pb lb cb B pw lw cw Wt pt lt ct ps ls cs Sp sky st w hn g hB hW hS hdt
 have en:1<=12*n*n/\12*n*n<=12288:=by
  have h:=Nat.mul_le_mul hn.2 hn.2
  have h2:=Nat.mul_le_mul hn.1 hn.1
  rw[Nat.mul_assoc]
  omega
 have CC:Hid (∀v,Ab w v->Calls prog 7 #[.pointer (some ⟨gb,0,none⟩)] v fun e w'=>e=.returned (.int .i64 (6*n*n:Nat))/\Below v.heap.size v w'):=fun v hv=>(dT (g.to hv)).mono fun _ _ h=>⟨h.1,by obtain⟨_,rfl⟩:=h;exact Below.refl _ _⟩
 have CE:Hid (∀v,Ab w v->Calls prog 8 #[.pointer (some ⟨gb,0,none⟩)] v fun e w'=>e=.returned (.int .i64 (12*n*n:Nat))/\w'=v):=fun v hv=>bZ (g.to hv)
 have CEb:Hid (∀v,Ab w v->Calls prog 8 #[.pointer (some ⟨gb,0,none⟩)] v fun e w'=>e=.returned (.int .i64 (12*n*n:Nat))/\Below v.heap.size v w'):=fun v hv=>(bZ (g.to hv)).mono fun _ _ h=>⟨h.1,by obtain⟨_,rfl⟩:=h;exact Below.refl _ _⟩
 refine⟨fun fit=> ?_,fun no=> ?_⟩
 ·obtain⟨rfl,rfl,rfl,rfl⟩:=fit
  obtain⟨sb,so,rfl⟩:=hS.some0 (by omega)
  have CFt:Hid (∀v,Ab w v->Calls prog 112 #[.pointer (some ⟨gb,0,none⟩),.agg #[.slice pb (6*n*n) cb,.slice pw (6*n*n) cw,.slice pt (6*n*n) ct,.slice (some ⟨sb,so,none⟩) (12*n*n) cs,.int .i64 sky,.int .i64 st]] v fun e w'=>e=.returned (.bool true)/\Below v.heap.size v w'):=fun v hv=>uO gb pb pw pt (some ⟨sb,so,none⟩) (6*n*n) cb (6*n*n) cw (6*n*n) ct (12*n*n) cs sky st (6*n*n) (12*n*n) true v (.inr (.inr (.inr ⟨by simp,by simp,by simp,by simp⟩))) (fun u hu=>CC.out u (hv.trans hu)) (fun u hu=>CEb.out u (hv.trans hu))
  exact all13_go gb sd dt gr dr lim rv pr lr cr pb pw pt (6*n*n) cb cw ct sb so cs sky st (12*n*n) Sp (fun i=>rdAll n lim (6*n*n) (6*n*n) B Wt (i:Nat) (Sp i)) (fun i=>lnE n i) (fun i=>flB n lim B Wt Sp dt i) w (by omega) CFt CE
   (fun c hc v hv=>(Below.cell hv (hS.at0 hc).2.1).trans (hS.at0 hc).2.2)
   (fun c hc v hv=>depthC n gb lim pb _ cb B pw _ cw Wt pt _ ct _ _ cs sky st (c:Nat) (Sp c) v hn (g.to hv) (hB.below hv) (hW.below hv) (hS.at0 hc).1)
   (fun c hc v hv=>rM hn hc (g.to hv))
   (fun c hc v=>quantaC _ _ _ _ v (hS.at0 hc).1 (rS hn.1 (fun i hi=>(hB i hi).1) (fun i hi=>(hW i hi).1.2) _ _).1 (yL _ _) hdt)
 ·exact all13_no gb sd dt gr dr lim rv pr lr cr pb pw pt ps lb cb lw cw lt ct ls cs sky st w (fun v hv=>uO gb pb pw pt ps lb cb lw cw lt ct ls cs sky st (6*n*n) (12*n*n) false v (by
   by_cases c1:lb=6*n*n
   ·by_cases c2:lw=6*n*n
    ·by_cases c3:lt=6*n*n
     ·exact .inr (.inr (.inr ⟨by rw[c1];simp,by rw[c2];simp,by rw[c3];simp,by rw[beq_eq_false_iff_ne];exact fun h=>no ⟨c1,c2,c3,by omega⟩⟩))
     ·exact .inr (.inr (.inl ⟨by rw[c1];simp,by rw[c2];simp,by rw[beq_eq_false_iff_ne];omega,rfl⟩))
    ·exact .inr (.inl ⟨by rw[c1];simp,by rw[beq_eq_false_iff_ne];omega,rfl⟩)
   ·exact .inl ⟨by rw[beq_eq_false_iff_ne];omega,rfl⟩) (fun u hu=>CC.out u (hv.trans hu)) (fun u hu=>CEb.out u (hv.trans hu)))
end
end Go.Proofs.YtmhnilnaffjhmaaGreatDoor
