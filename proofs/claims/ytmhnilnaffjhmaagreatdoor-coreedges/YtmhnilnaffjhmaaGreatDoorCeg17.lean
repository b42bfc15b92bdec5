/-
  Some of the texts of this proof, one behind the other.
-/
import Derived.Deep.QuietTactic
import Derived.Test.YtmhnilnaffjhmaaGreatDoorCeg16
set_option maxRecDepth 100000
set_option maxHeartbeats 400000000
namespace Go.Proofs.YtmhnilnaffjhmaaGreatDoor
open _root_.Go.Proofs.Tryz
section
open Go.RowKit Tf Cu Go.Deep Rl
attribute [local go_sem] aJ aK aN aO aP aQ aV aD
namespace Fc
theorem speed_no(g9:Value)(sd:Int)(dt gr dr:Nat)(lim:Int)(rv:Bool)(pr:Option Addr)(lr cr:Nat)(pb pw pt ps:Option Addr)(lb cb lw cw lt ct ls cs:Nat)(sky st:Int)(e:Int)(w:World)
  (EO:Hid (∀v,Ab w v->Calls prog 144 #[g9,.agg #[.slice pb lb cb,.slice pw lw cw,.slice pt lt ct,.slice ps ls cs,.int .i64 sky,.int .i64 st],.int .i64 e] v fun x w'=>x=.returned (.tuple #[.agg #[.float .f64 0,.int .i64 0,.int .i64 0,.float .f64 0,.int .i64 0,.int .i64 0,.float .f64 0,.float .f64 0],.bool false])/\Below v.heap.size v w')):
  Calls prog 111 #[g9,.agg #[.int .i64 sd,.float .f64 dt,.float .f64 gr,.float .f64 dr,.int .i64 lim,.bool rv,.slice pr lr cr],.agg #[.slice pb lb cb,.slice pw lw cw,.slice pt lt ct,.slice ps ls cs,.int .i64 sky,.int .i64 st],.int .i64 e] w fun x w'=>x=.returned (.float .f64 0)/\Below w.heap.size w w':=by
 obtain⟨W_W0,RP,RS⟩:=cA w (.cells #[.int .i64 sd,.float .f64 dt,.float .f64 gr,.float .f64 dr,.int .i64 lim,.bool rv,.slice pr lr cr] 45) (.cells #[.slice pb lb cb,.slice pw lw cw,.slice pt lt ct,.slice ps ls cs,.int .i64 sky,.int .i64 st] 48)
 go_enter func111,ntmps111
 go_upto_region 1 with fail
 generalize hW:World.alloc (World.alloc w _) _=W0 at*
 obtain⟨gp,hgp⟩:=aB w.heap.size
 obtain⟨gs,hgs⟩:=aB (w.heap.size+1)
 rw[hgs]at RS ⊢
 rw[hgp]at RP ⊢
 clear hgs hgp hW
 have y0:=aA 0 RS.out
 have y1:=aA 1 RS.out
 have y2:=aA 2 RS.out
 have y3:=aA 3 RS.out
 have y4:=aA 4 RS.out
 have y5:=aA 5 RS.out
 go_wp2_with fail
 refine(EO.out _ W_W0.out).mono ?_
 rintro e9 v1 ⟨rfl,k1⟩
 have W_v1:Hid (Ab w v1):=W_W0.out.call k1
 have RP1:=hid (Ab.heap k1 RP.out)
 clear k1 W_W0 RS RP y0 y1 y2 y3 y4 y5
 have W_V:Hid (Ab w (v1.alloc (.cells #[.float .f64 0,.int .i64 0,.int .i64 0,.float .f64 0,.int .i64 0,.int .i64 0,.float .f64 0,.float .f64 0] 191))):=W_v1.out.trans (bl1 _ _)
 go_wp2
 go_ret
 exact⟨rfl,W_V.out⟩
theorem BA(g9:Value)(sd:Int)(dt gr dr:Nat)(lim:Int)(rv:Bool)(pr:Option Addr)(lr cr:Nat)(pb pw pt ps:Option Addr)(lb cb lw cw lt ct ls cs:Nat)(sky st:Int)(e:Int)(bl br gap vu:Nat)(wl al wr ar:Int)(w:World)
  (EO:Hid (∀v,Ab w v->Calls prog 144 #[g9,.agg #[.slice pb lb cb,.slice pw lw cw,.slice pt lt ct,.slice ps ls cs,.int .i64 sky,.int .i64 st],.int .i64 e] v fun x w'=>x=.returned (.tuple #[.agg #[.float .f64 bl,.int .i64 wl,.int .i64 al,.float .f64 br,.int .i64 wr,.int .i64 ar,.float .f64 gap,.float .f64 vu],.bool true])/\Below v.heap.size v w'))
  (OP:Hid (∀v,Calls prog 145 #[.agg #[.float .f64 bl,.int .i64 wl,.int .i64 al,.float .f64 br,.int .i64 wr,.int .i64 ar,.float .f64 gap,.float .f64 vu]] v fun x w'=>x=.returned (.bool false)/\Below v.heap.size v w')):
  Calls prog 111 #[g9,.agg #[.int .i64 sd,.float .f64 dt,.float .f64 gr,.float .f64 dr,.int .i64 lim,.bool rv,.slice pr lr cr],.agg #[.slice pb lb cb,.slice pw lw cw,.slice pt lt ct,.slice ps ls cs,.int .i64 sky,.int .i64 st],.int .i64 e] w fun x w'=>x=.returned (.float .f64 0)/\Below w.heap.size w w':=by
 obtain⟨W_W0,RP,RS⟩:=cA w (.cells #[.int .i64 sd,.float .f64 dt,.float .f64 gr,.float .f64 dr,.int .i64 lim,.bool rv,.slice pr lr cr] 45) (.cells #[.slice pb lb cb,.slice pw lw cw,.slice pt lt ct,.slice ps ls cs,.int .i64 sky,.int .i64 st] 48)
 go_enter func111,ntmps111
 go_upto_region 1 with fail
 generalize hW:World.alloc (World.alloc w _) _=W0 at*
 obtain⟨gp,hgp⟩:=aB w.heap.size
 obtain⟨gs,hgs⟩:=aB (w.heap.size+1)
 rw[hgs]at RS ⊢
 rw[hgp]at RP ⊢
 clear hgs hgp hW
 have y0:=aA 0 RS.out
 have y1:=aA 1 RS.out
 have y2:=aA 2 RS.out
 have y3:=aA 3 RS.out
 have y4:=aA 4 RS.out
 have y5:=aA 5 RS.out
 go_wp2_with fail
 refine(EO.out _ W_W0.out).mono ?_
 rintro e9 v1 ⟨rfl,k1⟩
 have W_v1:Hid (Ab w v1):=W_W0.out.call k1
 have RP1:=hid (Ab.heap k1 RP.out)
 clear k1 W_W0 RS RP y0 y1 y2 y3 y4 y5
 have W_V:Hid (Ab w (v1.alloc (.cells #[.float .f64 bl,.int .i64 wl,.int .i64 al,.float .f64 br,.int .i64 wr,.int .i64 ar,.float .f64 gap,.float .f64 vu] 191))):=W_v1.out.trans (bl1 _ _)
 go_wp2_with fail
 refine(OP.out _).mono ?_
 rintro e9 v2 ⟨rfl,k1⟩
 have W_v2:Hid (Ab w v2):=W_V.out.call k1
 clear k1 W_V W_v1
 go_wp2
 go_ret
 exact⟨rfl,W_v2.out⟩
theorem speed_go(g9:Value)(sd:Int)(dt gr dr:Nat)(lim:Int)(rv:Bool)(pr:Option Addr)(lr cr:Nat)(pb pw pt ps:Option Addr)(lb cb lw cw lt ct ls cs:Nat)(sky st:Int)(e:Int)(bl br gap vu:Nat)(wl al wr ar:Int)(y:Nat)(UQ HQ:Nat->Prop)(w:World)
  (EO:Hid (∀v,Ab w v->Calls prog 144 #[g9,.agg #[.slice pb lb cb,.slice pw lw cw,.slice pt lt ct,.slice ps ls cs,.int .i64 sky,.int .i64 st],.int .i64 e] v fun x w'=>x=.returned (.tuple #[.agg #[.float .f64 bl,.int .i64 wl,.int .i64 al,.float .f64 br,.int .i64 wr,.int .i64 ar,.float .f64 gap,.float .f64 vu],.bool true])/\Below v.heap.size v w'))
  (OP:Hid (∀v,Calls prog 145 #[.agg #[.float .f64 bl,.int .i64 wl,.int .i64 al,.float .f64 br,.int .i64 wr,.int .i64 ar,.float .f64 gap,.float .f64 vu]] v fun x w'=>x=.returned (.bool true)/\Below v.heap.size v w'))
  (PU:Hid (∀v,Calls prog 147 #[.agg #[.float .f64 bl,.int .i64 wl,.int .i64 al,.float .f64 br,.int .i64 wr,.int .i64 ar,.float .f64 gap,.float .f64 vu],.agg #[.int .i64 sd,.float .f64 dt,.float .f64 gr,.float .f64 dr,.int .i64 lim,.bool rv,.slice pr lr cr]] v fun x w'=>(∃r,x=.returned (.float .f64 r)/\UQ r)/\Below v.heap.size v w'))
  (DE:Hid (∀v,Calls prog 148 #[.agg #[.float .f64 bl,.int .i64 wl,.int .i64 al,.float .f64 br,.int .i64 wr,.int .i64 ar,.float .f64 gap,.float .f64 vu]] v fun x w'=>(∃r,x=.returned (.float .f64 r)/\HQ r)/\Below v.heap.size v w'))
  (DG:Hid (∀u h,UQ u->HQ h-> ∀v,Calls prog 146 #[.agg #[.int .i64 sd,.float .f64 dt,.float .f64 gr,.float .f64 dr,.int .i64 lim,.bool rv,.slice pr lr cr],.float .f64 u,.float .f64 h] v fun x w'=>x=.returned (.float .f64 y)/\Below v.heap.size v w')):
  Calls prog 111 #[g9,.agg #[.int .i64 sd,.float .f64 dt,.float .f64 gr,.float .f64 dr,.int .i64 lim,.bool rv,.slice pr lr cr],.agg #[.slice pb lb cb,.slice pw lw cw,.slice pt lt ct,.slice ps ls cs,.int .i64 sky,.int .i64 st],.int .i64 e] w fun x w'=>x=.returned (.float .f64 y)/\Below w.heap.size w w':=by
 obtain⟨W_W0,RP,RS⟩:=cA w (.cells #[.int .i64 sd,.float .f64 dt,.float .f64 gr,.float .f64 dr,.int .i64 lim,.bool rv,.slice pr lr cr] 45) (.cells #[.slice pb lb cb,.slice pw lw cw,.slice pt lt ct,.slice ps ls cs,.int .i64 sky,.int .i64 st] 48)
 go_enter func111,ntmps111
 go_upto_region 1 with fail
 generalize hW:World.alloc (World.alloc w _) _=W0 at*
 obtain⟨gp,hgp⟩:=aB w.heap.size
 obtain⟨gs,hgs⟩:=aB (w.heap.size+1)
 rw[hgs]at RS ⊢
 rw[hgp]at RP ⊢
 clear hgs hgp hW
 have y0:=aA 0 RS.out
 have y1:=aA 1 RS.out
 have y2:=aA 2 RS.out
 have y3:=aA 3 RS.out
 have y4:=aA 4 RS.out
 have y5:=aA 5 RS.out
 go_wp2_with fail
 refine(EO.out _ W_W0.out).mono ?_
 rintro e9 v1 ⟨rfl,k1⟩
 have W_v1:Hid (Ab w v1):=W_W0.out.call k1
 have RP1:=hid (Ab.heap k1 RP.out)
 clear k1 W_W0 RS RP y0 y1 y2 y3 y4 y5
 have W_V:Hid (Ab w (v1.alloc (.cells #[.float .f64 bl,.int .i64 wl,.int .i64 al,.float .f64 br,.int .i64 wr,.int .i64 ar,.float .f64 gap,.float .f64 vu] 191))):=W_v1.out.trans (bl1 _ _)
 have RE1:=hid (heap_alloc_new v1 (.cells #[.float .f64 bl,.int .i64 wl,.int .i64 al,.float .f64 br,.int .i64 wr,.int .i64 ar,.float .f64 gap,.float .f64 vu] 191))
 have RPV:Hid ((v1.alloc (.cells #[.float .f64 bl,.int .i64 wl,.int .i64 al,.float .f64 br,.int .i64 wr,.int .i64 ar,.float .f64 gap,.float .f64 vu] 191)).heap[gp]? =some (.cells #[.int .i64 sd,.float .f64 dt,.float .f64 gr,.float .f64 dr,.int .i64 lim,.bool rv,.slice pr lr cr] 45)):=Ab.heap (bl1 _ _) RP1.out
 go_wp2_with fail
 refine(OP.out _).mono ?_
 rintro e9 v2 ⟨rfl,k1⟩
 have W_W0:Hid (Ab w v2):=W_V.out.call k1
 have RE2:=hid (Ab.heap k1 RE1.out)
 have RP2:=hid (Ab.heap k1 RPV.out)
 clear k1 W_V RE1 RPV RP1 W_v1
 go_upto_region 4 with fail
 obtain⟨ge,hge⟩:=aB v1.heap.size
 rw[hge]at RE2 ⊢
 clear hge
 refine Rl.lV (fun i v=>match i with
   | 0=>v=.agg #[.int .i64 sd,.float .f64 dt,.float .f64 gr,.float .f64 dr,.int .i64 lim,.bool rv,.slice pr lr cr]
   | 1=>v=.agg #[.float .f64 bl,.int .i64 wl,.int .i64 al,.float .f64 br,.int .i64 wr,.int .i64 ar,.float .f64 gap,.float .f64 vu]
   | 2=>v=.agg #[.int .i64 sd,.float .f64 dt,.float .f64 gr,.float .f64 dr,.int .i64 lim,.bool rv,.slice pr lr cr]
   | 3=> ∃r,v=.float .f64 r/\UQ r
   | 4=>v=.agg #[.float .f64 bl,.int .i64 wl,.int .i64 al,.float .f64 br,.int .i64 wr,.int .i64 ar,.float .f64 gap,.float .f64 vu]
   | 5=> ∃r,v=.float .f64 r/\HQ r
   | 6=>v=.float .f64 y
   | _=>v=.float .f64 y) (fun w9=>Ab v2 w9) (by kernel_rfl) (by kernel_rfl) (by kernel_rfl) (Ab.refl v2).drew ?_ ?_
 ·refine Rl.aR 1 (fun v=>v=.agg #[.int .i64 sd,.float .f64 dt,.float .f64 gr,.float .f64 dr,.int .i64 lim,.bool rv,.slice pr lr cr]) rfl rfl ?_ ?_
  ·intro x v hC hR
   have y0:=aA 0 (hC.heap RP2.out)
   have y1:=aA 1 (hC.heap RP2.out)
   have y2:=aA 2 (hC.heap RP2.out)
   have y3:=aA 3 (hC.heap RP2.out)
   have y4:=aA 4 (hC.heap RP2.out)
   have y5:=aA 5 (hC.heap RP2.out)
   have y6:=aA 6 (hC.heap RP2.out)
   clear hR
   intro K hK
   simp only[putAll,Act.put,List.setIfInBounds_toArray,List.set_cons_zero,List.set_cons_succ,Nat.reduceAdd,Nat.zero_add]at hK ⊢
   go_simp
   exact hK.out _ _ rfl hC
  refine Rl.aR 2 (fun v=>v=.agg #[.float .f64 bl,.int .i64 wl,.int .i64 al,.float .f64 br,.int .i64 wr,.int .i64 ar,.float .f64 gap,.float .f64 vu]) rfl rfl ?_ ?_
  ·intro x v hC hR
   have y0:=aA 0 (hC.heap RE2.out)
   have y1:=aA 1 (hC.heap RE2.out)
   have y2:=aA 2 (hC.heap RE2.out)
   have y3:=aA 3 (hC.heap RE2.out)
   have y4:=aA 4 (hC.heap RE2.out)
   have y5:=aA 5 (hC.heap RE2.out)
   have y6:=aA 6 (hC.heap RE2.out)
   have y7:=aA 7 (hC.heap RE2.out)
   clear hR
   intro K hK
   simp only[putAll,Act.put,List.setIfInBounds_toArray,List.set_cons_zero,List.set_cons_succ,Nat.reduceAdd,Nat.zero_add]at hK ⊢
   go_simp
   exact hK.out _ _ rfl hC
  refine Rl.aR 3 (fun v=>v=.agg #[.int .i64 sd,.float .f64 dt,.float .f64 gr,.float .f64 dr,.int .i64 lim,.bool rv,.slice pr lr cr]) rfl rfl ?_ ?_
  ·intro x v hC hR
   have y0:=aA 0 (hC.heap RP2.out)
   have y1:=aA 1 (hC.heap RP2.out)
   have y2:=aA 2 (hC.heap RP2.out)
   have y3:=aA 3 (hC.heap RP2.out)
   have y4:=aA 4 (hC.heap RP2.out)
   have y5:=aA 5 (hC.heap RP2.out)
   have y6:=aA 6 (hC.heap RP2.out)
   clear hR
   intro K hK
   simp only[putAll,Act.put,List.setIfInBounds_toArray,List.set_cons_zero,List.set_cons_succ,Nat.reduceAdd,Nat.zero_add]at hK ⊢
   go_simp
   exact hK.out _ _ rfl hC
  refine Rl.aR 4 (fun v=> ∃r,v=.float .f64 r/\UQ r) rfl rfl ?_ ?_
  ·intro x v hC hR
   have h0:x 1=.agg #[.float .f64 bl,.int .i64 wl,.int .i64 al,.float .f64 br,.int .i64 wr,.int .i64 ar,.float .f64 gap,.float .f64 vu]:=hR 1 (by kernel_rfl)
   have h1:x 2=.agg #[.int .i64 sd,.float .f64 dt,.float .f64 gr,.float .f64 dr,.int .i64 lim,.bool rv,.slice pr lr cr]:=hR 2 (by kernel_rfl)
   clear hR
   intro K hK
   simp only[putAll,Act.put,List.setIfInBounds_toArray,List.set_cons_zero,List.set_cons_succ,Nat.reduceAdd,Nat.zero_add]at hK ⊢
   simp only[h0,h1]at hK ⊢
   go_simp
   refine(PU.out _).mono ?_
   rintro e w8 ⟨⟨r,rfl,hr⟩,kb⟩
   exact hK.out _ _ ⟨r,rfl,hr⟩ (hC.call kb)
  refine Rl.aR 5 (fun v=>v=.agg #[.float .f64 bl,.int .i64 wl,.int .i64 al,.float .f64 br,.int .i64 wr,.int .i64 ar,.float .f64 gap,.float .f64 vu]) rfl rfl ?_ ?_
  ·intro x v hC hR
   have y0:=aA 0 (hC.heap RE2.out)
   have y1:=aA 1 (hC.heap RE2.out)
   have y2:=aA 2 (hC.heap RE2.out)
   have y3:=aA 3 (hC.heap RE2.out)
   have y4:=aA 4 (hC.heap RE2.out)
   have y5:=aA 5 (hC.heap RE2.out)
   have y6:=aA 6 (hC.heap RE2.out)
   have y7:=aA 7 (hC.heap RE2.out)
   clear hR
   intro K hK
   simp only[putAll,Act.put,List.setIfInBounds_toArray,List.set_cons_zero,List.set_cons_succ,Nat.reduceAdd,Nat.zero_add]at hK ⊢
   go_simp
   exact hK.out _ _ rfl hC
  refine Rl.aR 6 (fun v=> ∃r,v=.float .f64 r/\HQ r) rfl rfl ?_ ?_
  ·intro x v hC hR
   have h0:x 4=.agg #[.float .f64 bl,.int .i64 wl,.int .i64 al,.float .f64 br,.int .i64 wr,.int .i64 ar,.float .f64 gap,.float .f64 vu]:=hR 4 (by kernel_rfl)
   clear hR
   intro K hK
   simp only[putAll,Act.put,List.setIfInBounds_toArray,List.set_cons_zero,List.set_cons_succ,Nat.reduceAdd,Nat.zero_add]at hK ⊢
   simp only[h0]at hK ⊢
   go_simp
   refine(DE.out _).mono ?_
   rintro e w8 ⟨⟨r,rfl,hr⟩,kb⟩
   exact hK.out _ _ ⟨r,rfl,hr⟩ (hC.call kb)
  refine Rl.aR 7 (fun v=>v=.float .f64 y) rfl rfl ?_ ?_
  ·intro x v hC hR
   have h5:x 0=.agg #[.int .i64 sd,.float .f64 dt,.float .f64 gr,.float .f64 dr,.int .i64 lim,.bool rv,.slice pr lr cr]:=hR 0 (by kernel_rfl)
   have h0: ∃r,x 3=.float .f64 r/\UQ r:=hR 3 (by kernel_rfl)
   have h1: ∃r,x 5=.float .f64 r/\HQ r:=hR 5 (by kernel_rfl)
   obtain⟨r1,e1,i1⟩:=h0
   obtain⟨r2,e2,i2⟩:=h1
   have DG1:=hid (DG.out r1 r2 i1 i2)
   clear i1 i2
   clear hR
   intro K hK
   simp only[putAll,Act.put,List.setIfInBounds_toArray,List.set_cons_zero,List.set_cons_succ,Nat.reduceAdd,Nat.zero_add]at hK ⊢
   simp only[h5,e1,e2]at hK ⊢
   go_simp
   refine(DG1.out _).mono ?_
   rintro e w8 ⟨rfl,kb⟩
   exact hK.out _ _ rfl (hC.call kb)
  refine Rl.aR 8 (fun v=>v=.float .f64 y) rfl rfl ?_ ?_
  ·intro x v hC hR
   have h0:x 6=.float .f64 y:=hR 6 (by kernel_rfl)
   clear hR
   intro K hK
   simp only[putAll,Act.put,List.setIfInBounds_toArray,List.set_cons_zero,List.set_cons_succ,Nat.reduceAdd,Nat.zero_add]at hK ⊢
   simp only[h0]at hK ⊢
   go_simp
   exact hK.out _ _ rfl hC
  exact Rl.wM
 ·intro x z hz hR
  have h0:x 7=.float .f64 y:=hR 7 (by decide)
  clear hR
  have WZ:Hid (Ab w z):=W_W0.out.trans hz
  clear hz
  simp only[putAll,Act.put,List.setIfInBounds_toArray,List.set_cons_zero,List.set_cons_succ,Nat.reduceAdd,Nat.zero_add,h0]
  go_wp2
  go_ret
  exact⟨rfl,WZ.out⟩
end Fc
end
section
open Go.RowKit Tf Cu Go.Deep Rl
attribute [local go_sem] aJ aK aN aO aP aQ aV aD
namespace Fc
theorem row_ownF{B g cap n:Nat}{F:Nat->Value}{x:Nat->Nat}{w:World}(h:w.rowIs g 35 cap F)(hB:B<=g)(hn:n<=cap)(hc:cap<=maxLen)(hF: ∀i,i<n->F i=.float .f64 (x i)):OwnG B (.slice (some ⟨g,0,none⟩) n cap) ((List.range n).map x) w:=by
 obtain⟨c,hb,hs,hf⟩:=h
 refine⟨by simp,.inr ⟨g,cap,c,by simp,hB,hb,by simpa using hn,hc,by omega,?_⟩⟩
 apply List.ext_getElem?
 intro i
 rw[List.getElem?_take,List.length_map,List.length_range]
 by_cases hi:i<n
 ·have e:=hf i (by omega)
  rw[hF i hi]at e
  rw[if_pos (by omega)]
  rw[<- Array.getElem?_toList]at e
  rw[e]
  simp[hi]
 ·rw[if_neg (by omega),List.getElem?_eq_none (by simp;omega)]
theorem Fp(gb:Nat)(sd:Int)(dt gr dr:Nat)(lim:Int)(rv:Bool)(pr:Option Addr)(lr cr:Nat)(pb pw pt ps:Option Addr)(lb cb lw cw lt ct ls cs:Nat)(sky st:Int)(w:World)
  (CF:Hid (∀v,Ab w v->Calls prog 110 #[.pointer (some ⟨gb,0,none⟩),.agg #[.slice pb lb cb,.slice pw lw cw,.slice pt lt ct,.slice ps ls cs,.int .i64 sky,.int .i64 st]] v fun x w'=>x=.returned (.bool false)/\Below v.heap.size v w')):
  Calls prog 73 #[.pointer (some ⟨gb,0,none⟩),.agg #[.int .i64 sd,.float .f64 dt,.float .f64 gr,.float .f64 dr,.int .i64 lim,.bool rv,.slice pr lr cr],.agg #[.slice pb lb cb,.slice pw lw cw,.slice pt lt ct,.slice ps ls cs,.int .i64 sky,.int .i64 st]] w fun e w'=>e=.returned (.tuple #[.slice none 0 0,.int .i64 1])/\Below w.heap.size w w':=by
 obtain⟨W_W0,RP,RS⟩:=cA w (.cells #[.int .i64 sd,.float .f64 dt,.float .f64 gr,.float .f64 dr,.int .i64 lim,.bool rv,.slice pr lr cr] 45) (.cells #[.slice pb lb cb,.slice pw lw cw,.slice pt lt ct,.slice ps ls cs,.int .i64 sky,.int .i64 st] 48)
 go_enter func73,ntmps73
 go_upto_region 3 with fail
 generalize hW:World.alloc (World.alloc w _) _=W0 at*
 obtain⟨gp,hgp⟩:=aB w.heap.size
 obtain⟨gs,hgs⟩:=aB (w.heap.size+1)
 rw[hgs]at RS ⊢
 rw[hgp]at RP ⊢
 clear hgs hgp hW
 have y0:=aA 0 RS.out
 have y1:=aA 1 RS.out
 have y2:=aA 2 RS.out
 have y3:=aA 3 RS.out
 have y4:=aA 4 RS.out
 have y5:=aA 5 RS.out
 go_wp2_with fail
 refine(CF.out _ W_W0.out).mono ?_
 rintro e9 v1 ⟨rfl,k1⟩
 have W_v1:Hid (Ab w v1):=W_W0.out.call k1
 have RP1:=hid (Ab.heap k1 RP.out)
 have RS1:=hid (Ab.heap k1 RS.out)
 clear k1 W_W0 RS RP y0 y1 y2 y3 y4 y5
 go_wp2
 go_ret2
 exact⟨rfl,W_v1.out⟩
theorem Fq(gb:Nat)(sd:Int)(dt gr dr:Nat)(lim:Int)(rv:Bool)(pr:Option Addr)(lr cr:Nat)(pb pw pt ps:Option Addr)(lb cb lw cw lt ct ls cs:Nat)(sky st:Int)(N:Nat)(D:Nat->Nat)(w:World)(hN:N<=1048576)
  (CF:Hid (∀v,Ab w v->Calls prog 110 #[.pointer (some ⟨gb,0,none⟩),.agg #[.slice pb lb cb,.slice pw lw cw,.slice pt lt ct,.slice ps ls cs,.int .i64 sky,.int .i64 st]] v fun x w'=>x=.returned (.bool true)/\Below v.heap.size v w'))
  (CE:Hid (∀v,Ab w v->Calls prog 8 #[.pointer (some ⟨gb,0,none⟩)] v fun e w'=>e=.returned (.int .i64 (N:Nat))/\w'=v))
  (CS:Hid (∀c:Nat,c<N-> ∀v,Ab w v->Calls prog 111 #[.pointer (some ⟨gb,0,none⟩),.agg #[.int .i64 sd,.float .f64 dt,.float .f64 gr,.float .f64 dr,.int .i64 lim,.bool rv,.slice pr lr cr],.agg #[.slice pb lb cb,.slice pw lw cw,.slice pt lt ct,.slice ps ls cs,.int .i64 sky,.int .i64 st],.int .i64 (c:Nat)] v fun e w'=>e=.returned (.float .f64 (D c))/\Below v.heap.size v w')):
  Calls prog 73 #[.pointer (some ⟨gb,0,none⟩),.agg #[.int .i64 sd,.float .f64 dt,.float .f64 gr,.float .f64 dr,.int .i64 lim,.bool rv,.slice pr lr cr],.agg #[.slice pb lb cb,.slice pw lw cw,.slice pt lt ct,.slice ps ls cs,.int .i64 sky,.int .i64 st]] w fun e w'=> ∃b,e=.returned (.tuple #[.slice (some ⟨b,0,none⟩) N N,.int .i64 0])/\Below w.heap.size w w'/\w'.rowIs b 35 N (fun i=>.float .f64 (D i))/\w.heap.size<=b:=by
 have M1: ∀v:World,(Instr.makeSlice 38 (.int .i64 (N:Nat)) (.int .i64 (N:Nat))).run prog v=.ok (.slice (some ⟨v.heap.size,0,none⟩) N N) (v.alloc (Obj.cells (madeCells #[.float .f64 0] N) 35)):=fun v=>
  run_make_row' (P:=prog) 38 35 (.float .f64 0) 8 underlying38 pX rfl .i64 .i64 N (by omega) (by omega) v
 have HN:=hid hN
 clear hN
 obtain⟨W_W0,RP,RS⟩:=cA w (.cells #[.int .i64 sd,.float .f64 dt,.float .f64 gr,.float .f64 dr,.int .i64 lim,.bool rv,.slice pr lr cr] 45) (.cells #[.slice pb lb cb,.slice pw lw cw,.slice pt lt ct,.slice ps ls cs,.int .i64 sky,.int .i64 st] 48)
 go_enter func73,ntmps73
 go_upto_region 3 with fail
 generalize hW:World.alloc (World.alloc w _) _=W0 at*
 obtain⟨gp,hgp⟩:=aB w.heap.size
 obtain⟨gs,hgs⟩:=aB (w.heap.size+1)
 rw[hgs]at RS ⊢
 rw[hgp]at RP ⊢
 clear hgs hgp hW
 have y0:=aA 0 RS.out
 have y1:=aA 1 RS.out
 have y2:=aA 2 RS.out
 have y3:=aA 3 RS.out
 have y4:=aA 4 RS.out
 have y5:=aA 5 RS.out
 go_wp2_with fail
 refine(CF.out _ W_W0.out).mono ?_
 rintro e9 v1 ⟨rfl,k1⟩
 have W_v1:Hid (Ab w v1):=W_W0.out.call k1
 have RP1:=hid (Ab.heap k1 RP.out)
 have RS1:=hid (Ab.heap k1 RS.out)
 clear k1 W_W0 RS RP y0 y1 y2 y3 y4 y5
 go_wp2_with fail
 refine(CE.out _ W_v1.out).mono ?_
 rintro e9 vq ⟨rfl,hvq⟩
 have hvq2:=hvq.symm
 subst hvq2
 have LZ:Hid (w.heap.size<=v1.heap.size/\gs≠v1.heap.size/\gp≠v1.heap.size):=⟨W_v1.out.size,by have:=lt_of_block RS1.out;omega,by have:=lt_of_block RP1.out;omega⟩
 have A1:Hid (Ab w (v1.alloc (Obj.cells (madeCells #[.float .f64 0] N) 35))):=W_v1.out.alloc _
 have A2:Hid ((v1.alloc (Obj.cells (madeCells #[.float .f64 0] N) 35)).heap[gs]? =some (.cells #[.slice pb lb cb,.slice pw lw cw,.slice pt lt ct,.slice ps ls cs,.int .i64 sky,.int .i64 st] 48)):=Ab.heap (bl1 _ _) RS1.out
 have A3:Hid ((v1.alloc (Obj.cells (madeCells #[.float .f64 0] N) 35)).heap[gp]? =some (.cells #[.int .i64 sd,.float .f64 dt,.float .f64 gr,.float .f64 dr,.int .i64 lim,.bool rv,.slice pr lr cr] 45)):=Ab.heap (bl1 _ _) RP1.out
 have A4:Hid ((v1.alloc (Obj.cells (madeCells #[.float .f64 0] N) 35)).rowIs v1.heap.size 35 N (fun _=>.float .f64 0)):=World.rowIs_made _ _ _ _
 go_upto_region 6 with fail
 generalize hV:World.alloc v1 _=V at*
 obtain⟨b,hb⟩:=aB v1.heap.size
 rw[hb]at A4 LZ ⊢
 clear hV hb W_v1 RS1 RP1 M1
 have IN:Hid (Ab w V/\V.heap[gs]? =some (.cells #[.slice pb lb cb,.slice pw lw cw,.slice pt lt ct,.slice ps ls cs,.int .i64 sky,.int .i64 st] 48)/\V.heap[gp]? =some (.cells #[.int .i64 sd,.float .f64 dt,.float .f64 gr,.float .f64 dr,.int .i64 lim,.bool rv,.slice pr lr cr] 45)/\V.rowIs b 35 N (fun i=>.float .f64 (if i<0 then D i else 0))):=⟨A1.out,A2.out,A3.out,A4.out.congr (fun i _=>by simp)⟩
 clear A1 A2 A3 A4
 go_wp2
 go_loopw [21] (fun iv wr=> ∃c:Nat,c<=N/\iv=.int .i64 (c:Nat)/\Ab w wr/\wr.heap[gs]? =some (.cells #[.slice pb lb cb,.slice pw lw cw,.slice pt lt ct,.slice ps ls cs,.int .i64 sky,.int .i64 st] 48)/\wr.heap[gp]? =some (.cells #[.int .i64 sd,.float .f64 dt,.float .f64 gr,.float .f64 dr,.int .i64 lim,.bool rv,.slice pr lr cr] 45)/\wr.rowIs b 35 N (fun i=>.float .f64 (if i<c then D i else 0))) (fun iv _=>((N:Int) - intOf iv).toNat)
 case atStart=>exact⟨0,by omega,rfl,IN.out⟩
 case round=>
  obtain⟨c,hc,rfl,a1,r1,r2,o1⟩:=hrel
  clear IN
  have AR:=hid a1
  have RR:=hid r1
  have RP:=hid r2
  have OO:=hid o1
  clear a1 r1 r2 o1
  by_cases hcN:c<N
  ·have HC:=hid hcN
   have hcI:(c:Int)<N:=by omega
   have hcB:(c:Int)<=1048576:=by have:=HN.out;omega
   obtain⟨y,hy⟩:=aB (D c)
   have CSc:=hid (CS.out c hcN)
   rw[hy]at CSc
   have HY:=hid hy
   clear hy hcN
   have y0:=aA 0 RR.out
   have y1:=aA 1 RR.out
   have y2:=aA 2 RR.out
   have y3:=aA 3 RR.out
   have y4:=aA 4 RR.out
   have y5:=aA 5 RR.out
   have p0:=aA 0 RP.out
   have p1:=aA 1 RP.out
   have p2:=aA 2 RP.out
   have p3:=aA 3 RP.out
   have p4:=aA 4 RP.out
   have p5:=aA 5 RP.out
   have p6:=aA 6 RP.out
   go_wp2_with fail
   refine(CSc.out _ AR.out).mono ?_
   rintro e9 vz ⟨rfl,bz⟩
   have AZ:Hid (Ab wr vz):=bz
   clear bz y0 y1 y2 y3 y4 y5 p0 p1 p2 p3 p4 p5 p6
   have OZ:=hid (rowIs.ab OO.out AZ.out)
   have xc:=OZ.out.cell HC.out
   have xf:=OZ.out.frozen c
   go_wp2
   refine⟨⟨c+1,by have:=HC.out;omega,by simp,(AR.out.trans AZ.out).setk LZ.out.1 _,?_,?_,(OZ.out.set c _).congr (fun i _=> ?_)⟩,by simp[intOf];have:=HC.out;omega⟩
   ·rw[aE LZ.out.2.1];exact AZ.out.heap RR.out
   ·rw[aE LZ.out.2.2];exact AZ.out.heap RP.out
   ·by_cases e:i=c
    ·simp[e,HY.out]
    ·by_cases l:i<c
     ·simp[e,l,show i<c+1 by omega]
     ·simp[e,l,show¬i<c+1 by omega]
  ·have e6:N=c:=by omega
   subst e6
   go_wp2
   go_ret2
   exact⟨b,rfl,AR.out,OO.out.congr (fun i hi=>by simp[hi]),LZ.out.1⟩
end Fc
end
section
open Go.RowKit Tf Cu Go.Deep
attribute [local go_sem] aJ aK aN aO aP aQ aV aD
namespace Fc
theorem edge16{n gb k:Nat}{v:World}(hn:1<=n/\n<=32)(hk:k<12*n*n)(g:GridOf n gb v):Calls prog 10 #[.pointer (some ⟨gb,0,none⟩),.int .i64 (k:Nat)] v fun e w'=>e=.returned (.tuple #[.agg #[.int .i64 (eL n k:Nat),.int .i64 (edT n k%4:Nat),.int .i64 (eR n k:Nat),.int .i64 (mt n (edT n k)%4:Nat)],.bool true])/\Below v.heap.size v w':=by
 obtain⟨t1,t2,t3⟩:=bM hn.1 hk
 have e:=iV hn t1 t2 g
 rw[t3,<- (eO hn.1 t1).1,<- (eO hn.1 t1).2]at e
 exact e
theorem BC{n k:Nat}(hn:1<=n)(hk:k<12*n*n):eL n k<6*n*n/\eR n k<6*n*n/\eL n k≠eR n k:=by
 obtain⟨t1,t2,t3⟩:=bM hn hk
 refine⟨aW t1,aW (cX hn t1),?_⟩
 have h:=(eO hn t1).1
 have h2:edT n k/4<mt n (edT n k)/4:=by rw[h];exact of_decide_eq_true t2
 unfold eL eR
 omega
theorem n6_16{n:Nat}(hn:1<=n/\n<=32):6*n*n<=65536/\12*n*n<=65536/\0<6*n*n/\0<12*n*n:=by
 have h:=n12 hn
 omega
end Fc
end
section
open Go.RowKit Tf Cu Go.Deep Rl
namespace Fc
theorem fs_rt(x:Nat):rtB x<18446744073709551616:=by
 cases h:Ieee.double.sqrt x with
 | none=>rw[jU h];decide
 | some r=>rw[iP h];exact eB (sqrt_lt h)
theorem fsgp_lt{n k:Nat}(_hn:1<=n/\n<=32)(_hk:k<12*n*n):gpE n k<18446744073709551616:=by unfold gpE GpC gp lnB;exact fs_rt _
theorem fsfit(gb:Nat)(pb pw pt ps:Option Addr)(lb cb lw cw lt ct ls cs:Nat)(sky st:Int){n:Nat}(q:Bool)(w:World)(g:GridOf n gb w)(hq:q=true ↔ fit4 n lb lw lt ls):
  Calls prog 110 #[.pointer (some ⟨gb,0,none⟩),.agg #[.slice pb lb cb,.slice pw lw cw,.slice pt lt ct,.slice ps ls cs,.int .i64 sky,.int .i64 st]] w fun e w'=>e=.returned (.bool q)/\Below w.heap.size w w':=by
 refine ffits_at gb pb pw pt ps lb cb lw cw lt ct ls cs sky st (6*n*n) (12*n*n) q w ?_ (fun v hv=>(dT (g.to hv)).mono fun _ _ h=>⟨h.1,by obtain⟨_,rfl⟩:=h;exact Below.refl _ _⟩) (fun v hv=>(bZ (g.to hv)).mono fun _ _ h=>⟨h.1,by obtain⟨_,rfl⟩:=h;exact Below.refl _ _⟩)
 unfold fit4 at hq
 have e: ∀a b:Nat,((a:Int)==(b:Int))=decide (a=b):=fun a b=>by rw[Bool.eq_iff_iff];simp;omega
 have qf: ¬(lb=6*n*n/\lw=6*n*n/\lt=6*n*n/\ls=12*n*n)->q=false:=fun h=>by
  cases hc:q
  ·rfl
  ·exact absurd (hq.1 hc) h
 rw[e,e,e,e]
 by_cases c1:lb=6*n*n
 ·by_cases c2:lw=6*n*n
  ·by_cases c3:lt=6*n*n
   ·refine .inr (.inr (.inr ⟨decide_eq_true c1,decide_eq_true c2,decide_eq_true c3,?_⟩))
    rw[Bool.eq_iff_iff,decide_eq_true_eq,hq]
    exact⟨fun h=>⟨c1,c2,c3,h⟩,fun h=>h.2.2.2⟩
   ·exact .inr (.inr (.inl ⟨decide_eq_true c1,decide_eq_true c2,decide_eq_false c3,qf (fun h=>c3 h.2.2.1)⟩))
  ·exact .inr (.inl ⟨decide_eq_true c1,decide_eq_false c2,qf (fun h=>c2 h.2.1)⟩)
 ·exact .inl ⟨decide_eq_false c1,qf (fun h=>c1 h.1)⟩
theorem fsedge{n gb:Nat}{pb pw ps:Option Addr}{lb lw lt ls:Nat}{B:Nat->Nat}{Wt:Nat->Int}{Sp:Nat->Nat}(cb cw:Nat)(pt:Option Addr)(ct cs:Nat)(sky st:Int){k:Nat}{w:World}(hn:1<=n/\n<=32)(g:GridOf n gb w)(IB:IsFl w pb lb B)(IW:IsIn w pw lw Wt)(IS:IsFl w ps ls Sp)(hf:fit4 n lb lw lt ls)(hk:k<12*n*n):
  Calls prog 144 #[.pointer (some ⟨gb,0,none⟩),.agg #[.slice pb lb cb,.slice pw lw cw,.slice pt lt ct,.slice ps ls cs,.int .i64 sky,.int .i64 st],.int .i64 (k:Nat)] w fun x w'=>x=.returned (.tuple #[.agg #[.float .f64 (B (eL n k)),.int .i64 (Wt (eL n k)),.int .i64 (arC n (eL n k)),.float .f64 (B (eR n k)),.int .i64 (Wt (eR n k)),.int .i64 (arC n (eR n k)),.float .f64 (gpE n k),.float .f64 (Sp k)],.bool true])/\Below w.heap.size w w':=by
 obtain⟨c1,c2,_⟩:=BC hn.1 hk
 have hf2:=hf
 obtain⟨f1,f2,f3,f4⟩:=hf2
 subst f1 f2 f3 f4
 obtain⟨bb,bo,rfl⟩:=IB.some0 (by omega)
 obtain⟨wb,wo,rfl⟩:=IW.some0 (by omega)
 obtain⟨sb,so,rfl⟩:=IS.some0 (by omega)
 exact Fo gb bb bo wb wo sb so (6*n*n) (12*n*n) cb cw cs pt (6*n*n) ct sky st k (eL n k) (edT n k%4) (eR n k) (mt n (edT n k)%4) (B (eL n k)) (B (eR n k)) (gpE n k) (Sp k) (Wt (eL n k)) (arC n (eL n k)) (Wt (eR n k)) (arC n (eR n k)) w (by omega)
  (fun v hv=>edge16 hn hk (g.to hv)) (fun v hv=>fsfit gb _ _ pt _ _ cb _ cw _ ct _ cs sky st true v (g.to hv) (by simp[hf]))
  (fun v hv=>uN gb bb bo wb wo (6*n*n) cb cw pt _ _ ct _ cs sky st (eL n k) (B (eL n k)) (Wt (eL n k)) (arC n (eL n k)) v (by omega) (fun u hu=>((IB.below (hv.trans hu)).at0 c1).2.2) (fun u hu=>((IW.below (hv.trans hu)).at0 c1).2.2) (fun u hu=>fX hn c1 (g.to (hv.trans hu))))
  (fun v hv=>uN gb bb bo wb wo (6*n*n) cb cw pt _ _ ct _ cs sky st (eR n k) (B (eR n k)) (Wt (eR n k)) (arC n (eR n k)) v (by omega) (fun u hu=>((IB.below (hv.trans hu)).at0 c2).2.2) (fun u hu=>((IW.below (hv.trans hu)).at0 c2).2.2) (fun u hu=>fX hn c2 (g.to (hv.trans hu))))
  (fun v hv=>De hn hk (g.to hv)) (fun v hv=>((IS.below hv).at0 hk).2.2)
theorem fsnone{n gb:Nat}(pb pw:Option Addr)(lb lw cb cw:Nat)(pt:Option Addr)(lt ct:Nat)(ps:Option Addr)(ls cs:Nat)(sky st e:Int){w:World}(hn:1<=n/\n<=32)(g:GridOf n gb w)(h4: ¬has4 n lb lw lt ls e):
  Calls prog 144 #[.pointer (some ⟨gb,0,none⟩),.agg #[.slice pb lb cb,.slice pw lw cw,.slice pt lt ct,.slice ps ls cs,.int .i64 sky,.int .i64 st],.int .i64 e] w fun x w'=>x=.returned (.tuple #[.agg #[.float .f64 0,.int .i64 0,.int .i64 0,.float .f64 0,.int .i64 0,.int .i64 0,.float .f64 0,.float .f64 0],.bool false])/\Below w.heap.size w w':=by
 cases hr:inR e (12*n*n:Nat)
 ·exact Fm (.pointer (some ⟨gb,0,none⟩)) pb pw pt ps lb cb lw cw lt ct ls cs sky st e w (fun v hv=>yC hr (g.to hv))
 ·have hf: ¬fit4 n lb lw lt ls:=fun h=>h4 ⟨h,hr⟩
  obtain⟨k,rfl,hk⟩:=qA hr
  exact Bz gb pb pw pt ps lb cb lw cw lt ct ls cs sky st (k:Int) (eL n k) (edT n k%4) (eR n k) (mt n (edT n k)%4) w (fun v hv=>edge16 hn hk (g.to hv)) (fun v hv=>fsfit gb pb pw pt ps lb cb lw cw lt ct ls cs sky st false v (g.to hv) (by simp[hf]))
theorem fsopen{n:Nat}{pb pw:Option Addr}{lb lw lt ls:Nat}{B:Nat->Nat}{Wt:Nat->Int}(k:Nat)(w:World)(u gap:Nat)(hk:k<12*n*n)(hn:1<=n/\n<=32)(hf:fit4 n lb lw lt ls)(IB:IsFl w pb lb B)(IW:IsIn w pw lw Wt)(v:World):
  Calls prog 145 #[.agg #[.float .f64 (B (eL n k)),.int .i64 (Wt (eL n k)),.int .i64 (arC n (eL n k)),.float .f64 (B (eR n k)),.int .i64 (Wt (eR n k)),.int .i64 (arC n (eR n k)),.float .f64 gap,.float .f64 u]] v fun x w'=>x=.returned (.bool (opE n B Wt k))/\Below v.heap.size v w':=by
 obtain⟨c1,c2,_⟩:=BC hn.1 hk
 obtain⟨f1,f2,f3,f4⟩:=hf
 subst f1 f2
 exact eopen_at _ _ _ _ _ _ _ _ v (IB _ c1).1 (IB _ c2).1 (IW _ c1).1.2 (IW _ c2).1.2 (cO n _).2 (cO n _).2
theorem speedC:SpeedC:=by
 intro n gb sd dt gr dr lim rv pr lr cr pb lb cb B pw lw cw Wt pt lt ct ps ls cs Sp sky st e w hn g IB IW IS hp he
 refine⟨fun h4=> ?_,fun h4=> ?_⟩
 ·obtain⟨hf,hr⟩:=h4
  obtain⟨k,rfl,hk⟩:=qA hr
  obtain⟨c1,c2,_⟩:=BC hn.1 hk
  have f4:=hf.2.2.2
  have hB: ∀c,c<6*n*n->B c<18446744073709551616:=fun c hc=>(IB c (by have:=hf.1;omega)).1
  have hW: ∀c,c<6*n*n->Wt c<=9223372036854775807:=fun c hc=>(IW c (by have:=hf.2.1;omega)).1.2
  have EO:Hid (∀v,Ab w v->_):=fun v hv=>fsedge cb cw pt ct cs sky st hn (g.to hv) (IB.below hv) (IW.below hv) (IS.below hv) hf hk
  have OP:Hid (∀v,_):=fun v=>fsopen k w (Sp k) (gpE n k) hk hn hf IB IW v
  rw[Int.toNat_natCast]
  unfold spE
  by_cases o:opE n B Wt k=true
  ·rw[if_pos o]
   rw[o]at OP
   have l1:=vU (hB _ c1) (hW _ c1) (cO n (eL n k)).2
   have l2:=vU (hB _ c2) (hW _ c2) (cO n (eR n k)).2
   have d1:dpB (Wt (eL n k)) (arC n (eL n k))<18446744073709551616:=by have:=pA (hW _ c1) (cO n (eL n k)).2;omega
   have d2:dpB (Wt (eR n k)) (arC n (eR n k))<18446744073709551616:=by have:=pA (hW _ c2) (cO n (eR n k)).2;omega
   have su:Sp k<18446744073709551616:=(IS k (by omega)).1
   exact speed_go _ sd dt gr dr lim rv pr lr cr pb pw pt ps lb cb lw cw lt ct ls cs sky st (k:Int) _ _ _ _ _ _ _ _ _ (fun r=>IsC r (u1B gr dt (Sp k) (lvC n B Wt (eL n k)) (lvC n B Wt (eR n k)) (gpE n k))) (fun r=>r<18446744073709551616/\fgt r 0=fgt (Fc.hB (dpC n Wt (eL n k)) (dpC n Wt (eR n k))) 0/\(fgt r 0=true->r=Fc.hB (dpC n Wt (eL n k)) (dpC n Wt (eR n k)))) w EO OP
    (fun v=>Fl _ _ _ _ _ _ _ _ sd dt gr dr lim rv pr lr cr _ _ v hp.1 hp.2.1 su l1 l2 (fsgp_lt hn hk) (fun z=>oM _ _ _ z (hB _ c1) (hW _ c1) (cO n _).2) (fun z=>oM _ _ _ z (hB _ c2) (hW _ c2) (cO n _).2))
    (fun v=>Fk _ _ _ _ _ _ _ _ _ _ v d1 d2 (fun z=>uM _ _ _ z (hW _ c1) (cO n _).2) (fun z=>uM _ _ _ z (hW _ c2) (cO n _).2))
    (fun u h iu ih v=>by
     obtain⟨h1,h2,h3⟩:=ih
     cases q:fgt h 0
     ·rw[q]at h2
      have e:spB gr dt dr (Sp k) (lvC n B Wt (eL n k)) (lvC n B Wt (eR n k)) (dpC n Wt (eL n k)) (dpC n Wt (eR n k)) (gpE n k)=0:=by unfold spB;rw[if_neg (by rw[<- h2];decide)]
      rw[e]
      exact Bx sd dt gr dr lim rv pr lr cr u h v q
     ·exact zI sd dt gr dr lim rv pr lr cr u h _ _ _ _ _ _ v hp.1 hp.2.2 h1 iu (h3 q) q)
  ·rw[if_neg o]
   have o2:opE n B Wt k=false:=by simpa using o
   rw[o2]at OP
   exact BA _ sd dt gr dr lim rv pr lr cr pb pw pt ps lb cb lw cw lt ct ls cs sky st (k:Int) _ _ _ _ _ _ _ _ w EO OP
 ·exact speed_no _ sd dt gr dr lim rv pr lr cr pb pw pt ps lb cb lw cw lt ct ls cs sky st e w (fun v hv=>fsnone pb pw lb lw cb cw pt lt ct ps ls cs sky st e hn (g.to hv) h4)
theorem speedsC:SpeedsC:=by
 intro n gb sd dt gr dr lim rv pr lr cr pb lb cb B pw lw cw Wt pt lt ct ps ls cs Sp sky st w hn g IB IW IS hp
 have en:=n6_16 hn
 refine⟨fun hf=> ?_,fun hf=> ?_⟩
 ·refine(Fq gb sd dt gr dr lim rv pr lr cr pb pw pt ps lb cb lw cw lt ct ls cs sky st (12*n*n) (spE n gr dt dr B Wt Sp) w (by omega) (fun v hv=>fsfit gb pb pw pt ps lb cb lw cw lt ct ls cs sky st true v (g.to hv) (by simp[hf])) (fun v hv=>bZ (g.to hv)) (fun c hc v hv=> ?_)).mono ?_
  ·have h:=(speedC n gb sd dt gr dr lim rv pr lr cr pb lb cb B pw lw cw Wt pt lt ct ps ls cs Sp sky st (c:Nat) v hn (g.to hv) (IB.below hv) (IW.below hv) (IS.below hv) hp (by omega)).1 ⟨hf,iU hc⟩
   rw[Int.toNat_natCast]at h
   exact h
  ·rintro e w' ⟨b,rfl,hb,ro,hB⟩
   exact⟨_,rfl,hb,row_ownF ro hB (Nat.le_refl _) (by unfold maxLen;omega) (fun i hi=>rfl)⟩
 ·exact Fp gb sd dt gr dr lim rv pr lr cr pb pw pt ps lb cb lw cw lt ct ls cs sky st w (fun v hv=>fsfit gb pb pw pt ps lb cb lw cw lt ct ls cs sky st false v (g.to hv) (by simp[hf]))
end Fc
end
section
open Go.RowKit Tf Cu
attribute [local go_sem] aJ aK aN aO aP aQ aV aD
theorem uO(gb:Nat)(pb pw pt ps:Option Addr)(lb cb lw cw lt ct ls cs:Nat)(sky st:Int)(M N:Nat)(q:Bool)(w:World)
  (hq:(((lb:Int)==(M:Int))=false/\q=false)\/(((lb:Int)==(M:Int))=true/\((lw:Int)==(M:Int))=false/\q=false)\/(((lb:Int)==(M:Int))=true/\((lw:Int)==(M:Int))=true/\((lt:Int)==(M:Int))=false/\q=false)\/(((lb:Int)==(M:Int))=true/\((lw:Int)==(M:Int))=true/\((lt:Int)==(M:Int))=true/\((ls:Int)==(N:Int))=q))
  (CC:Hid (∀v,Ab w v->Calls prog 7 #[(.pointer (some ⟨gb,0,none⟩))] v fun e w'=>e=.returned (.int .i64 (M:Nat))/\Below v.heap.size v w'))
  (CE:Hid (∀v,Ab w v->Calls prog 8 #[(.pointer (some ⟨gb,0,none⟩))] v fun e w'=>e=.returned (.int .i64 (N:Nat))/\Below v.heap.size v w')):
  Calls prog 112 #[(.pointer (some ⟨gb,0,none⟩)),.agg #[.slice pb lb cb,.slice pw lw cw,.slice pt lt ct,.slice ps ls cs,.int .i64 sky,.int .i64 st]] w fun e w'=>e=.returned (.bool q)/\Below w.heap.size w w':=by
 obtain⟨A0,RO⟩:=aL w (.cells #[.slice pb lb cb,.slice pw lw cw,.slice pt lt ct,.slice ps ls cs,.int .i64 sky,.int .i64 st] 48)
 go_enter func112,ntmps112
 go_wp2_with fail
 refine(CC.out _ A0.out).mono ?_
 rintro e9 v1 ⟨rfl,b1⟩
 have A1:Hid (Ab w v1):=A0.out.call b1
 have R1:Hid (v1.heap[w.heap.size]? =some (.cells #[.slice pb lb cb,.slice pw lw cw,.slice pt lt ct,.slice ps ls cs,.int .i64 sky,.int .i64 st] 48)):=Ab.heap b1 RO.out
 clear b1 A0 RO
 go_upto_region 2 with fail
 obtain⟨gs,hgs⟩:=aB w.heap.size
 rw[hgs]at R1 ⊢
 clear hgs
 rcases hq with⟨q1,rfl⟩ | ⟨q1,q2,rfl⟩ | ⟨q1,q2,q3,rfl⟩ | ⟨q1,q2,q3,q4⟩
 ·obtain⟨UU,E,hF1,hF2⟩:=cls v1
  have HU:=hid hF2
  have HU1:=hid hF1
  have HX:Hid (∀u,Ab w (E u)):=fun u=>Ab.trans A1.out (hF1 u)
  have s0: ∀u,(E u).cell? ⟨gs,0,none⟩=some (.slice pb lb cb):=fun u=>aA 0 ((hF1 u).heap R1.out)
  have s1: ∀u,(E u).cell? ⟨gs,1,none⟩=some (.slice pw lw cw):=fun u=>aA 1 ((hF1 u).heap R1.out)
  have s2: ∀u,(E u).cell? ⟨gs,2,none⟩=some (.slice pt lt ct):=fun u=>aA 2 ((hF1 u).heap R1.out)
  have s3: ∀u,(E u).cell? ⟨gs,3,none⟩=some (.slice ps ls cs):=fun u=>aA 3 ((hF1 u).heap R1.out)
  have DD0:=HU.out _ (Ab.refl v1).drew
  clear hF1 hF2
  refine aM E (by kernel_rfl) (by kernel_rfl) DD0 ?_
  repeat(go_big_quiet_step (first
   | (with_reducible rfl)
   | (go_at_call 8;exact aH HU HU1 (CE.out _ (HX.out _)))))
  refine wpQuiet_nil ?_
  intro z hwz
  obtain⟨u0,hu⟩:=hwz
  have AZ:Hid (Ab w z):=by rw[hu];exact HX.out u0
  clear hu u0
  clear HU HU1 HX DD0 s0 s1 s2 s3
  clear E UU
  go_wp2
  go_ret
  exact⟨rfl,AZ.out⟩
 ·obtain⟨UU,E,hF1,hF2⟩:=cls v1
  have HU:=hid hF2
  have HU1:=hid hF1
  have HX:Hid (∀u,Ab w (E u)):=fun u=>Ab.trans A1.out (hF1 u)
  have s0: ∀u,(E u).cell? ⟨gs,0,none⟩=some (.slice pb lb cb):=fun u=>aA 0 ((hF1 u).heap R1.out)
  have s1: ∀u,(E u).cell? ⟨gs,1,none⟩=some (.slice pw lw cw):=fun u=>aA 1 ((hF1 u).heap R1.out)
  have s2: ∀u,(E u).cell? ⟨gs,2,none⟩=some (.slice pt lt ct):=fun u=>aA 2 ((hF1 u).heap R1.out)
  have s3: ∀u,(E u).cell? ⟨gs,3,none⟩=some (.slice ps ls cs):=fun u=>aA 3 ((hF1 u).heap R1.out)
  have DD0:=HU.out _ (Ab.refl v1).drew
  clear hF1 hF2
  refine aM E (by kernel_rfl) (by kernel_rfl) DD0 ?_
  repeat(go_big_quiet_step (first
   | (with_reducible rfl)
   | (go_at_call 8;exact aH HU HU1 (CE.out _ (HX.out _)))))
  refine wpQuiet_nil ?_
  intro z hwz
  obtain⟨u0,hu⟩:=hwz
  have AZ:Hid (Ab w z):=by rw[hu];exact HX.out u0
  clear hu u0
  clear HU HU1 HX DD0 s0 s1 s2 s3
  clear E UU
  go_wp2
  go_ret
  exact⟨rfl,AZ.out⟩
 ·obtain⟨UU,E,hF1,hF2⟩:=cls v1
  have HU:=hid hF2
  have HU1:=hid hF1
  have HX:Hid (∀u,Ab w (E u)):=fun u=>Ab.trans A1.out (hF1 u)
  have s0: ∀u,(E u).cell? ⟨gs,0,none⟩=some (.slice pb lb cb):=fun u=>aA 0 ((hF1 u).heap R1.out)
  have s1: ∀u,(E u).cell? ⟨gs,1,none⟩=some (.slice pw lw cw):=fun u=>aA 1 ((hF1 u).heap R1.out)
  have s2: ∀u,(E u).cell? ⟨gs,2,none⟩=some (.slice pt lt ct):=fun u=>aA 2 ((hF1 u).heap R1.out)
  have s3: ∀u,(E u).cell? ⟨gs,3,none⟩=some (.slice ps ls cs):=fun u=>aA 3 ((hF1 u).heap R1.out)
  have DD0:=HU.out _ (Ab.refl v1).drew
  clear hF1 hF2
  refine aM E (by kernel_rfl) (by kernel_rfl) DD0 ?_
  repeat(go_big_quiet_step (first
   | (with_reducible rfl)
   | (go_at_call 8;exact aH HU HU1 (CE.out _ (HX.out _)))))
  refine wpQuiet_nil ?_
  intro z hwz
  obtain⟨u0,hu⟩:=hwz
  have AZ:Hid (Ab w z):=by rw[hu];exact HX.out u0
  clear hu u0
  clear HU HU1 HX DD0 s0 s1 s2 s3
  clear E UU
  go_wp2
  go_ret
  exact⟨rfl,AZ.out⟩
 ·obtain⟨UU,E,hF1,hF2⟩:=cls v1
  have HU:=hid hF2
  have HU1:=hid hF1
  have HX:Hid (∀u,Ab w (E u)):=fun u=>Ab.trans A1.out (hF1 u)
  have s0: ∀u,(E u).cell? ⟨gs,0,none⟩=some (.slice pb lb cb):=fun u=>aA 0 ((hF1 u).heap R1.out)
  have s1: ∀u,(E u).cell? ⟨gs,1,none⟩=some (.slice pw lw cw):=fun u=>aA 1 ((hF1 u).heap R1.out)
  have s2: ∀u,(E u).cell? ⟨gs,2,none⟩=some (.slice pt lt ct):=fun u=>aA 2 ((hF1 u).heap R1.out)
  have s3: ∀u,(E u).cell? ⟨gs,3,none⟩=some (.slice ps ls cs):=fun u=>aA 3 ((hF1 u).heap R1.out)
  have DD0:=HU.out _ (Ab.refl v1).drew
  clear hF1 hF2
  refine aM E (by kernel_rfl) (by kernel_rfl) DD0 ?_
  repeat(go_big_quiet_step (first
   | (with_reducible rfl)
   | (go_at_call 8;exact aH HU HU1 (CE.out _ (HX.out _)))))
  refine wpQuiet_nil ?_
  intro z hwz
  obtain⟨u0,hu⟩:=hwz
  have AZ:Hid (Ab w z):=by rw[hu];exact HX.out u0
  clear hu u0
  clear HU HU1 HX DD0 s0 s1 s2 s3
  clear E UU
  go_wp2
  go_ret
  exact⟨rfl,AZ.out⟩
theorem all13_no(gb:Nat)(sd:Int)(dt gr dr:Nat)(lim:Int)(rv:Bool)(pr:Option Addr)(lr cr:Nat)(pb pw pt ps:Option Addr)(lb cb lw cw lt ct ls cs:Nat)(sky st:Int)(w:World)
  (CF:Hid (∀v,Ab w v->Calls prog 112 #[(.pointer (some ⟨gb,0,none⟩)),.agg #[.slice pb lb cb,.slice pw lw cw,.slice pt lt ct,.slice ps ls cs,.int .i64 sky,.int .i64 st]] v fun e w'=>e=.returned (.bool false)/\Below v.heap.size v w')):
  Calls prog 74 #[(.pointer (some ⟨gb,0,none⟩)),.agg #[.int .i64 sd,.float .f64 dt,.float .f64 gr,.float .f64 dr,.int .i64 lim,.bool rv,.slice pr lr cr],.agg #[.slice pb lb cb,.slice pw lw cw,.slice pt lt ct,.slice ps ls cs,.int .i64 sky,.int .i64 st]] w fun e w'=>e=.returned (.tuple #[.slice none 0 0,.int .i64 1])/\Below w.heap.size w w':=by
 obtain⟨A0,RP,RO⟩:=cA w (.cells #[.int .i64 sd,.float .f64 dt,.float .f64 gr,.float .f64 dr,.int .i64 lim,.bool rv,.slice pr lr cr] 45) (.cells #[.slice pb lb cb,.slice pw lw cw,.slice pt lt ct,.slice ps ls cs,.int .i64 sky,.int .i64 st] 48)
 go_enter func74,ntmps74
 go_upto_region 3 with fail
 generalize hW:World.alloc (World.alloc w _) _=W at*
 obtain⟨gp,hgp⟩:=aB w.heap.size
 obtain⟨gs,hgs⟩:=aB (w.heap.size+1)
 rw[hgp]at RP
 rw[hgs]at RO
 rw[hgs,hgp]
 clear hgs hgp hW
 have s0:=aG RO.out
 go_wp2_with fail
 refine(CF.out _ A0.out).mono ?_
 rintro e9 z ⟨rfl,bz⟩
 have AB:Hid (Ab W z):=bz
 clear bz s0
 go_wp2
 go_ret2
 exact⟨rfl,A0.out.trans AB.out⟩
theorem all13_go(gb:Nat)(sd:Int)(dt gr dr:Nat)(lim:Int)(rv:Bool)(pr:Option Addr)(lr cr:Nat)(pb pw pt:Option Addr)(M cb cw ct sb so cs:Nat)(sky st:Int)(N:Nat)(Sp Dp Ln:Nat->Nat)(D:Nat->Int)(w:World)(hN:N<=1048576)
  (CF:Hid (∀v,Ab w v->Calls prog 112 #[(.pointer (some ⟨gb,0,none⟩)),.agg #[.slice pb M cb,.slice pw M cw,.slice pt M ct,.slice (some ⟨sb,so,none⟩) N cs,.int .i64 sky,.int .i64 st]] v fun e w'=>e=.returned (.bool true)/\Below v.heap.size v w'))
  (CE:Hid (∀v,Ab w v->Calls prog 8 #[(.pointer (some ⟨gb,0,none⟩))] v fun e w'=>e=.returned (.int .i64 (N:Nat))/\w'=v))
  (FSp:Hid (∀c,c<N-> ∀v,Ab w v->v.cell? ⟨sb,so+c,none⟩=some (.float .f64 (Sp c))))
  (CD:Hid (∀c,c<N-> ∀v,Ab w v->Calls prog 113 #[(.pointer (some ⟨gb,0,none⟩)),.int .i64 lim,.agg #[.slice pb M cb,.slice pw M cw,.slice pt M ct,.slice (some ⟨sb,so,none⟩) N cs,.int .i64 sky,.int .i64 st],.int .i64 (c:Nat),.float .f64 (Sp c)] v fun e w'=>e=.returned (.float .f64 (Dp c))/\Below v.heap.size v w'))
  (CL:Hid (∀c,c<N-> ∀v,Ab w v->Calls prog 15 #[(.pointer (some ⟨gb,0,none⟩)),.int .i64 (c:Nat)] v fun e w'=>e=.returned (.float .f64 (Ln c))/\Below v.heap.size v w'))
  (CQ:Hid (∀c,c<N-> ∀v:World,Calls prog 114 #[.float .f64 (Sp c),.float .f64 (Dp c),.float .f64 (Ln c),.float .f64 dt] v fun e w'=>e=.returned (.int .i64 (D c))/\Below v.heap.size v w')):
  Calls prog 74 #[(.pointer (some ⟨gb,0,none⟩)),.agg #[.int .i64 sd,.float .f64 dt,.float .f64 gr,.float .f64 dr,.int .i64 lim,.bool rv,.slice pr lr cr],.agg #[.slice pb M cb,.slice pw M cw,.slice pt M ct,.slice (some ⟨sb,so,none⟩) N cs,.int .i64 sky,.int .i64 st]] w fun e w'=> ∃b,e=.returned (.tuple #[.slice (some ⟨b,0,none⟩) N N,.int .i64 0])/\Below w.heap.size w w'/\w'.rowIs b 2 N (fun i=>.int .i64 (D i))/\w.heap.size<=b:=by
 have M1: ∀v:World,(Instr.makeSlice 46 (.int .i64 (N:Nat)) (.int .i64 (N:Nat))).run prog v=.ok (.slice (some ⟨v.heap.size,0,none⟩) N N) (v.alloc (Obj.cells (madeCells #[.int .i64 0] N) 2)):=fun v=>
  run_make_row' (P:=prog) 46 2 (.int .i64 0) 8 underlying46 eW rfl .i64 .i64 N (by omega) (by omega) v
 have HN:=hid hN
 clear hN
 obtain⟨A0,RP,RO⟩:=cA w (.cells #[.int .i64 sd,.float .f64 dt,.float .f64 gr,.float .f64 dr,.int .i64 lim,.bool rv,.slice pr lr cr] 45) (.cells #[.slice pb M cb,.slice pw M cw,.slice pt M ct,.slice (some ⟨sb,so,none⟩) N cs,.int .i64 sky,.int .i64 st] 48)
 go_enter func74,ntmps74
 go_upto_region 3 with fail
 generalize hW:World.alloc (World.alloc w _) _=W at*
 obtain⟨gp,hgp⟩:=aB w.heap.size
 obtain⟨gs,hgs⟩:=aB (w.heap.size+1)
 rw[hgp]at RP
 rw[hgs]at RO
 rw[hgs,hgp]
 clear hgs hgp hW
 obtain⟨s0,s1,s2,s3,s4,s5⟩:=aG RO.out
 go_wp2_with fail
 refine(CF.out _ A0.out).mono ?_
 rintro e9 z ⟨rfl,bz⟩
 have AB:Hid (Ab W z):=bz
 clear bz s0 s1 s2 s3 s4 s5
 have AZ:Hid (Ab w z):=A0.out.trans AB.out
 have RZ:Hid (z.heap[gs]? =some (.cells #[.slice pb M cb,.slice pw M cw,.slice pt M ct,.slice (some ⟨sb,so,none⟩) N cs,.int .i64 sky,.int .i64 st] 48)):=AB.out.heap RO.out
 have RQ:Hid (z.heap[gp]? =some (.cells #[.int .i64 sd,.float .f64 dt,.float .f64 gr,.float .f64 dr,.int .i64 lim,.bool rv,.slice pr lr cr] 45)):=AB.out.heap RP.out
 clear A0 RO RP AB
 go_wp2_with fail
 refine(CE.out _ AZ.out).mono ?_
 rintro e9 vq ⟨rfl,hvq⟩
 have hvq2:=hvq.symm
 subst hvq2
 have LZ:Hid (w.heap.size<=z.heap.size/\gs≠z.heap.size/\gp≠z.heap.size):=⟨AZ.out.size,by have:=lt_of_block RZ.out;omega,by have:=lt_of_block RQ.out;omega⟩
 have IN0:Hid (Ab w (z.alloc (Obj.cells (madeCells #[.int .i64 0] N) 2))/\(z.alloc (Obj.cells (madeCells #[.int .i64 0] N) 2)).heap[gs]? =some (.cells #[.slice pb M cb,.slice pw M cw,.slice pt M ct,.slice (some ⟨sb,so,none⟩) N cs,.int .i64 sky,.int .i64 st] 48)/\(z.alloc (Obj.cells (madeCells #[.int .i64 0] N) 2)).heap[gp]? =some (.cells #[.int .i64 sd,.float .f64 dt,.float .f64 gr,.float .f64 dr,.int .i64 lim,.bool rv,.slice pr lr cr] 45)/\(z.alloc (Obj.cells (madeCells #[.int .i64 0] N) 2)).rowIs z.heap.size 2 N (fun _=>.int .i64 0)):=⟨AZ.out.alloc _,Ab.heap (bl1 _ _) RZ.out,Ab.heap (bl1 _ _) RQ.out,World.rowIs_made _ _ _ _⟩
 go_upto_region 6 with fail
 generalize hV:World.alloc z _=V at*
 obtain⟨b,hb⟩:=aB z.heap.size
 rw[hb]at IN0 LZ ⊢
 clear hV hb AZ RZ RQ M1
 have IN:Hid (Ab w V/\V.heap[gs]? =some (.cells #[.slice pb M cb,.slice pw M cw,.slice pt M ct,.slice (some ⟨sb,so,none⟩) N cs,.int .i64 sky,.int .i64 st] 48)/\V.heap[gp]? =some (.cells #[.int .i64 sd,.float .f64 dt,.float .f64 gr,.float .f64 dr,.int .i64 lim,.bool rv,.slice pr lr cr] 45)/\V.rowIs b 2 N (fun i=>.int .i64 (if i<0 then D i else 0))):=⟨IN0.out.1,IN0.out.2.1,IN0.out.2.2.1,IN0.out.2.2.2.congr (fun i _=>by simp)⟩
 clear IN0
 have s3:=aA 3 IN.out.2.1
 go_wp2
 clear s3
 go_loopw [24] (fun iv wr=> ∃c:Nat,c<=N/\iv=.int .i64 (c:Nat)/\Ab w wr/\wr.heap[gs]? =some (.cells #[.slice pb M cb,.slice pw M cw,.slice pt M ct,.slice (some ⟨sb,so,none⟩) N cs,.int .i64 sky,.int .i64 st] 48)/\wr.heap[gp]? =some (.cells #[.int .i64 sd,.float .f64 dt,.float .f64 gr,.float .f64 dr,.int .i64 lim,.bool rv,.slice pr lr cr] 45)/\wr.rowIs b 2 N (fun i=>.int .i64 (if i<c then D i else 0))) (fun iv _=>N - (intOf iv).toNat)
 case atStart=>exact⟨0,by omega,rfl,IN.out⟩
 case round=>
  obtain⟨c,hc,rfl,a1,r1,r2,o1⟩:=hrel
  clear IN
  have AR:=hid a1
  have RR:=hid r1
  have RP:=hid r2
  have OO:=hid o1
  clear a1 r1 r2 o1
  by_cases hcN:c<N
  ·have HC:=hid hcN
   have hcI:(c:Int)<N:=by omega
   have hcB:(c:Int)<=1048576:=by have:=HN.out;omega
   obtain⟨x,hx⟩:=aB (Sp c)
   obtain⟨y,hy⟩:=aB (D c)
   obtain⟨dp,hdp⟩:=aB (Dp c)
   obtain⟨ln,hln⟩:=aB (Ln c)
   have CDc:=hid (CD.out c hcN)
   have CLc:=hid (CL.out c hcN)
   have CQc:=hid (CQ.out c hcN)
   rw[hx,hdp]at CDc
   rw[hln]at CLc
   rw[hx,hdp,hln,hy]at CQc
   have HX2:=hid hx
   have HY:=hid hy
   clear hx hy hdp hln hcN
   obtain⟨s0,s1,s2,s3,s4,s5⟩:=aG RR.out
   have p4:=aA 4 RP.out
   have sx:wr.cell? ⟨sb,so+c,none⟩=some (.float .f64 x):=(FSp.out c HC.out _ AR.out).trans (by rw[HX2.out])
   go_wp2_with fail
   refine(CDc.out _ AR.out).mono ?_
   rintro e9 v1 ⟨rfl,b1⟩
   have A1:Hid (Ab wr v1):=b1
   clear b1 s0 s1 s2 s3 s4 s5 p4 sx
   go_upto_region 10 with fail
   obtain⟨UU,E,hF1,hF2⟩:=cls v1
   have HU:=hid hF2
   have HU1:=hid hF1
   have HX:Hid (∀u,Ab wr (E u)):=fun u=>Ab.trans A1.out (hF1 u)
   have p1: ∀u,(E u).cell? ⟨gp,1,none⟩=some (.float .f64 dt):=fun u=>aA 1 ((A1.out.trans (hF1 u)).heap RP.out)
   have DD0:=HU.out _ (Ab.refl v1).drew
   clear hF1 hF2
   refine cH 11 E (by kernel_rfl) (by kernel_rfl) (by kernel_rfl) DD0 ?_
   simp only[List.take_succ_cons,List.take_zero,List.drop_succ_cons,List.drop_zero]
   repeat(go_big_quiet_step (first
    | (with_reducible rfl)
    | (go_at_call 15;exact aH HU HU1 (CLc.out _ (AR.out.trans (HX.out _))))
    | (go_at_call 114;exact aH HU HU1 (CQc.out _))))
   refine wpQuiet_nil ?_
   intro vz hwz
   obtain⟨u0,hu⟩:=hwz
   have AZ:Hid (Ab wr vz):=by rw[hu];exact HX.out u0
   clear hu u0
   clear HU HU1 HX DD0 p1
   clear E UU
   have OZ:=hid (rowIs.ab OO.out AZ.out)
   have xc:=OZ.out.cell HC.out
   have xf:=OZ.out.frozen c
   go_wp2
   refine⟨⟨c+1,by have:=HC.out;omega,by simp,(AR.out.trans AZ.out).setk LZ.out.1 _,?_,?_,(OZ.out.set c _).congr (fun i _=> ?_)⟩,by simp[intOf];have:=HC.out;omega⟩
   ·rw[aE LZ.out.2.1];exact AZ.out.heap RR.out
   ·rw[aE LZ.out.2.2];exact AZ.out.heap RP.out
   ·by_cases e:i=c
    ·simp[e,HY.out]
    ·by_cases l:i<c
     ·simp[e,l,show i<c+1 by omega]
     ·simp[e,l,show¬i<c+1 by omega]
  ·have e6:N=c:=by omega
   subst e6
   go_wp2
   go_ret2
   exact⟨b,rfl,AR.out,OO.out.congr (fun i hi=>by simp[hi]),LZ.out.1⟩
end
section
open Go.RowKit Tf Cu Go.Deep
attribute [local go_sem] aJ aK aN aO aP aQ aV aD
theorem quantaC:QuantaC:=by
 intro u d l t w hu hd hl ht
 obtain⟨r1,n1,h1,q1⟩:=fN (P:=prog) w u (qB u) d (qB d) (IsQ.self hu) (IsQ.self hd)
 obtain⟨r2,n2,h2,q2⟩:=fN (P:=prog) (w.drewN n1) r1 _ l (qB l) q1 (IsQ.self hl)
 obtain⟨r3,n3,h3,q3⟩:=fN (P:=prog) (w.drewN (n1+n2)) r2 _ t (qB t) q2 (IsQ.self ht)
 obtain⟨r4,n4,h4,q4⟩:=fN (P:=prog) (w.drewN (n1+n2+n3)) r3 _ 4742290407621132288 (qB 4742290407621132288) q3 (IsQ.self (by decide))
 have e:clampB r4 4503599627370496=qnB u d l t:=by
  rw[clampB_q q4,mlB_qq,Bv,Bv,Bv]
  rfl
 have CL:=hid (fun v=>clamp_at r4 4503599627370496 (qnB u d l t) v q4.1 (by decide) e)
 generalize qnB u d l t=z at*
 have AB:Hid (∀k,Ab w (w.drewN k)):=fun k=>(Ab.refl w).drewN k
 clear q1 q2 q3 q4 e hu hd hl ht
 go_enter func114,ntmps114
 go_wp2_with fail
 refine(CL.out _).mono ?_
 rintro e v ⟨rfl,n5,rfl⟩
 go_wp2
 go_ret
 exact⟨rfl,AB.out _⟩
end
end Go.Proofs.YtmhnilnaffjhmaaGreatDoor
