/-
  Some of the texts of this proof, one behind the other.
-/
import Derived.Deep.QuietTactic
import Derived.Test.YtaphajlpbgcfjaaGreatDoorMa18
set_option maxRecDepth 100000
set_option maxHeartbeats 400000000
namespace Go.Proofs.YtaphajlpbgcfjaaGreatDoor
open _root_.Go.Proofs.Tryz
section
open Go.RowKit Tf Cu Go.Deep Rl
attribute [local go_sem] aK aL aP aQ aR aV aW aF
namespace Fc
theorem gF(x:Nat)(w:World)(hx:x<18446744073709551616):Calls prog 166 #[.float .f64 x] w fun e w'=>e=.returned (.float .f64 (cuB x))/\w'=w:=by
 have CL:=hid (uG x w hx)
 have CN:=hid (bO x w hx)
 cases c1:fgt x 4652218415073722368
 ·cases c2:flt x 13875590451928498176
  ·cases c3:isN x
   ·have e:cuB x=canonB x:=by unfold cuB;rw[if_neg (by rw[c1];decide),if_neg (by rw[c2];decide),if_neg (by rw[c3];decide)]
    rw[e]
    have e4:(classB x==4)=false:=by
     have h:=cO.1 c3
     unfold classB
     split
     ·rfl
     ·split
      ·rfl
      ·split
       ·rfl
       ·rw[if_pos (by omega)];rfl
    clear e c3 hx
    generalize canonB x=y at*
    generalize classB x=c at*
    go_enter func166,ntmps166
    go_wp2_with fail
    refine(CL.out).mono ?_
    rintro e w' ⟨rfl,rfl⟩
    go_wp2_with fail
    refine(CN.out).mono ?_
    rintro e w' ⟨rfl,rfl⟩
    go_wp2
    go_ret
    exact⟨rfl,rfl⟩
   ·have e:cuB x=0:=by unfold cuB;rw[if_neg (by rw[c1];decide),if_neg (by rw[c2];decide),if_pos c3]
    rw[e]
    have e4:(classB x==4)=true:=by
     have h:=bT.1 c3
     unfold classB
     rw[if_neg (by omega),if_neg (by omega),if_neg (by omega),if_neg (by omega)]
     rfl
    clear e c3 hx
    generalize classB x=c at*
    go_enter func166,ntmps166
    go_wp2_with fail
    refine(CL.out).mono ?_
    rintro e w' ⟨rfl,rfl⟩
    go_wp2
    go_ret
    exact⟨rfl,rfl⟩
  ·have e:cuB x=13875590451928498176:=by unfold cuB;rw[if_neg (by rw[c1];decide),if_pos c2]
   rw[e]
   clear e hx
   go_enter func166,ntmps166
   go_wp2
   go_ret
   exact⟨rfl,rfl⟩
 ·have e:cuB x=4652218415073722368:=by unfold cuB;rw[if_pos c1]
  rw[e]
  clear e hx
  go_enter func166,ntmps166
  go_wp2
  go_ret
  exact⟨rfl,rfl⟩
theorem Gx(bl br gap vu:Nat)(wl al wr ar:Int)(dl dv:Nat)(w:World)(h3:dl<18446744073709551616)(h4:dv<18446744073709551616)
  (DL:Hid (∀v,Calls prog 169 #[.agg #[.float .f64 bl,.int .i64 wl,.int .i64 al]] v fun e w'=>e=.returned (.float .f64 dl)/\Below v.heap.size v w'))
  (DR:Hid (∀v,Calls prog 169 #[.agg #[.float .f64 br,.int .i64 wr,.int .i64 ar]] v fun e w'=>e=.returned (.float .f64 dv)/\Below v.heap.size v w')):
  Calls prog 114 #[.agg #[.float .f64 bl,.int .i64 wl,.int .i64 al,.float .f64 br,.int .i64 wr,.int .i64 ar,.float .f64 gap,.float .f64 vu]] w fun e w'=>(∃r,e=.returned (.float .f64 r)/\r<18446744073709551616/\fgt r 0=fgt (hB dl dv) 0/\(fgt r 0=true->r=hB dl dv))/\Below w.heap.size w w':=by
 obtain⟨W_W0,R0⟩:=aO w (.cells #[.float .f64 bl,.int .i64 wl,.int .i64 al,.float .f64 br,.int .i64 wr,.int .i64 ar,.float .f64 gap,.float .f64 vu] 151)
 go_enter func114,ntmps114
 go_upto_region 1 with fail
 generalize hW:World.alloc w _=W0 at*
 obtain⟨g1,hg1⟩:=aD w.heap.size
 rw[hg1]at R0 ⊢
 clear hg1 hW
 obtain⟨UU,E,hF1,hF2⟩:=cls W0
 have HU:=hid hF2
 have HU1:=hid hF1
 have HX:Hid (∀u,Ab w (E u)):=fun u=>W_W0.out.trans (hF1 u)
 have x0: ∀u,(E u).cell? ⟨g1,0,none⟩=some (.float .f64 bl):=fun u=>aA 0 ((hF1 u).heap R0.out)
 have x1: ∀u,(E u).cell? ⟨g1,1,none⟩=some (.int .i64 wl):=fun u=>aA 1 ((hF1 u).heap R0.out)
 have x2: ∀u,(E u).cell? ⟨g1,2,none⟩=some (.int .i64 al):=fun u=>aA 2 ((hF1 u).heap R0.out)
 have x3: ∀u,(E u).cell? ⟨g1,3,none⟩=some (.float .f64 br):=fun u=>aA 3 ((hF1 u).heap R0.out)
 have x4: ∀u,(E u).cell? ⟨g1,4,none⟩=some (.int .i64 wr):=fun u=>aA 4 ((hF1 u).heap R0.out)
 have x5: ∀u,(E u).cell? ⟨g1,5,none⟩=some (.int .i64 ar):=fun u=>aA 5 ((hF1 u).heap R0.out)
 have x6: ∀u,(E u).cell? ⟨g1,6,none⟩=some (.float .f64 gap):=fun u=>aA 6 ((hF1 u).heap R0.out)
 have x7: ∀u,(E u).cell? ⟨g1,7,none⟩=some (.float .f64 vu):=fun u=>aA 7 ((hF1 u).heap R0.out)
 have DD0:=HU.out _ (Ab.refl W0).drew
 clear hF1 hF2
 refine cM 6 E (by kernel_rfl) (by kernel_rfl) (by kernel_rfl) DD0 ?_
 simp only[List.take_succ_cons,List.take_zero,List.drop_succ_cons,List.drop_zero]
 repeat(go_big_quiet_step (first
  | (with_reducible rfl)
  | (go_at_call_of 169 bl;exact aH HU HU1 (DL.out _))
  | (go_at_call_of 169 br;exact aH HU HU1 (DR.out _))))
 refine wpQuiet_nil ?_
 intro z hwz
 obtain⟨u0,hu⟩:=hwz
 have AZ:Hid (Ab W0 z):=by rw[hu];exact HU1.out u0
 clear hu u0
 clear HU HU1 DD0 HX x0 x1 x2 x3 x4 x5 x6 x7
 clear E UU
 have W_z:Hid (Ab w z):=W_W0.out.trans AZ.out
 obtain⟨rs,n1,hr1,i1,_⟩:=add_o (P:=prog) z dl dv h3 h4
 obtain⟨rh,n2,hr2,i2⟩:=Ak (P:=prog) (z.drewN n1) 4602678819172646912 rs (by decide) i1.1
 have HH:=hid (h_o h3 h4 i1 i2)
 have HL:=hid i2.1
 clear i1 i2 h3 h4
 go_wp2
 go_ret
 exact⟨⟨rh,rfl,HL.out,HH.out.1,HH.out.2⟩,Ab.drewN W_z.out _⟩
theorem Gy(bl br gap vu:Nat)(wl al wr ar:Int)(sd:Int)(dt gr dr:Nat)(lim:Int)(rv:Bool)(pr:Option Addr)(lr cr:Nat)(ll lv:Nat)(w:World)(ht:dt<18446744073709551616)(hG:gr<18446744073709551616)(hu:vu<18446744073709551616)(h1:ll<18446744073709551616)(h2:lv<18446744073709551616)(hg:gap<18446744073709551616)
  (LL:Hid (∀v,Calls prog 168 #[.agg #[.float .f64 bl,.int .i64 wl,.int .i64 al]] v fun e w'=>e=.returned (.float .f64 ll)/\Below v.heap.size v w'))
  (LR:Hid (∀v,Calls prog 168 #[.agg #[.float .f64 br,.int .i64 wr,.int .i64 ar]] v fun e w'=>e=.returned (.float .f64 lv)/\Below v.heap.size v w')):
  Calls prog 113 #[.agg #[.float .f64 bl,.int .i64 wl,.int .i64 al,.float .f64 br,.int .i64 wr,.int .i64 ar,.float .f64 gap,.float .f64 vu],.agg #[.int .i64 sd,.float .f64 dt,.float .f64 gr,.float .f64 dr,.int .i64 lim,.bool rv,.slice pr lr cr]] w fun e w'=>(∃r,e=.returned (.float .f64 r)/\IsC r (u1B gr dt vu ll lv gap))/\Below w.heap.size w w':=by
 obtain⟨W_W0,RE,RP⟩:=bJ w (.cells #[.float .f64 bl,.int .i64 wl,.int .i64 al,.float .f64 br,.int .i64 wr,.int .i64 ar,.float .f64 gap,.float .f64 vu] 151) (.cells #[.int .i64 sd,.float .f64 dt,.float .f64 gr,.float .f64 dr,.int .i64 lim,.bool rv,.slice pr lr cr] 25)
 go_enter func113,ntmps113
 go_upto_region 1 with fail
 generalize hW:World.alloc (World.alloc w _) _=W0 at*
 obtain⟨ge,hge⟩:=aD w.heap.size
 obtain⟨gp,hgp⟩:=aD (w.heap.size+1)
 rw[hgp]at RP ⊢
 rw[hge]at RE ⊢
 clear hge hgp hW
 have HB:=hid (And.intro ht (And.intro hG (And.intro hu (And.intro h1 (And.intro h2 hg)))))
 clear ht hG hu h1 h2 hg
 refine Rl.lY (fun i v=>match i with
   | 0=>v=.pointer (some ⟨gp,2,none⟩)
   | 1=>v=.float .f64 gr
   | 2=>v=.pointer (some ⟨gp,1,none⟩)
   | 3=>v=.float .f64 dt
   | 4=> ∃r,v=.float .f64 r/\IsQ r (mlB gr dt)
   | 5=>v=.pointer (some ⟨ge,3,none⟩)
   | 6=>v=.agg #[.float .f64 br,.int .i64 wr,.int .i64 ar]
   | 7=>v=.float .f64 lv
   | 8=>v=.pointer (some ⟨ge,0,none⟩)
   | 9=>v=.agg #[.float .f64 bl,.int .i64 wl,.int .i64 al]
   | 10=>v=.float .f64 ll
   | 11=> ∃r,v=.float .f64 r/\IsC r (sbB lv ll)
   | 12=> ∃r,v=.float .f64 r/\r<18446744073709551616/\dvB r gap=puB gr dt ll lv gap
   | 13=>v=.pointer (some ⟨ge,6,none⟩)
   | 14=>v=.float .f64 gap
   | 15=> ∃r,v=.float .f64 r/\IsC r (puB gr dt ll lv gap)
   | _=> ∃r,v=.float .f64 r/\IsC r (puB gr dt ll lv gap)) (fun w9=>Ab W0 w9) (by kernel_rfl) (by kernel_rfl) (by kernel_rfl) (Ab.refl W0).drew ?_ ?_
 ·refine Rl.aY 1 (fun v=>v=.pointer (some ⟨gp,2,none⟩)) rfl rfl ?_ ?_
  ·intro x v hC hR
   clear hR
   intro K hK
   simp only[putAll,Act.put,List.setIfInBounds_toArray,List.set_cons_zero,List.set_cons_succ,Nat.reduceAdd,Nat.zero_add]at hK ⊢
   go_simp
   exact hK.out _ _ rfl hC
  refine Rl.aY 2 (fun v=>v=.float .f64 gr) rfl rfl ?_ ?_
  ·intro x v hC hR
   have h0:x 0=.pointer (some ⟨gp,2,none⟩):=hR 0 (by kernel_rfl)
   have y0:=aA 2 (hC.heap RP.out)
   clear hR
   intro K hK
   simp only[putAll,Act.put,List.setIfInBounds_toArray,List.set_cons_zero,List.set_cons_succ,Nat.reduceAdd,Nat.zero_add]at hK ⊢
   simp only[h0]at hK ⊢
   go_simp
   exact hK.out _ _ rfl hC
  refine Rl.aY 3 (fun v=>v=.pointer (some ⟨gp,1,none⟩)) rfl rfl ?_ ?_
  ·intro x v hC hR
   clear hR
   intro K hK
   simp only[putAll,Act.put,List.setIfInBounds_toArray,List.set_cons_zero,List.set_cons_succ,Nat.reduceAdd,Nat.zero_add]at hK ⊢
   go_simp
   exact hK.out _ _ rfl hC
  refine Rl.aY 4 (fun v=>v=.float .f64 dt) rfl rfl ?_ ?_
  ·intro x v hC hR
   have h0:x 2=.pointer (some ⟨gp,1,none⟩):=hR 2 (by kernel_rfl)
   have y0:=aA 1 (hC.heap RP.out)
   clear hR
   intro K hK
   simp only[putAll,Act.put,List.setIfInBounds_toArray,List.set_cons_zero,List.set_cons_succ,Nat.reduceAdd,Nat.zero_add]at hK ⊢
   simp only[h0]at hK ⊢
   go_simp
   exact hK.out _ _ rfl hC
  refine Rl.aY 5 (fun v=> ∃r,v=.float .f64 r/\IsQ r (mlB gr dt)) rfl rfl ?_ ?_
  ·intro x v hC hR
   have h0:x 1=.float .f64 gr:=hR 1 (by kernel_rfl)
   have h1:x 3=.float .f64 dt:=hR 3 (by kernel_rfl)
   obtain⟨r,k,hr,hi⟩:=Ak (P:=prog) v gr dt HB.out.2.1 HB.out.1
   have HI:=hid hi
   clear hi
   clear hR
   intro K hK
   simp only[putAll,Act.put,List.setIfInBounds_toArray,List.set_cons_zero,List.set_cons_succ,Nat.reduceAdd,Nat.zero_add]at hK ⊢
   simp only[h0,h1]at hK ⊢
   go_simp
   exact hK.out _ _ ⟨r,rfl,HI.out⟩ (Ab.drewN hC k)
  refine Rl.aY 6 (fun v=>v=.pointer (some ⟨ge,3,none⟩)) rfl rfl ?_ ?_
  ·intro x v hC hR
   clear hR
   intro K hK
   simp only[putAll,Act.put,List.setIfInBounds_toArray,List.set_cons_zero,List.set_cons_succ,Nat.reduceAdd,Nat.zero_add]at hK ⊢
   go_simp
   exact hK.out _ _ rfl hC
  refine Rl.aY 7 (fun v=>v=.agg #[.float .f64 br,.int .i64 wr,.int .i64 ar]) rfl rfl ?_ ?_
  ·intro x v hC hR
   have h0:x 5=.pointer (some ⟨ge,3,none⟩):=hR 5 (by kernel_rfl)
   have y0:=aA 3 (hC.heap RE.out)
   have y1:=aA 4 (hC.heap RE.out)
   have y2:=aA 5 (hC.heap RE.out)
   clear hR
   intro K hK
   simp only[putAll,Act.put,List.setIfInBounds_toArray,List.set_cons_zero,List.set_cons_succ,Nat.reduceAdd,Nat.zero_add]at hK ⊢
   simp only[h0]at hK ⊢
   go_simp
   exact hK.out _ _ rfl hC
  refine Rl.aY 8 (fun v=>v=.float .f64 lv) rfl rfl ?_ ?_
  ·intro x v hC hR
   have h0:x 6=.agg #[.float .f64 br,.int .i64 wr,.int .i64 ar]:=hR 6 (by kernel_rfl)
   clear hR
   intro K hK
   simp only[putAll,Act.put,List.setIfInBounds_toArray,List.set_cons_zero,List.set_cons_succ,Nat.reduceAdd,Nat.zero_add]at hK ⊢
   simp only[h0]at hK ⊢
   go_simp
   refine(LR.out _).mono ?_
   rintro e w8 ⟨rfl,kb⟩
   exact hK.out _ _ rfl (hC.call kb)
  refine Rl.aY 9 (fun v=>v=.pointer (some ⟨ge,0,none⟩)) rfl rfl ?_ ?_
  ·intro x v hC hR
   clear hR
   intro K hK
   simp only[putAll,Act.put,List.setIfInBounds_toArray,List.set_cons_zero,List.set_cons_succ,Nat.reduceAdd,Nat.zero_add]at hK ⊢
   go_simp
   exact hK.out _ _ rfl hC
  refine Rl.aY 10 (fun v=>v=.agg #[.float .f64 bl,.int .i64 wl,.int .i64 al]) rfl rfl ?_ ?_
  ·intro x v hC hR
   have h0:x 8=.pointer (some ⟨ge,0,none⟩):=hR 8 (by kernel_rfl)
   have y0:=aA 0 (hC.heap RE.out)
   have y1:=aA 1 (hC.heap RE.out)
   have y2:=aA 2 (hC.heap RE.out)
   clear hR
   intro K hK
   simp only[putAll,Act.put,List.setIfInBounds_toArray,List.set_cons_zero,List.set_cons_succ,Nat.reduceAdd,Nat.zero_add]at hK ⊢
   simp only[h0]at hK ⊢
   go_simp
   exact hK.out _ _ rfl hC
  refine Rl.aY 11 (fun v=>v=.float .f64 ll) rfl rfl ?_ ?_
  ·intro x v hC hR
   have h0:x 9=.agg #[.float .f64 bl,.int .i64 wl,.int .i64 al]:=hR 9 (by kernel_rfl)
   clear hR
   intro K hK
   simp only[putAll,Act.put,List.setIfInBounds_toArray,List.set_cons_zero,List.set_cons_succ,Nat.reduceAdd,Nat.zero_add]at hK ⊢
   simp only[h0]at hK ⊢
   go_simp
   refine(LL.out _).mono ?_
   rintro e w8 ⟨rfl,kb⟩
   exact hK.out _ _ rfl (hC.call kb)
  refine Rl.aY 12 (fun v=> ∃r,v=.float .f64 r/\IsC r (sbB lv ll)) rfl rfl ?_ ?_
  ·intro x v hC hR
   have h0:x 7=.float .f64 lv:=hR 7 (by kernel_rfl)
   have h1:x 10=.float .f64 ll:=hR 10 (by kernel_rfl)
   obtain⟨r,k,hr,hi⟩:=sub_o (P:=prog) v lv ll HB.out.2.2.2.2.1 HB.out.2.2.2.1
   have HI:=hid hi
   clear hi
   clear hR
   intro K hK
   simp only[putAll,Act.put,List.setIfInBounds_toArray,List.set_cons_zero,List.set_cons_succ,Nat.reduceAdd,Nat.zero_add]at hK ⊢
   simp only[h0,h1]at hK ⊢
   go_simp
   exact hK.out _ _ ⟨r,rfl,HI.out⟩ (Ab.drewN hC k)
  refine Rl.aY 13 (fun v=> ∃r,v=.float .f64 r/\r<18446744073709551616/\dvB r gap=puB gr dt ll lv gap) rfl rfl ?_ ?_
  ·intro x v hC hR
   have h0: ∃r,x 4=.float .f64 r/\IsQ r (mlB gr dt):=hR 4 (by kernel_rfl)
   have h5: ∃r,x 11=.float .f64 r/\IsC r (sbB lv ll):=hR 11 (by kernel_rfl)
   obtain⟨r1,e1,i1⟩:=h0
   obtain⟨rd,e2,i2⟩:=h5
   obtain⟨r,k,hr,hi⟩:=Ak (P:=prog) v r1 rd i1.1 i2.1
   have HP:=hid (pu_o HB.out.2.1 HB.out.1 HB.out.2.2.2.1 HB.out.2.2.2.2.1 HB.out.2.2.2.2.2 i1 i2 hi)
   have HL:=hid hi.1
   clear i1 i2 hi
   clear hR
   intro K hK
   simp only[putAll,Act.put,List.setIfInBounds_toArray,List.set_cons_zero,List.set_cons_succ,Nat.reduceAdd,Nat.zero_add]at hK ⊢
   simp only[e1,e2]at hK ⊢
   go_simp
   exact hK.out _ _ ⟨r,rfl,HL.out,HP.out⟩ (Ab.drewN hC k)
  refine Rl.aY 14 (fun v=>v=.pointer (some ⟨ge,6,none⟩)) rfl rfl ?_ ?_
  ·intro x v hC hR
   clear hR
   intro K hK
   simp only[putAll,Act.put,List.setIfInBounds_toArray,List.set_cons_zero,List.set_cons_succ,Nat.reduceAdd,Nat.zero_add]at hK ⊢
   go_simp
   exact hK.out _ _ rfl hC
  refine Rl.aY 15 (fun v=>v=.float .f64 gap) rfl rfl ?_ ?_
  ·intro x v hC hR
   have h0:x 13=.pointer (some ⟨ge,6,none⟩):=hR 13 (by kernel_rfl)
   have y0:=aA 6 (hC.heap RE.out)
   clear hR
   intro K hK
   simp only[putAll,Act.put,List.setIfInBounds_toArray,List.set_cons_zero,List.set_cons_succ,Nat.reduceAdd,Nat.zero_add]at hK ⊢
   simp only[h0]at hK ⊢
   go_simp
   exact hK.out _ _ rfl hC
  refine Rl.aY 16 (fun v=> ∃r,v=.float .f64 r/\IsC r (puB gr dt ll lv gap)) rfl rfl ?_ ?_
  ·intro x v hC hR
   have h0: ∃r,x 12=.float .f64 r/\r<18446744073709551616/\dvB r gap=puB gr dt ll lv gap:=hR 12 (by kernel_rfl)
   have h5:x 14=.float .f64 gap:=hR 14 (by kernel_rfl)
   obtain⟨r1,e1,i1,i2⟩:=h0
   obtain⟨r,k,hr,hi⟩:=gB (P:=prog) v r1 gap
   rw[i2]at hi
   have HI:=hid hi
   clear i1 i2 hi
   clear hR
   intro K hK
   simp only[putAll,Act.put,List.setIfInBounds_toArray,List.set_cons_zero,List.set_cons_succ,Nat.reduceAdd,Nat.zero_add]at hK ⊢
   simp only[e1,h5]at hK ⊢
   go_simp
   exact hK.out _ _ ⟨r,rfl,HI.out⟩ (Ab.drewN hC k)
  refine Rl.aY 17 (fun v=> ∃r,v=.float .f64 r/\IsC r (puB gr dt ll lv gap)) rfl rfl ?_ ?_
  ·intro x v hC hR
   have h0: ∃r,x 15=.float .f64 r/\IsC r (puB gr dt ll lv gap):=hR 15 (by kernel_rfl)
   obtain⟨r1,e1,i1⟩:=h0
   have HI:=hid i1
   clear i1
   clear hR
   intro K hK
   simp only[putAll,Act.put,List.setIfInBounds_toArray,List.set_cons_zero,List.set_cons_succ,Nat.reduceAdd,Nat.zero_add]at hK ⊢
   simp only[e1]at hK ⊢
   go_simp
   exact hK.out _ _ ⟨r1,rfl,HI.out⟩ hC
  exact Rl.xL
 ·intro x z hz hR
  have h0: ∃r,x 16=.float .f64 r/\IsC r (puB gr dt ll lv gap):=hR 16 (by decide)
  clear hR
  obtain⟨r3,e3,i3⟩:=h0
  have y7:=aA 7 (Ab.heap hz RE.out)
  obtain⟨r,k,hr,hi⟩:=sub_o (P:=prog) z vu r3 HB.out.2.2.1 i3.1
  rw[u1_o HB.out.2.2.1 i3]at hi
  have HI:=hid hi
  have WZ:Hid (Ab w z):=W_W0.out.trans hz
  clear hi i3 hz
  simp only[putAll,Act.put,List.setIfInBounds_toArray,List.set_cons_zero,List.set_cons_succ,Nat.reduceAdd,Nat.zero_add]
  go_wp2
  go_ret
  exact⟨⟨r,rfl,HI.out⟩,Ab.drewN WZ.out k⟩
theorem Cy(sd:Int)(dt gr dr:Nat)(lim:Int)(rv:Bool)(pr:Option Addr)(lr cr:Nat)(u h:Nat)(w:World)(q:fgt h 0=false):Calls prog 112 #[.agg #[.int .i64 sd,.float .f64 dt,.float .f64 gr,.float .f64 dr,.int .i64 lim,.bool rv,.slice pr lr cr],.float .f64 u,.float .f64 h] w fun e w'=>e=.returned (.float .f64 0)/\Below w.heap.size w w':=by
 have A0:=iU (bl1 w (.cells #[.int .i64 sd,.float .f64 dt,.float .f64 gr,.float .f64 dr,.int .i64 lim,.bool rv,.slice pr lr cr] 25))
 go_enter func112,ntmps112
 go_wp2
 go_ret
 exact⟨rfl,A0.out⟩
theorem Al(sd:Int)(dt gr dr:Nat)(lim:Int)(rv:Bool)(pr:Option Addr)(lr cr:Nat)(u h vu ll lv dl dv gap:Nat)(w:World)(ht:dt<18446744073709551616)(hD:dr<18446744073709551616)(hL:h<18446744073709551616)(i4:IsC u (u1B gr dt vu ll lv gap))(hh:h=hB dl dv)(q:fgt h 0=true):Calls prog 112 #[.agg #[.int .i64 sd,.float .f64 dt,.float .f64 gr,.float .f64 dr,.int .i64 lim,.bool rv,.slice pr lr cr],.float .f64 u,.float .f64 h] w fun e w'=>e=.returned (.float .f64 (spB gr dt dr vu ll lv dl dv gap))/\Below w.heap.size w w':=by
 have I4:=hid i4
 have AB:=hid (fun v=>vY u v i4.1)
 have HH:=hid (And.intro hh q)
 have HB:=hid (And.intro ht (And.intro hD hL))
 clear i4 hh ht hD hL
 obtain⟨y,hy⟩:=aD (spB gr dt dr vu ll lv dl dv gap)
 rw[hy]
 have HY:=hid hy
 clear hy
 obtain⟨W_W0,RP⟩:=aO w (.cells #[.int .i64 sd,.float .f64 dt,.float .f64 gr,.float .f64 dr,.int .i64 lim,.bool rv,.slice pr lr cr] 25)
 go_enter func112,ntmps112
 go_upto_region 2 with fail
 generalize hW:World.alloc w _=W0 at*
 obtain⟨gp,hgp⟩:=aD w.heap.size
 rw[hgp]at RP ⊢
 clear hgp hW q
 refine Rl.lY (fun i v=>match i with
   | 0=>v=.float .f64 u
   | 1=>v=.pointer (some ⟨gp,3,none⟩)
   | 2=>v=.float .f64 dr
   | 3=>v=.pointer (some ⟨gp,1,none⟩)
   | 4=>v=.float .f64 dt
   | 5=> ∃r,v=.float .f64 r/\IsQ r (mlB dr dt)
   | 6=>v=.float .f64 u
   | 7=>v=.float .f64 (mg u)
   | 8=> ∃r,v=.float .f64 r/\r<18446744073709551616/\dvB r h=dvB (mlB (mlB dr dt) (mg (u1B gr dt vu ll lv gap))) h
   | 9=>v=.float .f64 h
   | 10=> ∃r,v=.float .f64 r/\IsC r (dvB (mlB (mlB dr dt) (mg (u1B gr dt vu ll lv gap))) h)
   | 11=> ∃r9 r8,v=.float .f64 r9/\r9<18446744073709551616/\IsC r8 (dvB (mlB (mlB dr dt) (mg (u1B gr dt vu ll lv gap))) h)/\(Ieee.double.add 4607182418800017408 r8=some r9\/(Ieee.double.add 4607182418800017408 r8=none/\isN r9=true))
   | 12=> ∃r,v=.float .f64 r/\r<18446744073709551616/\cuB r=spB gr dt dr vu ll lv dl dv gap
   | 13=>v=.float .f64 y
   | _=>v=.float .f64 y) (fun w9=>Ab W0 w9) (by kernel_rfl) (by kernel_rfl) (by kernel_rfl) (Ab.refl W0).drew ?_ ?_
 ·refine Rl.aY 1 (fun v=>v=.float .f64 u) rfl rfl ?_ ?_
  ·intro x v hC hR
   clear hR
   intro K hK
   simp only[putAll,Act.put,List.setIfInBounds_toArray,List.set_cons_zero,List.set_cons_succ,Nat.reduceAdd,Nat.zero_add]at hK ⊢
   go_simp
   exact hK.out _ _ rfl hC
  refine Rl.aY 2 (fun v=>v=.pointer (some ⟨gp,3,none⟩)) rfl rfl ?_ ?_
  ·intro x v hC hR
   clear hR
   intro K hK
   simp only[putAll,Act.put,List.setIfInBounds_toArray,List.set_cons_zero,List.set_cons_succ,Nat.reduceAdd,Nat.zero_add]at hK ⊢
   go_simp
   exact hK.out _ _ rfl hC
  refine Rl.aY 3 (fun v=>v=.float .f64 dr) rfl rfl ?_ ?_
  ·intro x v hC hR
   have h0:x 1=.pointer (some ⟨gp,3,none⟩):=hR 1 (by kernel_rfl)
   have y0:=aA 3 (hC.heap RP.out)
   clear hR
   intro K hK
   simp only[putAll,Act.put,List.setIfInBounds_toArray,List.set_cons_zero,List.set_cons_succ,Nat.reduceAdd,Nat.zero_add]at hK ⊢
   simp only[h0]at hK ⊢
   go_simp
   exact hK.out _ _ rfl hC
  refine Rl.aY 4 (fun v=>v=.pointer (some ⟨gp,1,none⟩)) rfl rfl ?_ ?_
  ·intro x v hC hR
   clear hR
   intro K hK
   simp only[putAll,Act.put,List.setIfInBounds_toArray,List.set_cons_zero,List.set_cons_succ,Nat.reduceAdd,Nat.zero_add]at hK ⊢
   go_simp
   exact hK.out _ _ rfl hC
  refine Rl.aY 5 (fun v=>v=.float .f64 dt) rfl rfl ?_ ?_
  ·intro x v hC hR
   have h0:x 3=.pointer (some ⟨gp,1,none⟩):=hR 3 (by kernel_rfl)
   have y0:=aA 1 (hC.heap RP.out)
   clear hR
   intro K hK
   simp only[putAll,Act.put,List.setIfInBounds_toArray,List.set_cons_zero,List.set_cons_succ,Nat.reduceAdd,Nat.zero_add]at hK ⊢
   simp only[h0]at hK ⊢
   go_simp
   exact hK.out _ _ rfl hC
  refine Rl.aY 6 (fun v=> ∃r,v=.float .f64 r/\IsQ r (mlB dr dt)) rfl rfl ?_ ?_
  ·intro x v hC hR
   have h0:x 2=.float .f64 dr:=hR 2 (by kernel_rfl)
   have h1:x 4=.float .f64 dt:=hR 4 (by kernel_rfl)
   obtain⟨r,k,hr,hi⟩:=Ak (P:=prog) v dr dt HB.out.2.1 HB.out.1
   have HI:=hid hi
   clear hi
   clear hR
   intro K hK
   simp only[putAll,Act.put,List.setIfInBounds_toArray,List.set_cons_zero,List.set_cons_succ,Nat.reduceAdd,Nat.zero_add]at hK ⊢
   simp only[h0,h1]at hK ⊢
   go_simp
   exact hK.out _ _ ⟨r,rfl,HI.out⟩ (Ab.drewN hC k)
  refine Rl.aY 7 (fun v=>v=.float .f64 u) rfl rfl ?_ ?_
  ·intro x v hC hR
   clear hR
   intro K hK
   simp only[putAll,Act.put,List.setIfInBounds_toArray,List.set_cons_zero,List.set_cons_succ,Nat.reduceAdd,Nat.zero_add]at hK ⊢
   go_simp
   exact hK.out _ _ rfl hC
  refine Rl.aY 8 (fun v=>v=.float .f64 (mg u)) rfl rfl ?_ ?_
  ·intro x v hC hR
   have h0:x 6=.float .f64 u:=hR 6 (by kernel_rfl)
   clear hR
   intro K hK
   simp only[putAll,Act.put,List.setIfInBounds_toArray,List.set_cons_zero,List.set_cons_succ,Nat.reduceAdd,Nat.zero_add]at hK ⊢
   simp only[h0]at hK ⊢
   go_simp
   refine(AB.out _).mono ?_
   rintro e w8 ⟨rfl,hw8⟩
   have hw9:=hw8.symm
   subst hw9
   exact hK.out _ _ rfl hC
  refine Rl.aY 9 (fun v=> ∃r,v=.float .f64 r/\r<18446744073709551616/\dvB r h=dvB (mlB (mlB dr dt) (mg (u1B gr dt vu ll lv gap))) h) rfl rfl ?_ ?_
  ·intro x v hC hR
   have h0: ∃r,x 5=.float .f64 r/\IsQ r (mlB dr dt):=hR 5 (by kernel_rfl)
   have h5:x 7=.float .f64 (mg u):=hR 7 (by kernel_rfl)
   obtain⟨r1,e1,i1⟩:=h0
   obtain⟨r,k,hr,hi⟩:=Ak (P:=prog) v r1 (mg u) i1.1 (wT u)
   have HP:=hid (dg_o HB.out.2.1 HB.out.1 HB.out.2.2 i1 (wT u) (mag_o I4.out) hi)
   have HL:=hid hi.1
   clear i1 hi
   clear hR
   intro K hK
   simp only[putAll,Act.put,List.setIfInBounds_toArray,List.set_cons_zero,List.set_cons_succ,Nat.reduceAdd,Nat.zero_add]at hK ⊢
   simp only[e1,h5]at hK ⊢
   go_simp
   exact hK.out _ _ ⟨r,rfl,HL.out,HP.out⟩ (Ab.drewN hC k)
  refine Rl.aY 10 (fun v=>v=.float .f64 h) rfl rfl ?_ ?_
  ·intro x v hC hR
   clear hR
   intro K hK
   simp only[putAll,Act.put,List.setIfInBounds_toArray,List.set_cons_zero,List.set_cons_succ,Nat.reduceAdd,Nat.zero_add]at hK ⊢
   go_simp
   exact hK.out _ _ rfl hC
  refine Rl.aY 11 (fun v=> ∃r,v=.float .f64 r/\IsC r (dvB (mlB (mlB dr dt) (mg (u1B gr dt vu ll lv gap))) h)) rfl rfl ?_ ?_
  ·intro x v hC hR
   have h0: ∃r,x 8=.float .f64 r/\r<18446744073709551616/\dvB r h=dvB (mlB (mlB dr dt) (mg (u1B gr dt vu ll lv gap))) h:=hR 8 (by kernel_rfl)
   have h5:x 9=.float .f64 h:=hR 9 (by kernel_rfl)
   obtain⟨r1,e1,i1,i2⟩:=h0
   obtain⟨r,k,hr,hi⟩:=gB (P:=prog) v r1 h
   rw[i2]at hi
   have HI:=hid hi
   clear i1 i2 hi
   clear hR
   intro K hK
   simp only[putAll,Act.put,List.setIfInBounds_toArray,List.set_cons_zero,List.set_cons_succ,Nat.reduceAdd,Nat.zero_add]at hK ⊢
   simp only[e1,h5]at hK ⊢
   go_simp
   exact hK.out _ _ ⟨r,rfl,HI.out⟩ (Ab.drewN hC k)
  refine Rl.aY 12 (fun v=> ∃r9 r8,v=.float .f64 r9/\r9<18446744073709551616/\IsC r8 (dvB (mlB (mlB dr dt) (mg (u1B gr dt vu ll lv gap))) h)/\(Ieee.double.add 4607182418800017408 r8=some r9\/(Ieee.double.add 4607182418800017408 r8=none/\isN r9=true))) rfl rfl ?_ ?_
  ·intro x v hC hR
   have h0: ∃r,x 10=.float .f64 r/\IsC r (dvB (mlB (mlB dr dt) (mg (u1B gr dt vu ll lv gap))) h):=hR 10 (by kernel_rfl)
   obtain⟨r1,e1,i1⟩:=h0
   obtain⟨r,k,hr,hi,hj⟩:=add_o (P:=prog) v 4607182418800017408 r1 (by decide) i1.1
   have HI:=hid (And.intro hi.1 (And.intro i1 hj))
   clear i1 hi hj
   clear hR
   intro K hK
   simp only[putAll,Act.put,List.setIfInBounds_toArray,List.set_cons_zero,List.set_cons_succ,Nat.reduceAdd,Nat.zero_add]at hK ⊢
   simp only[e1]at hK ⊢
   go_simp
   exact hK.out _ _ ⟨r,r1,rfl,HI.out⟩ (Ab.drewN hC k)
  refine Rl.aY 13 (fun v=> ∃r,v=.float .f64 r/\r<18446744073709551616/\cuB r=spB gr dt dr vu ll lv dl dv gap) rfl rfl ?_ ?_
  ·intro x v hC hR
   have h5:x 0=.float .f64 u:=hR 0 (by kernel_rfl)
   have h0: ∃r9 r8,x 11=.float .f64 r9/\r9<18446744073709551616/\IsC r8 (dvB (mlB (mlB dr dt) (mg (u1B gr dt vu ll lv gap))) h)/\(Ieee.double.add 4607182418800017408 r8=some r9\/(Ieee.double.add 4607182418800017408 r8=none/\isN r9=true)):=hR 11 (by kernel_rfl)
   obtain⟨r9,r8,e1,i9,i8,j9⟩:=h0
   obtain⟨r,k,hr,hi⟩:=gB (P:=prog) v u r9
   have HI:=hid (And.intro hi.1 (sp_o (dl:=dl) (dr:=dv) I4.out HH.out.1 HH.out.2 i8 i9 j9 hi))
   clear i8 i9 j9 hi
   clear hR
   intro K hK
   simp only[putAll,Act.put,List.setIfInBounds_toArray,List.set_cons_zero,List.set_cons_succ,Nat.reduceAdd,Nat.zero_add]at hK ⊢
   simp only[h5,e1]at hK ⊢
   go_simp
   exact hK.out _ _ ⟨r,rfl,HI.out⟩ (Ab.drewN hC k)
  refine Rl.aY 14 (fun v=>v=.float .f64 y) rfl rfl ?_ ?_
  ·intro x v hC hR
   have h0: ∃r,x 12=.float .f64 r/\r<18446744073709551616/\cuB r=spB gr dt dr vu ll lv dl dv gap:=hR 12 (by kernel_rfl)
   obtain⟨r1,e1,i1,i2⟩:=h0
   have KP:=hid (fun v9=>gF r1 v9 i1)
   rw[i2,HY.out]at KP
   clear i1 i2
   clear hR
   intro K hK
   simp only[putAll,Act.put,List.setIfInBounds_toArray,List.set_cons_zero,List.set_cons_succ,Nat.reduceAdd,Nat.zero_add]at hK ⊢
   simp only[e1]at hK ⊢
   go_simp
   refine(KP.out _).mono ?_
   rintro e w8 ⟨rfl,hw8⟩
   have hw9:=hw8.symm
   subst hw9
   exact hK.out _ _ rfl hC
  refine Rl.aY 15 (fun v=>v=.float .f64 y) rfl rfl ?_ ?_
  ·intro x v hC hR
   have h0:x 13=.float .f64 y:=hR 13 (by kernel_rfl)
   clear hR
   intro K hK
   simp only[putAll,Act.put,List.setIfInBounds_toArray,List.set_cons_zero,List.set_cons_succ,Nat.reduceAdd,Nat.zero_add]at hK ⊢
   simp only[h0]at hK ⊢
   go_simp
   exact hK.out _ _ rfl hC
  exact Rl.xL
 ·intro x z hz hR
  have h0:x 14=.float .f64 y:=hR 14 (by decide)
  clear hR
  have WZ:Hid (Ab w z):=W_W0.out.trans hz
  clear hz
  simp only[putAll,Act.put,List.setIfInBounds_toArray,List.set_cons_zero,List.set_cons_succ,Nat.reduceAdd,Nat.zero_add,h0]
  go_wp2
  go_ret
  exact⟨rfl,WZ.out⟩
end Fc
end
section
open Go.RowKit Tf Cu Go.Deep Rl
attribute [local go_sem] aK aL aP aQ aR aV aW aF
namespace Fc
theorem ffits_at(gb:Nat)(pb pw pt ps:Option Addr)(lb cb lw cw lt ct ls cs:Nat)(sky st:Int)(M N:Nat)(q:Bool)(w:World)
  (hq:(((lb:Int)==(M:Int))=false/\q=false)\/(((lb:Int)==(M:Int))=true/\((lw:Int)==(M:Int))=false/\q=false)\/(((lb:Int)==(M:Int))=true/\((lw:Int)==(M:Int))=true/\((lt:Int)==(M:Int))=false/\q=false)\/(((lb:Int)==(M:Int))=true/\((lw:Int)==(M:Int))=true/\((lt:Int)==(M:Int))=true/\((ls:Int)==(N:Int))=q))
  (CC:Hid (∀v,Ab w v->Calls prog 28 #[(.pointer (some ⟨gb,0,none⟩))] v fun e w'=>e=.returned (.int .i64 (M:Nat))/\Below v.heap.size v w'))
  (CE:Hid (∀v,Ab w v->Calls prog 32 #[(.pointer (some ⟨gb,0,none⟩))] v fun e w'=>e=.returned (.int .i64 (N:Nat))/\Below v.heap.size v w')):
  Calls prog 58 #[(.pointer (some ⟨gb,0,none⟩)),.agg #[.slice pb lb cb,.slice pw lw cw,.slice pt lt ct,.slice ps ls cs,.int .i64 sky,.int .i64 st]] w fun e w'=>e=.returned (.bool q)/\Below w.heap.size w w':=by
 obtain⟨A0,RO⟩:=aO w (.cells #[.slice pb lb cb,.slice pw lw cw,.slice pt lt ct,.slice ps ls cs,.int .i64 sky,.int .i64 st] 29)
 go_enter func58,ntmps58
 go_wp2_with fail
 refine(CC.out _ A0.out).mono ?_
 rintro e9 v1 ⟨rfl,b1⟩
 have A1:Hid (Ab w v1):=A0.out.call b1
 have R1:Hid (v1.heap[w.heap.size]? =some (.cells #[.slice pb lb cb,.slice pw lw cw,.slice pt lt ct,.slice ps ls cs,.int .i64 sky,.int .i64 st] 29)):=Ab.heap b1 RO.out
 clear b1 A0 RO
 go_upto_region 2 with fail
 obtain⟨gs,hgs⟩:=aD w.heap.size
 rw[hgs]at R1 ⊢
 clear hgs
 rcases hq with⟨q1,rfl⟩ | ⟨q1,q2,rfl⟩ | ⟨q1,q2,q3,rfl⟩ | ⟨q1,q2,q3,q4⟩
 ·obtain⟨UU,E,hF1,hF2⟩:=cls v1
  have HU:=hid hF2
  have HU1:=hid hF1
  have HX:Hid (∀u,Ab w (E u)):=fun u=>Ab.trans A1.out (hF1 u)
  have s0: ∀u,(E u).cell? ⟨gs,0,none⟩=some (.slice pb lb cb):=fun u=>aA 0 ((hF1 u).heap R1.out)
  have s1: ∀u,(E u).cell? ⟨gs,1,none⟩=some (.slice pw lw cw):=fun u=>aA 1 ((hF1 u).heap R1.out)
  have s2: ∀u,(E u).cell? ⟨gs,2,none⟩=some (.slice pt lt ct):=fun u=>aA 2 ((hF1 u).heap R1.out)
  have s3: ∀u,(E u).cell? ⟨gs,3,none⟩=some (.slice ps ls cs):=fun u=>aA 3 ((hF1 u).heap R1.out)
  have DD0:=HU.out _ (Ab.refl v1).drew
  clear hF1 hF2
  refine aJ E (by kernel_rfl) (by kernel_rfl) DD0 ?_
  repeat(go_big_quiet_step (first
   | (with_reducible rfl)
   | (go_at_call 32;exact aH HU HU1 (CE.out _ (HX.out _)))))
  refine wpQuiet_nil ?_
  intro z hwz
  obtain⟨u0,hu⟩:=hwz
  have AZ:Hid (Ab w z):=by rw[hu];exact HX.out u0
  clear hu u0
  clear HU HU1 HX DD0 s0 s1 s2 s3
  clear E UU
  go_wp2
  go_ret
  exact⟨rfl,AZ.out⟩
 ·obtain⟨UU,E,hF1,hF2⟩:=cls v1
  have HU:=hid hF2
  have HU1:=hid hF1
  have HX:Hid (∀u,Ab w (E u)):=fun u=>Ab.trans A1.out (hF1 u)
  have s0: ∀u,(E u).cell? ⟨gs,0,none⟩=some (.slice pb lb cb):=fun u=>aA 0 ((hF1 u).heap R1.out)
  have s1: ∀u,(E u).cell? ⟨gs,1,none⟩=some (.slice pw lw cw):=fun u=>aA 1 ((hF1 u).heap R1.out)
  have s2: ∀u,(E u).cell? ⟨gs,2,none⟩=some (.slice pt lt ct):=fun u=>aA 2 ((hF1 u).heap R1.out)
  have s3: ∀u,(E u).cell? ⟨gs,3,none⟩=some (.slice ps ls cs):=fun u=>aA 3 ((hF1 u).heap R1.out)
  have DD0:=HU.out _ (Ab.refl v1).drew
  clear hF1 hF2
  refine aJ E (by kernel_rfl) (by kernel_rfl) DD0 ?_
  repeat(go_big_quiet_step (first
   | (with_reducible rfl)
   | (go_at_call 32;exact aH HU HU1 (CE.out _ (HX.out _)))))
  refine wpQuiet_nil ?_
  intro z hwz
  obtain⟨u0,hu⟩:=hwz
  have AZ:Hid (Ab w z):=by rw[hu];exact HX.out u0
  clear hu u0
  clear HU HU1 HX DD0 s0 s1 s2 s3
  clear E UU
  go_wp2
  go_ret
  exact⟨rfl,AZ.out⟩
 ·obtain⟨UU,E,hF1,hF2⟩:=cls v1
  have HU:=hid hF2
  have HU1:=hid hF1
  have HX:Hid (∀u,Ab w (E u)):=fun u=>Ab.trans A1.out (hF1 u)
  have s0: ∀u,(E u).cell? ⟨gs,0,none⟩=some (.slice pb lb cb):=fun u=>aA 0 ((hF1 u).heap R1.out)
  have s1: ∀u,(E u).cell? ⟨gs,1,none⟩=some (.slice pw lw cw):=fun u=>aA 1 ((hF1 u).heap R1.out)
  have s2: ∀u,(E u).cell? ⟨gs,2,none⟩=some (.slice pt lt ct):=fun u=>aA 2 ((hF1 u).heap R1.out)
  have s3: ∀u,(E u).cell? ⟨gs,3,none⟩=some (.slice ps ls cs):=fun u=>aA 3 ((hF1 u).heap R1.out)
  have DD0:=HU.out _ (Ab.refl v1).drew
  clear hF1 hF2
  refine aJ E (by kernel_rfl) (by kernel_rfl) DD0 ?_
  repeat(go_big_quiet_step (first
   | (with_reducible rfl)
   | (go_at_call 32;exact aH HU HU1 (CE.out _ (HX.out _)))))
  refine wpQuiet_nil ?_
  intro z hwz
  obtain⟨u0,hu⟩:=hwz
  have AZ:Hid (Ab w z):=by rw[hu];exact HX.out u0
  clear hu u0
  clear HU HU1 HX DD0 s0 s1 s2 s3
  clear E UU
  go_wp2
  go_ret
  exact⟨rfl,AZ.out⟩
 ·obtain⟨UU,E,hF1,hF2⟩:=cls v1
  have HU:=hid hF2
  have HU1:=hid hF1
  have HX:Hid (∀u,Ab w (E u)):=fun u=>Ab.trans A1.out (hF1 u)
  have s0: ∀u,(E u).cell? ⟨gs,0,none⟩=some (.slice pb lb cb):=fun u=>aA 0 ((hF1 u).heap R1.out)
  have s1: ∀u,(E u).cell? ⟨gs,1,none⟩=some (.slice pw lw cw):=fun u=>aA 1 ((hF1 u).heap R1.out)
  have s2: ∀u,(E u).cell? ⟨gs,2,none⟩=some (.slice pt lt ct):=fun u=>aA 2 ((hF1 u).heap R1.out)
  have s3: ∀u,(E u).cell? ⟨gs,3,none⟩=some (.slice ps ls cs):=fun u=>aA 3 ((hF1 u).heap R1.out)
  have DD0:=HU.out _ (Ab.refl v1).drew
  clear hF1 hF2
  refine aJ E (by kernel_rfl) (by kernel_rfl) DD0 ?_
  repeat(go_big_quiet_step (first
   | (with_reducible rfl)
   | (go_at_call 32;exact aH HU HU1 (CE.out _ (HX.out _)))))
  refine wpQuiet_nil ?_
  intro z hwz
  obtain⟨u0,hu⟩:=hwz
  have AZ:Hid (Ab w z):=by rw[hu];exact HX.out u0
  clear hu u0
  clear HU HU1 HX DD0 s0 s1 s2 s3
  clear E UU
  go_wp2
  go_ret
  exact⟨rfl,AZ.out⟩
theorem row8{w:World}{g:Nat}{a b c d e f i j x y z p q r s k:Value}{T:TypeId}(h:w.heap[g]? =some (.cells #[a,b,c,d,e,f,i,j] T)):
  ((((((((w.setCell ⟨g,0,none⟩ x).setCell ⟨g,1,none⟩ y).setCell ⟨g,2,none⟩ z).setCell ⟨g,3,none⟩ p).setCell ⟨g,4,none⟩ q).setCell ⟨g,5,none⟩ r).setCell ⟨g,6,none⟩ s).setCell ⟨g,7,none⟩ k).heap[g]? =some (.cells #[x,y,z,p,q,r,s,k] T):=by
 have h1:=aM (v:=x) (k:=0) h
 have h2:=aM (v:=y) (k:=1) h1
 have h3:=aM (v:=z) (k:=2) h2
 have h4:=aM (v:=p) (k:=3) h3
 have h5:=aM (v:=q) (k:=4) h4
 have h6:=aM (v:=r) (k:=5) h5
 have h7:=aM (v:=s) (k:=6) h6
 have h8:=aM (v:=k) (k:=7) h7
 simpa using h8
theorem vE(gb bb bo wb wo M cb cw:Nat)(pt ps:Option Addr)(lt ct ls cs:Nat)(sky st:Int)(c:Nat)(b:Nat)(wt aC:Int)(w:World)(hc:((c:Nat):Int)<M)
  (FB:Hid (∀v,Ab w v->v.cell? ⟨bb,bo+c,none⟩=some (.float .f64 b)))
  (FW:Hid (∀v,Ab w v->v.cell? ⟨wb,wo+c,none⟩=some (.int .i64 wt)))
  (AC:Hid (∀v,Ab w v->Calls prog 88 #[.pointer (some ⟨gb,0,none⟩),.int .i64 (c:Nat)] v fun e w'=>e=.returned (.int .i64 aC)/\Below v.heap.size v w')):
  Calls prog 162 #[.pointer (some ⟨gb,0,none⟩),.agg #[.slice (some ⟨bb,bo,none⟩) M cb,.slice (some ⟨wb,wo,none⟩) M cw,.slice pt lt ct,.slice ps ls cs,.int .i64 sky,.int .i64 st],.int .i64 (c:Nat)] w fun e w'=>e=.returned (.agg #[.float .f64 b,.int .i64 wt,.int .i64 aC])/\Below w.heap.size w w':=by
 obtain⟨W_W0,RS,RC⟩:=bJ w (.cells #[.slice (some ⟨bb,bo,none⟩) M cb,.slice (some ⟨wb,wo,none⟩) M cw,.slice pt lt ct,.slice ps ls cs,.int .i64 sky,.int .i64 st] 29) (.cells #[.float .f64 0,.int .i64 0,.int .i64 0] 149)
 have LG:Hid (w.heap.size<=w.heap.size+1):=Nat.le_succ _
 go_enter func162,ntmps162
 go_upto_region 1 with fail
 generalize hW:World.alloc (World.alloc w _) _=W0 at*
 obtain⟨gs,hgs⟩:=aD w.heap.size
 obtain⟨gc,hgc⟩:=aD (w.heap.size+1)
 rw[hgc]at RC LG ⊢
 rw[hgs]at RS ⊢
 clear hgs hgc hW
 obtain⟨UU,E,hF1,hF2⟩:=cls W0
 have HU:=hid hF2
 have HU1:=hid hF1
 have HX:Hid (∀u,Ab w (E u)):=fun u=>W_W0.out.trans (hF1 u)
 have x0: ∀u,(E u).cell? ⟨gs,0,none⟩=some (.slice (some ⟨bb,bo,none⟩) M cb):=fun u=>aA 0 ((hF1 u).heap RS.out)
 have x1: ∀u,(E u).cell? ⟨gs,1,none⟩=some (.slice (some ⟨wb,wo,none⟩) M cw):=fun u=>aA 1 ((hF1 u).heap RS.out)
 have xb: ∀u,(E u).cell? ⟨bb,bo+c,none⟩=some (.float .f64 b):=fun u=>FB.out _ (HX.out u)
 have xw: ∀u,(E u).cell? ⟨wb,wo+c,none⟩=some (.int .i64 wt):=fun u=>FW.out _ (HX.out u)
 have DD0:=HU.out _ (Ab.refl W0).drew
 clear hF1 hF2
 refine cM 14 E (by kernel_rfl) (by kernel_rfl) (by kernel_rfl) DD0 ?_
 simp only[List.take_succ_cons,List.take_zero,List.drop_succ_cons,List.drop_zero]
 repeat(go_big_quiet_step (first
  | (with_reducible rfl)
  | (go_at_call 88;exact aH HU HU1 (AC.out _ (HX.out _)))))
 refine wpQuiet_nil ?_
 intro z hwz
 obtain⟨u0,hu⟩:=hwz
 have AZ:Hid (Ab W0 z):=by rw[hu];exact HU1.out u0
 clear hu u0
 clear HU HU1 DD0 HX x0 x1 xb xw
 clear E UU
 have W_z:Hid (Ab w z):=W_W0.out.trans AZ.out
 have RZ:=hid (Ab.heap AZ.out RC.out)
 obtain⟨⟨o0,o1,o2⟩,o3,o4,o5⟩:=rowfacts RZ.out
 go_wp2
 refine bodyPost_ret ?_ rfl ⟨rfl,?_⟩
 ·exact results_cell_row results162 _ _ gc _ _ (0,0) _ rfl (lH RZ.out) underlying149 rfl (by kernel_rfl)
 ·exact((W_z.out.setk LG.out _).setk LG.out _).setk LG.out _
end Fc
end
section
open Go.RowKit Tf Cu Go.Deep Rl
attribute [local go_sem] aK aL aP aQ aR aV aW aF
namespace Fc
theorem Gz(gp:Value)(pb pw pt ps:Option Addr)(lb cb lw cw lt ct ls cs:Nat)(sky st:Int)(e:Int)(w:World)
  (EG:Hid (∀v,Ab w v->Calls prog 73 #[gp,.int .i64 e] v fun x w'=>x=.returned (.tuple #[.agg #[.int .i64 0,.int .i64 0,.int .i64 0,.int .i64 0],.bool false])/\Below v.heap.size v w')):
  Calls prog 110 #[gp,.agg #[.slice pb lb cb,.slice pw lw cw,.slice pt lt ct,.slice ps ls cs,.int .i64 sky,.int .i64 st],.int .i64 e] w fun x w'=>x=.returned (.tuple #[.agg #[.float .f64 0,.int .i64 0,.int .i64 0,.float .f64 0,.int .i64 0,.int .i64 0,.float .f64 0,.float .f64 0],.bool false])/\Below w.heap.size w w':=by
 obtain⟨W_W0,RS,RC⟩:=bJ w (.cells #[.slice pb lb cb,.slice pw lw cw,.slice pt lt ct,.slice ps ls cs,.int .i64 sky,.int .i64 st] 29) (.cells #[.float .f64 0,.int .i64 0,.int .i64 0,.float .f64 0,.int .i64 0,.int .i64 0,.float .f64 0,.float .f64 0] 151)
 have LG:Hid (w.heap.size<=w.heap.size+1):=Nat.le_succ _
 go_enter func110,ntmps110
 go_upto_region 1 with fail
 generalize hW:World.alloc (World.alloc w _) _=W0 at*
 obtain⟨gs,hgs⟩:=aD w.heap.size
 obtain⟨gc,hgc⟩:=aD (w.heap.size+1)
 rw[hgc]at RC LG ⊢
 rw[hgs]at RS ⊢
 clear hgs hgc hW
 go_wp2_with fail
 refine(EG.out _ W_W0.out).mono ?_
 rintro e9 v1 ⟨rfl,k1⟩
 have W_v1:Hid (Ab w v1):=W_W0.out.call k1
 have RS1:=hid (Ab.heap k1 RS.out)
 have RC1:=hid (Ab.heap k1 RC.out)
 clear k1 W_W0 RS RC
 go_upto_region 2 with fail
 have RE:=hid (heap_alloc_new v1 (.cells #[.int .i64 0,.int .i64 0,.int .i64 0,.int .i64 0] 116))
 have W_V:Hid (Ab w (v1.alloc (.cells #[.int .i64 0,.int .i64 0,.int .i64 0,.int .i64 0] 116))):=W_v1.out.trans (bl1 _ _)
 have RS2:Hid ((v1.alloc (.cells #[.int .i64 0,.int .i64 0,.int .i64 0,.int .i64 0] 116)).heap[gs]? =some (.cells #[.slice pb lb cb,.slice pw lw cw,.slice pt lt ct,.slice ps ls cs,.int .i64 sky,.int .i64 st] 29)):=Ab.heap (bl1 _ _) RS1.out
 have RC2:Hid ((v1.alloc (.cells #[.int .i64 0,.int .i64 0,.int .i64 0,.int .i64 0] 116)).heap[gc]? =some (.cells #[.float .f64 0,.int .i64 0,.int .i64 0,.float .f64 0,.int .i64 0,.int .i64 0,.float .f64 0,.float .f64 0] 151)):=Ab.heap (bl1 _ _) RC1.out
 generalize hV:v1.alloc (.cells #[.int .i64 0,.int .i64 0,.int .i64 0,.int .i64 0] 116)=V at*
 obtain⟨ge,hge⟩:=aD v1.heap.size
 rw[hge]at RE ⊢
 clear hV hge W_v1 RS1 RC1
 have o0:=aA 0 RC2.out
 have q0:=aG RC2.out 0
 have o1:=aA 1 RC2.out
 have q1:=aG RC2.out 1
 have o2:=aA 2 RC2.out
 have q2:=aG RC2.out 2
 have o3:=aA 3 RC2.out
 have q3:=aG RC2.out 3
 have o4:=aA 4 RC2.out
 have q4:=aG RC2.out 4
 have o5:=aA 5 RC2.out
 have q5:=aG RC2.out 5
 have o6:=aA 6 RC2.out
 have q6:=aG RC2.out 6
 have o7:=aA 7 RC2.out
 have q7:=aG RC2.out 7
 go_wp2
 refine bodyPost_ret ?_ rfl ⟨rfl,?_⟩
 ·exact dA results110 _ _ gc _ _ (0,0) _ _ rfl rfl (row8 RC2.out) underlying151 rfl (by kernel_rfl)
 ·exact((((((((W_V.out.setk LG.out _).setk LG.out _).setk LG.out _).setk LG.out _).setk LG.out _).setk LG.out _).setk LG.out _).setk LG.out _)
theorem Cz(gb:Nat)(pb pw pt ps:Option Addr)(lb cb lw cw lt ct ls cs:Nat)(sky st:Int)(e:Int)(lc s1 rc s2:Nat)(w:World)
  (EG:Hid (∀v,Ab w v->Calls prog 73 #[.pointer (some ⟨gb,0,none⟩),.int .i64 e] v fun x w'=>x=.returned (.tuple #[.agg #[.int .i64 (lc:Nat),.int .i64 (s1:Nat),.int .i64 (rc:Nat),.int .i64 (s2:Nat)],.bool true])/\Below v.heap.size v w'))
  (CF:Hid (∀v,Ab w v->Calls prog 58 #[.pointer (some ⟨gb,0,none⟩),.agg #[.slice pb lb cb,.slice pw lw cw,.slice pt lt ct,.slice ps ls cs,.int .i64 sky,.int .i64 st]] v fun x w'=>x=.returned (.bool false)/\Below v.heap.size v w')):
  Calls prog 110 #[.pointer (some ⟨gb,0,none⟩),.agg #[.slice pb lb cb,.slice pw lw cw,.slice pt lt ct,.slice ps ls cs,.int .i64 sky,.int .i64 st],.int .i64 e] w fun x w'=>x=.returned (.tuple #[.agg #[.float .f64 0,.int .i64 0,.int .i64 0,.float .f64 0,.int .i64 0,.int .i64 0,.float .f64 0,.float .f64 0],.bool false])/\Below w.heap.size w w':=by
 obtain⟨W_W0,RS,RC⟩:=bJ w (.cells #[.slice pb lb cb,.slice pw lw cw,.slice pt lt ct,.slice ps ls cs,.int .i64 sky,.int .i64 st] 29) (.cells #[.float .f64 0,.int .i64 0,.int .i64 0,.float .f64 0,.int .i64 0,.int .i64 0,.float .f64 0,.float .f64 0] 151)
 have LG:Hid (w.heap.size<=w.heap.size+1):=Nat.le_succ _
 go_enter func110,ntmps110
 go_upto_region 1 with fail
 generalize hW:World.alloc (World.alloc w _) _=W0 at*
 obtain⟨gs,hgs⟩:=aD w.heap.size
 obtain⟨gc,hgc⟩:=aD (w.heap.size+1)
 rw[hgc]at RC LG ⊢
 rw[hgs]at RS ⊢
 clear hgs hgc hW
 go_wp2_with fail
 refine(EG.out _ W_W0.out).mono ?_
 rintro e9 v1 ⟨rfl,k1⟩
 have W_v1:Hid (Ab w v1):=W_W0.out.call k1
 have RS1:=hid (Ab.heap k1 RS.out)
 have RC1:=hid (Ab.heap k1 RC.out)
 clear k1 W_W0 RS RC
 go_upto_region 2 with fail
 have RE:=hid (heap_alloc_new v1 (.cells #[.int .i64 (lc:Nat),.int .i64 (s1:Nat),.int .i64 (rc:Nat),.int .i64 (s2:Nat)] 116))
 have W_V:Hid (Ab w (v1.alloc (.cells #[.int .i64 (lc:Nat),.int .i64 (s1:Nat),.int .i64 (rc:Nat),.int .i64 (s2:Nat)] 116))):=W_v1.out.trans (bl1 _ _)
 have RS2:Hid ((v1.alloc (.cells #[.int .i64 (lc:Nat),.int .i64 (s1:Nat),.int .i64 (rc:Nat),.int .i64 (s2:Nat)] 116)).heap[gs]? =some (.cells #[.slice pb lb cb,.slice pw lw cw,.slice pt lt ct,.slice ps ls cs,.int .i64 sky,.int .i64 st] 29)):=Ab.heap (bl1 _ _) RS1.out
 have RC2:Hid ((v1.alloc (.cells #[.int .i64 (lc:Nat),.int .i64 (s1:Nat),.int .i64 (rc:Nat),.int .i64 (s2:Nat)] 116)).heap[gc]? =some (.cells #[.float .f64 0,.int .i64 0,.int .i64 0,.float .f64 0,.int .i64 0,.int .i64 0,.float .f64 0,.float .f64 0] 151)):=Ab.heap (bl1 _ _) RC1.out
 generalize hV:v1.alloc (.cells #[.int .i64 (lc:Nat),.int .i64 (s1:Nat),.int .i64 (rc:Nat),.int .i64 (s2:Nat)] 116)=V at*
 obtain⟨ge,hge⟩:=aD v1.heap.size
 rw[hge]at RE ⊢
 clear hV hge W_v1 RS1 RC1
 have y0:=aA 0 RS2.out
 have y1:=aA 1 RS2.out
 have y2:=aA 2 RS2.out
 have y3:=aA 3 RS2.out
 have y4:=aA 4 RS2.out
 have y5:=aA 5 RS2.out
 go_wp2_with fail
 refine(CF.out _ W_V.out).mono ?_
 rintro e9 v2 ⟨rfl,k1⟩
 have W_v2:Hid (Ab w v2):=W_V.out.call k1
 have RC3:=hid (Ab.heap k1 RC2.out)
 clear k1 W_V RC2 y0 y1 y2 y3 y4 y5
 have o0:=aA 0 RC3.out
 have q0:=aG RC3.out 0
 have o1:=aA 1 RC3.out
 have q1:=aG RC3.out 1
 have o2:=aA 2 RC3.out
 have q2:=aG RC3.out 2
 have o3:=aA 3 RC3.out
 have q3:=aG RC3.out 3
 have o4:=aA 4 RC3.out
 have q4:=aG RC3.out 4
 have o5:=aA 5 RC3.out
 have q5:=aG RC3.out 5
 have o6:=aA 6 RC3.out
 have q6:=aG RC3.out 6
 have o7:=aA 7 RC3.out
 have q7:=aG RC3.out 7
 go_wp2
 refine bodyPost_ret ?_ rfl ⟨rfl,?_⟩
 ·exact dA results110 _ _ gc _ _ (0,0) _ _ rfl rfl (row8 RC3.out) underlying151 rfl (by kernel_rfl)
 ·exact((((((((W_v2.out.setk LG.out _).setk LG.out _).setk LG.out _).setk LG.out _).setk LG.out _).setk LG.out _).setk LG.out _).setk LG.out _)
theorem GF(gb bb bo wb wo sb so M N cb cw cs:Nat)(pt:Option Addr)(lt ct:Nat)(sky st:Int)(e lc s1 rc s2:Nat)(bl br gap vu:Nat)(wl al wr ar:Int)(w:World)(he:((e:Nat):Int)<N)
  (EG:Hid (∀v,Ab w v->Calls prog 73 #[.pointer (some ⟨gb,0,none⟩),.int .i64 (e:Nat)] v fun x w'=>x=.returned (.tuple #[.agg #[.int .i64 (lc:Nat),.int .i64 (s1:Nat),.int .i64 (rc:Nat),.int .i64 (s2:Nat)],.bool true])/\Below v.heap.size v w'))
  (CF:Hid (∀v,Ab w v->Calls prog 58 #[.pointer (some ⟨gb,0,none⟩),.agg #[.slice (some ⟨bb,bo,none⟩) M cb,.slice (some ⟨wb,wo,none⟩) M cw,.slice pt lt ct,.slice (some ⟨sb,so,none⟩) N cs,.int .i64 sky,.int .i64 st]] v fun x w'=>x=.returned (.bool true)/\Below v.heap.size v w'))
  (CL:Hid (∀v,Ab w v->Calls prog 162 #[.pointer (some ⟨gb,0,none⟩),.agg #[.slice (some ⟨bb,bo,none⟩) M cb,.slice (some ⟨wb,wo,none⟩) M cw,.slice pt lt ct,.slice (some ⟨sb,so,none⟩) N cs,.int .i64 sky,.int .i64 st],.int .i64 (lc:Nat)] v fun x w'=>x=.returned (.agg #[.float .f64 bl,.int .i64 wl,.int .i64 al])/\Below v.heap.size v w'))
  (CR:Hid (∀v,Ab w v->Calls prog 162 #[.pointer (some ⟨gb,0,none⟩),.agg #[.slice (some ⟨bb,bo,none⟩) M cb,.slice (some ⟨wb,wo,none⟩) M cw,.slice pt lt ct,.slice (some ⟨sb,so,none⟩) N cs,.int .i64 sky,.int .i64 st],.int .i64 (rc:Nat)] v fun x w'=>x=.returned (.agg #[.float .f64 br,.int .i64 wr,.int .i64 ar])/\Below v.heap.size v w'))
  (CG:Hid (∀v,Ab w v->Calls prog 163 #[.pointer (some ⟨gb,0,none⟩),.int .i64 (e:Nat)] v fun x w'=>x=.returned (.float .f64 gap)/\Below v.heap.size v w'))
  (FSp:Hid (∀v,Ab w v->v.cell? ⟨sb,so+e,none⟩=some (.float .f64 vu))):
  Calls prog 110 #[.pointer (some ⟨gb,0,none⟩),.agg #[.slice (some ⟨bb,bo,none⟩) M cb,.slice (some ⟨wb,wo,none⟩) M cw,.slice pt lt ct,.slice (some ⟨sb,so,none⟩) N cs,.int .i64 sky,.int .i64 st],.int .i64 (e:Nat)] w fun x w'=>x=.returned (.tuple #[.agg #[.float .f64 bl,.int .i64 wl,.int .i64 al,.float .f64 br,.int .i64 wr,.int .i64 ar,.float .f64 gap,.float .f64 vu],.bool true])/\Below w.heap.size w w':=by
 obtain⟨W_W0,RS,RC⟩:=bJ w (.cells #[.slice (some ⟨bb,bo,none⟩) M cb,.slice (some ⟨wb,wo,none⟩) M cw,.slice pt lt ct,.slice (some ⟨sb,so,none⟩) N cs,.int .i64 sky,.int .i64 st] 29) (.cells #[.float .f64 0,.int .i64 0,.int .i64 0,.float .f64 0,.int .i64 0,.int .i64 0,.float .f64 0,.float .f64 0] 151)
 have LG:Hid (w.heap.size<=w.heap.size+1):=Nat.le_succ _
 go_enter func110,ntmps110
 go_upto_region 1 with fail
 generalize hW:World.alloc (World.alloc w _) _=W0 at*
 obtain⟨gs,hgs⟩:=aD w.heap.size
 obtain⟨gc,hgc⟩:=aD (w.heap.size+1)
 rw[hgc]at RC LG ⊢
 rw[hgs]at RS ⊢
 clear hgs hgc hW
 go_wp2_with fail
 refine(EG.out _ W_W0.out).mono ?_
 rintro e9 v1 ⟨rfl,k1⟩
 have W_v1:Hid (Ab w v1):=W_W0.out.call k1
 have RS1:=hid (Ab.heap k1 RS.out)
 have RC1:=hid (Ab.heap k1 RC.out)
 clear k1 W_W0 RS RC
 go_upto_region 2 with fail
 have RE:=hid (heap_alloc_new v1 (.cells #[.int .i64 (lc:Nat),.int .i64 (s1:Nat),.int .i64 (rc:Nat),.int .i64 (s2:Nat)] 116))
 have W_V:Hid (Ab w (v1.alloc (.cells #[.int .i64 (lc:Nat),.int .i64 (s1:Nat),.int .i64 (rc:Nat),.int .i64 (s2:Nat)] 116))):=W_v1.out.trans (bl1 _ _)
 have RS2:Hid ((v1.alloc (.cells #[.int .i64 (lc:Nat),.int .i64 (s1:Nat),.int .i64 (rc:Nat),.int .i64 (s2:Nat)] 116)).heap[gs]? =some (.cells #[.slice (some ⟨bb,bo,none⟩) M cb,.slice (some ⟨wb,wo,none⟩) M cw,.slice pt lt ct,.slice (some ⟨sb,so,none⟩) N cs,.int .i64 sky,.int .i64 st] 29)):=Ab.heap (bl1 _ _) RS1.out
 have RC2:Hid ((v1.alloc (.cells #[.int .i64 (lc:Nat),.int .i64 (s1:Nat),.int .i64 (rc:Nat),.int .i64 (s2:Nat)] 116)).heap[gc]? =some (.cells #[.float .f64 0,.int .i64 0,.int .i64 0,.float .f64 0,.int .i64 0,.int .i64 0,.float .f64 0,.float .f64 0] 151)):=Ab.heap (bl1 _ _) RC1.out
 generalize hV:v1.alloc (.cells #[.int .i64 (lc:Nat),.int .i64 (s1:Nat),.int .i64 (rc:Nat),.int .i64 (s2:Nat)] 116)=V at*
 obtain⟨ge,hge⟩:=aD v1.heap.size
 rw[hge]at RE ⊢
 clear hV hge W_v1 RS1 RC1
 have y0:=aA 0 RS2.out
 have y1:=aA 1 RS2.out
 have y2:=aA 2 RS2.out
 have y3:=aA 3 RS2.out
 have y4:=aA 4 RS2.out
 have y5:=aA 5 RS2.out
 go_wp2_with fail
 refine(CF.out _ W_V.out).mono ?_
 rintro e9 v2 ⟨rfl,k1⟩
 have W_v2:Hid (Ab w v2):=W_V.out.call k1
 have RC3:=hid (Ab.heap k1 RC2.out)
 have RS3:=hid (Ab.heap k1 RS2.out)
 have RE3:=hid (Ab.heap k1 RE.out)
 clear k1 W_V RC2 RS2 RE y0 y1 y2 y3 y4 y5
 go_upto_region 4 with fail
 obtain⟨UU,E,hF1,hF2⟩:=cls v2
 have HU:=hid hF2
 have HU1:=hid hF1
 have HX:Hid (∀u,Ab w (E u)):=fun u=>W_v2.out.trans (hF1 u)
 have x0: ∀u,(E u).cell? ⟨gs,0,none⟩=some (.slice (some ⟨bb,bo,none⟩) M cb):=fun u=>aA 0 ((hF1 u).heap RS3.out)
 have x1: ∀u,(E u).cell? ⟨gs,1,none⟩=some (.slice (some ⟨wb,wo,none⟩) M cw):=fun u=>aA 1 ((hF1 u).heap RS3.out)
 have x2: ∀u,(E u).cell? ⟨gs,2,none⟩=some (.slice pt lt ct):=fun u=>aA 2 ((hF1 u).heap RS3.out)
 have x3: ∀u,(E u).cell? ⟨gs,3,none⟩=some (.slice (some ⟨sb,so,none⟩) N cs):=fun u=>aA 3 ((hF1 u).heap RS3.out)
 have x4: ∀u,(E u).cell? ⟨gs,4,none⟩=some (.int .i64 sky):=fun u=>aA 4 ((hF1 u).heap RS3.out)
 have x5: ∀u,(E u).cell? ⟨gs,5,none⟩=some (.int .i64 st):=fun u=>aA 5 ((hF1 u).heap RS3.out)
 have ye: ∀u,(E u).cell? ⟨ge,0,none⟩=some (.int .i64 (lc:Nat)):=fun u=>aA 0 ((hF1 u).heap RE3.out)
 have yf: ∀u,(E u).cell? ⟨ge,2,none⟩=some (.int .i64 (rc:Nat)):=fun u=>aA 2 ((hF1 u).heap RE3.out)
 have ys: ∀u,(E u).cell? ⟨sb,so+e,none⟩=some (.float .f64 vu):=fun u=>FSp.out _ (HX.out u)
 have DD0:=HU.out _ (Ab.refl v2).drew
 clear hF1 hF2
 refine cM 19 E (by kernel_rfl) (by kernel_rfl) (by kernel_rfl) DD0 ?_
 simp only[List.take_succ_cons,List.take_zero,List.drop_succ_cons,List.drop_zero]
 repeat(go_big_quiet_step (first
  | (with_reducible rfl)
  | (go_at_call_of 162 lc;exact aH HU HU1 (CL.out _ (HX.out _)))
  | (go_at_call_of 162 rc;exact aH HU HU1 (CR.out _ (HX.out _)))
  | (go_at_call 163;exact aH HU HU1 (CG.out _ (HX.out _)))))
 refine wpQuiet_nil ?_
 intro z hwz
 obtain⟨u0,hu⟩:=hwz
 have AZ:Hid (Ab v2 z):=by rw[hu];exact HU1.out u0
 clear hu u0
 clear HU HU1 DD0 HX x0 x1 x2 x3 x4 x5 ye yf ys
 clear E UU
 have W_z:Hid (Ab w z):=W_v2.out.trans AZ.out
 have RZ:=hid (Ab.heap AZ.out RC3.out)
 have o0:=aA 0 RZ.out
 have q0:=aG RZ.out 0
 have o1:=aA 1 RZ.out
 have q1:=aG RZ.out 1
 have o2:=aA 2 RZ.out
 have q2:=aG RZ.out 2
 have o3:=aA 3 RZ.out
 have q3:=aG RZ.out 3
 have o4:=aA 4 RZ.out
 have q4:=aG RZ.out 4
 have o5:=aA 5 RZ.out
 have q5:=aG RZ.out 5
 have o6:=aA 6 RZ.out
 have q6:=aG RZ.out 6
 have o7:=aA 7 RZ.out
 have q7:=aG RZ.out 7
 go_wp2
 refine bodyPost_ret ?_ rfl ⟨rfl,?_⟩
 ·exact dA results110 _ _ gc _ _ (0,0) _ _ rfl rfl (row8 RZ.out) underlying151 rfl (by kernel_rfl)
 ·exact((((((((W_z.out.setk LG.out _).setk LG.out _).setk LG.out _).setk LG.out _).setk LG.out _).setk LG.out _).setk LG.out _).setk LG.out _)
end Fc
end
end Go.Proofs.YtaphajlpbgcfjaaGreatDoor
