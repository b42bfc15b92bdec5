/-
  Some of the texts of this proof, one behind the other.
-/
import Derived.Deep.QuietTactic
import Derived.Test.YtmhnilnaffjhmaaGreatDoorCdr18
set_option maxRecDepth 100000
set_option maxHeartbeats 400000000
namespace Go.Proofs.YtmhnilnaffjhmaaGreatDoor
open _root_.Go.Proofs.Tryz
section
open Go.RowKit Tf Cu
attribute [local go_sem] aJ aK aP aQ aR aV aX aD
theorem vL(gb:Nat)(pb pw pt ps:Option Addr)(lb cb lw cw lt ct ls cs:Nat)(sky st:Int)(M N:Nat)(q:Bool)(w:World)
  (hq:(((lb:Int)==(M:Int))=false/\q=false)\/(((lb:Int)==(M:Int))=true/\((lw:Int)==(M:Int))=false/\q=false)\/(((lb:Int)==(M:Int))=true/\((lw:Int)==(M:Int))=true/\((lt:Int)==(M:Int))=false/\q=false)\/(((lb:Int)==(M:Int))=true/\((lw:Int)==(M:Int))=true/\((lt:Int)==(M:Int))=true/\((ls:Int)==(N:Int))=q))
  (CC:Hid (∀v,Ab w v->Calls prog 7 #[(.pointer (some ⟨gb,0,none⟩))] v fun e w'=>e=.returned (.int .i64 (M:Nat))/\Below v.heap.size v w'))
  (CE:Hid (∀v,Ab w v->Calls prog 8 #[(.pointer (some ⟨gb,0,none⟩))] v fun e w'=>e=.returned (.int .i64 (N:Nat))/\Below v.heap.size v w')):
  Calls prog 112 #[(.pointer (some ⟨gb,0,none⟩)),.agg #[.slice pb lb cb,.slice pw lw cw,.slice pt lt ct,.slice ps ls cs,.int .i64 sky,.int .i64 st]] w fun e w'=>e=.returned (.bool q)/\Below w.heap.size w w':=by
 obtain⟨A0,RO⟩:=aO w (.cells #[.slice pb lb cb,.slice pw lw cw,.slice pt lt ct,.slice ps ls cs,.int .i64 sky,.int .i64 st] 48)
 go_enter func112,ntmps112
 go_wp2_with fail
 refine(CC.out _ A0.out).mono ?_
 rintro e9 v1 ⟨rfl,b1⟩
 have A1:Hid (Ab w v1):=A0.out.call b1
 have R1:Hid (v1.heap[w.heap.size]? =some (.cells #[.slice pb lb cb,.slice pw lw cw,.slice pt lt ct,.slice ps ls cs,.int .i64 sky,.int .i64 st] 48)):=Ab.heap b1 RO.out
 clear b1 A0 RO
 go_upto_region 2 with fail
 obtain⟨gs,hgs⟩:=aB w.heap.size
 rw[hgs]at R1 ⊢
 clear hgs
 rcases hq with⟨q1,rfl⟩ | ⟨q1,q2,rfl⟩ | ⟨q1,q2,q3,rfl⟩ | ⟨q1,q2,q3,q4⟩
 ·obtain⟨UU,E,hF1,hF2⟩:=cls v1
  have HU:=hid hF2
  have HU1:=hid hF1
  have HX:Hid (∀u,Ab w (E u)):=fun u=>Ab.trans A1.out (hF1 u)
  have s0: ∀u,(E u).cell? ⟨gs,0,none⟩=some (.slice pb lb cb):=fun u=>aA 0 ((hF1 u).heap R1.out)
  have s1: ∀u,(E u).cell? ⟨gs,1,none⟩=some (.slice pw lw cw):=fun u=>aA 1 ((hF1 u).heap R1.out)
  have s2: ∀u,(E u).cell? ⟨gs,2,none⟩=some (.slice pt lt ct):=fun u=>aA 2 ((hF1 u).heap R1.out)
  have s3: ∀u,(E u).cell? ⟨gs,3,none⟩=some (.slice ps ls cs):=fun u=>aA 3 ((hF1 u).heap R1.out)
  have DD0:=HU.out _ (Ab.refl v1).drew
  clear hF1 hF2
  refine aM E (by kernel_rfl) (by kernel_rfl) DD0 ?_
  repeat(go_big_quiet_step (first
   | (with_reducible rfl)
   | (go_at_call 8;exact aH HU HU1 (CE.out _ (HX.out _)))))
  refine wpQuiet_nil ?_
  intro z hwz
  obtain⟨u0,hu⟩:=hwz
  have AZ:Hid (Ab w z):=by rw[hu];exact HX.out u0
  clear hu u0
  clear HU HU1 HX DD0 s0 s1 s2 s3
  clear E UU
  go_wp2
  go_ret
  exact⟨rfl,AZ.out⟩
 ·obtain⟨UU,E,hF1,hF2⟩:=cls v1
  have HU:=hid hF2
  have HU1:=hid hF1
  have HX:Hid (∀u,Ab w (E u)):=fun u=>Ab.trans A1.out (hF1 u)
  have s0: ∀u,(E u).cell? ⟨gs,0,none⟩=some (.slice pb lb cb):=fun u=>aA 0 ((hF1 u).heap R1.out)
  have s1: ∀u,(E u).cell? ⟨gs,1,none⟩=some (.slice pw lw cw):=fun u=>aA 1 ((hF1 u).heap R1.out)
  have s2: ∀u,(E u).cell? ⟨gs,2,none⟩=some (.slice pt lt ct):=fun u=>aA 2 ((hF1 u).heap R1.out)
  have s3: ∀u,(E u).cell? ⟨gs,3,none⟩=some (.slice ps ls cs):=fun u=>aA 3 ((hF1 u).heap R1.out)
  have DD0:=HU.out _ (Ab.refl v1).drew
  clear hF1 hF2
  refine aM E (by kernel_rfl) (by kernel_rfl) DD0 ?_
  repeat(go_big_quiet_step (first
   | (with_reducible rfl)
   | (go_at_call 8;exact aH HU HU1 (CE.out _ (HX.out _)))))
  refine wpQuiet_nil ?_
  intro z hwz
  obtain⟨u0,hu⟩:=hwz
  have AZ:Hid (Ab w z):=by rw[hu];exact HX.out u0
  clear hu u0
  clear HU HU1 HX DD0 s0 s1 s2 s3
  clear E UU
  go_wp2
  go_ret
  exact⟨rfl,AZ.out⟩
 ·obtain⟨UU,E,hF1,hF2⟩:=cls v1
  have HU:=hid hF2
  have HU1:=hid hF1
  have HX:Hid (∀u,Ab w (E u)):=fun u=>Ab.trans A1.out (hF1 u)
  have s0: ∀u,(E u).cell? ⟨gs,0,none⟩=some (.slice pb lb cb):=fun u=>aA 0 ((hF1 u).heap R1.out)
  have s1: ∀u,(E u).cell? ⟨gs,1,none⟩=some (.slice pw lw cw):=fun u=>aA 1 ((hF1 u).heap R1.out)
  have s2: ∀u,(E u).cell? ⟨gs,2,none⟩=some (.slice pt lt ct):=fun u=>aA 2 ((hF1 u).heap R1.out)
  have s3: ∀u,(E u).cell? ⟨gs,3,none⟩=some (.slice ps ls cs):=fun u=>aA 3 ((hF1 u).heap R1.out)
  have DD0:=HU.out _ (Ab.refl v1).drew
  clear hF1 hF2
  refine aM E (by kernel_rfl) (by kernel_rfl) DD0 ?_
  repeat(go_big_quiet_step (first
   | (with_reducible rfl)
   | (go_at_call 8;exact aH HU HU1 (CE.out _ (HX.out _)))))
  refine wpQuiet_nil ?_
  intro z hwz
  obtain⟨u0,hu⟩:=hwz
  have AZ:Hid (Ab w z):=by rw[hu];exact HX.out u0
  clear hu u0
  clear HU HU1 HX DD0 s0 s1 s2 s3
  clear E UU
  go_wp2
  go_ret
  exact⟨rfl,AZ.out⟩
 ·obtain⟨UU,E,hF1,hF2⟩:=cls v1
  have HU:=hid hF2
  have HU1:=hid hF1
  have HX:Hid (∀u,Ab w (E u)):=fun u=>Ab.trans A1.out (hF1 u)
  have s0: ∀u,(E u).cell? ⟨gs,0,none⟩=some (.slice pb lb cb):=fun u=>aA 0 ((hF1 u).heap R1.out)
  have s1: ∀u,(E u).cell? ⟨gs,1,none⟩=some (.slice pw lw cw):=fun u=>aA 1 ((hF1 u).heap R1.out)
  have s2: ∀u,(E u).cell? ⟨gs,2,none⟩=some (.slice pt lt ct):=fun u=>aA 2 ((hF1 u).heap R1.out)
  have s3: ∀u,(E u).cell? ⟨gs,3,none⟩=some (.slice ps ls cs):=fun u=>aA 3 ((hF1 u).heap R1.out)
  have DD0:=HU.out _ (Ab.refl v1).drew
  clear hF1 hF2
  refine aM E (by kernel_rfl) (by kernel_rfl) DD0 ?_
  repeat(go_big_quiet_step (first
   | (with_reducible rfl)
   | (go_at_call 8;exact aH HU HU1 (CE.out _ (HX.out _)))))
  refine wpQuiet_nil ?_
  intro z hwz
  obtain⟨u0,hu⟩:=hwz
  have AZ:Hid (Ab w z):=by rw[hu];exact HX.out u0
  clear hu u0
  clear HU HU1 HX DD0 s0 s1 s2 s3
  clear E UU
  go_wp2
  go_ret
  exact⟨rfl,AZ.out⟩
theorem all13_no(gb:Nat)(sd:Int)(dt gr dr:Nat)(lim:Int)(rv:Bool)(pr:Option Addr)(lr cr:Nat)(pb pw pt ps:Option Addr)(lb cb lw cw lt ct ls cs:Nat)(sky st:Int)(w:World)
  (CF:Hid (∀v,Ab w v->Calls prog 112 #[(.pointer (some ⟨gb,0,none⟩)),.agg #[.slice pb lb cb,.slice pw lw cw,.slice pt lt ct,.slice ps ls cs,.int .i64 sky,.int .i64 st]] v fun e w'=>e=.returned (.bool false)/\Below v.heap.size v w')):
  Calls prog 74 #[(.pointer (some ⟨gb,0,none⟩)),.agg #[.int .i64 sd,.float .f64 dt,.float .f64 gr,.float .f64 dr,.int .i64 lim,.bool rv,.slice pr lr cr],.agg #[.slice pb lb cb,.slice pw lw cw,.slice pt lt ct,.slice ps ls cs,.int .i64 sky,.int .i64 st]] w fun e w'=>e=.returned (.tuple #[.slice none 0 0,.int .i64 1])/\Below w.heap.size w w':=by
 obtain⟨A0,RP,RO⟩:=bZ w (.cells #[.int .i64 sd,.float .f64 dt,.float .f64 gr,.float .f64 dr,.int .i64 lim,.bool rv,.slice pr lr cr] 45) (.cells #[.slice pb lb cb,.slice pw lw cw,.slice pt lt ct,.slice ps ls cs,.int .i64 sky,.int .i64 st] 48)
 go_enter func74,ntmps74
 go_upto_region 3 with fail
 generalize hW:World.alloc (World.alloc w _) _=W at*
 obtain⟨gp,hgp⟩:=aB w.heap.size
 obtain⟨gs,hgs⟩:=aB (w.heap.size+1)
 rw[hgp]at RP
 rw[hgs]at RO
 rw[hgs,hgp]
 clear hgs hgp hW
 have s0:=aG RO.out
 go_wp2_with fail
 refine(CF.out _ A0.out).mono ?_
 rintro e9 z ⟨rfl,bz⟩
 have AB:Hid (Ab W z):=bz
 clear bz s0
 go_wp2
 go_ret2
 exact⟨rfl,A0.out.trans AB.out⟩
theorem all13_go(gb:Nat)(sd:Int)(dt gr dr:Nat)(lim:Int)(rv:Bool)(pr:Option Addr)(lr cr:Nat)(pb pw pt:Option Addr)(M cb cw ct sb so cs:Nat)(sky st:Int)(N:Nat)(Sp Dp Ln:Nat->Nat)(D:Nat->Int)(w:World)(hN:N<=1048576)
  (CF:Hid (∀v,Ab w v->Calls prog 112 #[(.pointer (some ⟨gb,0,none⟩)),.agg #[.slice pb M cb,.slice pw M cw,.slice pt M ct,.slice (some ⟨sb,so,none⟩) N cs,.int .i64 sky,.int .i64 st]] v fun e w'=>e=.returned (.bool true)/\Below v.heap.size v w'))
  (CE:Hid (∀v,Ab w v->Calls prog 8 #[(.pointer (some ⟨gb,0,none⟩))] v fun e w'=>e=.returned (.int .i64 (N:Nat))/\w'=v))
  (FSp:Hid (∀c,c<N-> ∀v,Ab w v->v.cell? ⟨sb,so+c,none⟩=some (.float .f64 (Sp c))))
  (CD:Hid (∀c,c<N-> ∀v,Ab w v->Calls prog 113 #[(.pointer (some ⟨gb,0,none⟩)),.int .i64 lim,.agg #[.slice pb M cb,.slice pw M cw,.slice pt M ct,.slice (some ⟨sb,so,none⟩) N cs,.int .i64 sky,.int .i64 st],.int .i64 (c:Nat),.float .f64 (Sp c)] v fun e w'=>e=.returned (.float .f64 (Dp c))/\Below v.heap.size v w'))
  (CL:Hid (∀c,c<N-> ∀v,Ab w v->Calls prog 15 #[(.pointer (some ⟨gb,0,none⟩)),.int .i64 (c:Nat)] v fun e w'=>e=.returned (.float .f64 (Ln c))/\Below v.heap.size v w'))
  (CQ:Hid (∀c,c<N-> ∀v:World,Calls prog 114 #[.float .f64 (Sp c),.float .f64 (Dp c),.float .f64 (Ln c),.float .f64 dt] v fun e w'=>e=.returned (.int .i64 (D c))/\Below v.heap.size v w')):
  Calls prog 74 #[(.pointer (some ⟨gb,0,none⟩)),.agg #[.int .i64 sd,.float .f64 dt,.float .f64 gr,.float .f64 dr,.int .i64 lim,.bool rv,.slice pr lr cr],.agg #[.slice pb M cb,.slice pw M cw,.slice pt M ct,.slice (some ⟨sb,so,none⟩) N cs,.int .i64 sky,.int .i64 st]] w fun e w'=> ∃b,e=.returned (.tuple #[.slice (some ⟨b,0,none⟩) N N,.int .i64 0])/\Below w.heap.size w w'/\w'.rowIs b 2 N (fun i=>.int .i64 (D i))/\w.heap.size<=b:=by
 have M1: ∀v:World,(Instr.makeSlice 46 (.int .i64 (N:Nat)) (.int .i64 (N:Nat))).run prog v=.ok (.slice (some ⟨v.heap.size,0,none⟩) N N) (v.alloc (Obj.cells (madeCells #[.int .i64 0] N) 2)):=fun v=>
  run_make_row' (P:=prog) 46 2 (.int .i64 0) 8 underlying46 fA rfl .i64 .i64 N (by omega) (by omega) v
 have HN:=hid hN
 clear hN
 obtain⟨A0,RP,RO⟩:=bZ w (.cells #[.int .i64 sd,.float .f64 dt,.float .f64 gr,.float .f64 dr,.int .i64 lim,.bool rv,.slice pr lr cr] 45) (.cells #[.slice pb M cb,.slice pw M cw,.slice pt M ct,.slice (some ⟨sb,so,none⟩) N cs,.int .i64 sky,.int .i64 st] 48)
 go_enter func74,ntmps74
 go_upto_region 3 with fail
 generalize hW:World.alloc (World.alloc w _) _=W at*
 obtain⟨gp,hgp⟩:=aB w.heap.size
 obtain⟨gs,hgs⟩:=aB (w.heap.size+1)
 rw[hgp]at RP
 rw[hgs]at RO
 rw[hgs,hgp]
 clear hgs hgp hW
 obtain⟨s0,s1,s2,s3,s4,s5⟩:=aG RO.out
 go_wp2_with fail
 refine(CF.out _ A0.out).mono ?_
 rintro e9 z ⟨rfl,bz⟩
 have AB:Hid (Ab W z):=bz
 clear bz s0 s1 s2 s3 s4 s5
 have AZ:Hid (Ab w z):=A0.out.trans AB.out
 have RZ:Hid (z.heap[gs]? =some (.cells #[.slice pb M cb,.slice pw M cw,.slice pt M ct,.slice (some ⟨sb,so,none⟩) N cs,.int .i64 sky,.int .i64 st] 48)):=AB.out.heap RO.out
 have RQ:Hid (z.heap[gp]? =some (.cells #[.int .i64 sd,.float .f64 dt,.float .f64 gr,.float .f64 dr,.int .i64 lim,.bool rv,.slice pr lr cr] 45)):=AB.out.heap RP.out
 clear A0 RO RP AB
 go_wp2_with fail
 refine(CE.out _ AZ.out).mono ?_
 rintro e9 vq ⟨rfl,hvq⟩
 have hvq2:=hvq.symm
 subst hvq2
 have LZ:Hid (w.heap.size<=z.heap.size/\gs≠z.heap.size/\gp≠z.heap.size):=⟨AZ.out.size,by have:=lt_of_block RZ.out;omega,by have:=lt_of_block RQ.out;omega⟩
 have IN0:Hid (Ab w (z.alloc (Obj.cells (madeCells #[.int .i64 0] N) 2))/\(z.alloc (Obj.cells (madeCells #[.int .i64 0] N) 2)).heap[gs]? =some (.cells #[.slice pb M cb,.slice pw M cw,.slice pt M ct,.slice (some ⟨sb,so,none⟩) N cs,.int .i64 sky,.int .i64 st] 48)/\(z.alloc (Obj.cells (madeCells #[.int .i64 0] N) 2)).heap[gp]? =some (.cells #[.int .i64 sd,.float .f64 dt,.float .f64 gr,.float .f64 dr,.int .i64 lim,.bool rv,.slice pr lr cr] 45)/\(z.alloc (Obj.cells (madeCells #[.int .i64 0] N) 2)).rowIs z.heap.size 2 N (fun _=>.int .i64 0)):=⟨AZ.out.alloc _,Ab.heap (bl1 _ _) RZ.out,Ab.heap (bl1 _ _) RQ.out,World.rowIs_made _ _ _ _⟩
 go_upto_region 6 with fail
 generalize hV:World.alloc z _=V at*
 obtain⟨b,hb⟩:=aB z.heap.size
 rw[hb]at IN0 LZ ⊢
 clear hV hb AZ RZ RQ M1
 have IN:Hid (Ab w V/\V.heap[gs]? =some (.cells #[.slice pb M cb,.slice pw M cw,.slice pt M ct,.slice (some ⟨sb,so,none⟩) N cs,.int .i64 sky,.int .i64 st] 48)/\V.heap[gp]? =some (.cells #[.int .i64 sd,.float .f64 dt,.float .f64 gr,.float .f64 dr,.int .i64 lim,.bool rv,.slice pr lr cr] 45)/\V.rowIs b 2 N (fun i=>.int .i64 (if i<0 then D i else 0))):=⟨IN0.out.1,IN0.out.2.1,IN0.out.2.2.1,IN0.out.2.2.2.congr (fun i _=>by simp)⟩
 clear IN0
 have s3:=aA 3 IN.out.2.1
 go_wp2
 clear s3
 go_loopw [24] (fun iv wr=> ∃c:Nat,c<=N/\iv=.int .i64 (c:Nat)/\Ab w wr/\wr.heap[gs]? =some (.cells #[.slice pb M cb,.slice pw M cw,.slice pt M ct,.slice (some ⟨sb,so,none⟩) N cs,.int .i64 sky,.int .i64 st] 48)/\wr.heap[gp]? =some (.cells #[.int .i64 sd,.float .f64 dt,.float .f64 gr,.float .f64 dr,.int .i64 lim,.bool rv,.slice pr lr cr] 45)/\wr.rowIs b 2 N (fun i=>.int .i64 (if i<c then D i else 0))) (fun iv _=>N - (intOf iv).toNat)
 case atStart=>exact⟨0,by omega,rfl,IN.out⟩
 case round=>
  obtain⟨c,hc,rfl,a1,r1,r2,o1⟩:=hrel
  clear IN
  have AR:=hid a1
  have RR:=hid r1
  have RP:=hid r2
  have OO:=hid o1
  clear a1 r1 r2 o1
  by_cases hcN:c<N
  ·have HC:=hid hcN
   have hcI:(c:Int)<N:=by omega
   have hcB:(c:Int)<=1048576:=by have:=HN.out;omega
   obtain⟨x,hx⟩:=aB (Sp c)
   obtain⟨y,hy⟩:=aB (D c)
   obtain⟨dp,hdp⟩:=aB (Dp c)
   obtain⟨ln,hln⟩:=aB (Ln c)
   have CDc:=hid (CD.out c hcN)
   have CLc:=hid (CL.out c hcN)
   have CQc:=hid (CQ.out c hcN)
   rw[hx,hdp]at CDc
   rw[hln]at CLc
   rw[hx,hdp,hln,hy]at CQc
   have HX2:=hid hx
   have HY:=hid hy
   clear hx hy hdp hln hcN
   obtain⟨s0,s1,s2,s3,s4,s5⟩:=aG RR.out
   have p4:=aA 4 RP.out
   have sx:wr.cell? ⟨sb,so+c,none⟩=some (.float .f64 x):=(FSp.out c HC.out _ AR.out).trans (by rw[HX2.out])
   go_wp2_with fail
   refine(CDc.out _ AR.out).mono ?_
   rintro e9 v1 ⟨rfl,b1⟩
   have A1:Hid (Ab wr v1):=b1
   clear b1 s0 s1 s2 s3 s4 s5 p4 sx
   go_upto_region 10 with fail
   obtain⟨UU,E,hF1,hF2⟩:=cls v1
   have HU:=hid hF2
   have HU1:=hid hF1
   have HX:Hid (∀u,Ab wr (E u)):=fun u=>Ab.trans A1.out (hF1 u)
   have p1: ∀u,(E u).cell? ⟨gp,1,none⟩=some (.float .f64 dt):=fun u=>aA 1 ((A1.out.trans (hF1 u)).heap RP.out)
   have DD0:=HU.out _ (Ab.refl v1).drew
   clear hF1 hF2
   refine cS 11 E (by kernel_rfl) (by kernel_rfl) (by kernel_rfl) DD0 ?_
   simp only[List.take_succ_cons,List.take_zero,List.drop_succ_cons,List.drop_zero]
   repeat(go_big_quiet_step (first
    | (with_reducible rfl)
    | (go_at_call 15;exact aH HU HU1 (CLc.out _ (AR.out.trans (HX.out _))))
    | (go_at_call 114;exact aH HU HU1 (CQc.out _))))
   refine wpQuiet_nil ?_
   intro vz hwz
   obtain⟨u0,hu⟩:=hwz
   have AZ:Hid (Ab wr vz):=by rw[hu];exact HX.out u0
   clear hu u0
   clear HU HU1 HX DD0 p1
   clear E UU
   have OZ:=hid (rowIs.ab OO.out AZ.out)
   have xc:=OZ.out.cell HC.out
   have xf:=OZ.out.frozen c
   go_wp2
   refine⟨⟨c+1,by have:=HC.out;omega,by simp,(AR.out.trans AZ.out).setk LZ.out.1 _,?_,?_,(OZ.out.set c _).congr (fun i _=> ?_)⟩,by simp[intOf];have:=HC.out;omega⟩
   ·rw[aF LZ.out.2.1];exact AZ.out.heap RR.out
   ·rw[aF LZ.out.2.2];exact AZ.out.heap RP.out
   ·by_cases e:i=c
    ·simp[e,HY.out]
    ·by_cases l:i<c
     ·simp[e,l,show i<c+1 by omega]
     ·simp[e,l,show¬i<c+1 by omega]
  ·have e6:N=c:=by omega
   subst e6
   go_wp2
   go_ret2
   exact⟨b,rfl,AR.out,OO.out.congr (fun i hi=>by simp[hi]),LZ.out.1⟩
end
section
open Go.RowKit Tf Cu Go.Deep
attribute [local go_sem] aJ aK aP aQ aR aV aX aD
theorem quantaC:QuantaC:=by
 intro u d l t w hu hd hl ht
 obtain⟨r1,n1,h1,q1⟩:=fQ (P:=prog) w u (qB u) d (qB d) (IsQ.self hu) (IsQ.self hd)
 obtain⟨r2,n2,h2,q2⟩:=fQ (P:=prog) (w.drewN n1) r1 _ l (qB l) q1 (IsQ.self hl)
 obtain⟨r3,n3,h3,q3⟩:=fQ (P:=prog) (w.drewN (n1+n2)) r2 _ t (qB t) q2 (IsQ.self ht)
 obtain⟨r4,n4,h4,q4⟩:=fQ (P:=prog) (w.drewN (n1+n2+n3)) r3 _ 4742290407621132288 (qB 4742290407621132288) q3 (IsQ.self (by decide))
 have e:clampB r4 4503599627370496=qnB u d l t:=by
  rw[clampB_q q4,mlB_qq,Cn,Cn,Cn]
  rfl
 have CL:=hid (fun v=>clamp_at r4 4503599627370496 (qnB u d l t) v q4.1 (by decide) e)
 generalize qnB u d l t=z at*
 have AB:Hid (∀k,Ab w (w.drewN k)):=fun k=>(Ab.refl w).drewN k
 clear q1 q2 q3 q4 e hu hd hl ht
 go_enter func114,ntmps114
 go_wp2_with fail
 refine(CL.out _).mono ?_
 rintro e v ⟨rfl,n5,rfl⟩
 go_wp2
 go_ret
 exact⟨rfl,AB.out _⟩
end
section
open Go.RowKit Tf Cu
attribute [local go_sem] aJ aK aP aQ aR aV aX aD
theorem Al(gp:Value)(pb pw pt ps:Option Addr)(lb cb lw cw lt ct ls cs:Nat)(sky st:Int)(M:Nat)(q:Bool)(w:World)
  (hq:(((lb:Int)==(M:Int))=false/\q=false)\/(((lb:Int)==(M:Int))=true/\((lw:Int)==(M:Int))=q))
  (CC:Hid (∀v,Ab w v->Calls prog 7 #[gp] v fun e w'=>e=.returned (.int .i64 (M:Nat))/\Below v.heap.size v w')):
  Calls prog 149 #[gp,.agg #[.slice pb lb cb,.slice pw lw cw,.slice pt lt ct,.slice ps ls cs,.int .i64 sky,.int .i64 st]] w fun e w'=>e=.returned (.bool q)/\Below w.heap.size w w':=by
 obtain⟨A0,RO⟩:=aO w (.cells #[.slice pb lb cb,.slice pw lw cw,.slice pt lt ct,.slice ps ls cs,.int .i64 sky,.int .i64 st] 48)
 go_enter func149,ntmps149
 go_upto_region 1 with fail
 generalize hW:World.alloc w _=W at*
 obtain⟨gs,hgs⟩:=aB w.heap.size
 rw[hgs]at RO ⊢
 clear hgs hW
 rcases hq with⟨q1,rfl⟩ | ⟨q1,q2⟩
 ·obtain⟨UU,E,hF1,hF2⟩:=cls W
  have HU:=hid hF2
  have HU1:=hid hF1
  have HX:Hid (∀u,Ab w (E u)):=fun u=>Ab.trans A0.out (hF1 u)
  have x0: ∀u,(E u).cell? ⟨gs,0,none⟩=some (.slice pb lb cb):=fun u=>aA 0 ((hF1 u).heap RO.out)
  have x1: ∀u,(E u).cell? ⟨gs,1,none⟩=some (.slice pw lw cw):=fun u=>aA 1 ((hF1 u).heap RO.out)
  have DD0:=HU.out _ (Ab.refl W).drew
  clear hF1 hF2
  refine aM E (by kernel_rfl) (by kernel_rfl) DD0 ?_
  repeat(go_big_quiet_step (first
   | (with_reducible rfl)
   | (go_at_call 7;exact aH HU HU1 (CC.out _ (HX.out _)))))
  refine wpQuiet_nil ?_
  intro z hwz
  obtain⟨u0,hu⟩:=hwz
  have AZ:Hid (Ab w z):=by rw[hu];exact HX.out u0
  clear hu u0
  clear HU HU1 HX DD0 x0 x1
  clear E UU
  go_wp2
  go_ret
  exact⟨rfl,AZ.out⟩
 ·obtain⟨UU,E,hF1,hF2⟩:=cls W
  have HU:=hid hF2
  have HU1:=hid hF1
  have HX:Hid (∀u,Ab w (E u)):=fun u=>Ab.trans A0.out (hF1 u)
  have x0: ∀u,(E u).cell? ⟨gs,0,none⟩=some (.slice pb lb cb):=fun u=>aA 0 ((hF1 u).heap RO.out)
  have x1: ∀u,(E u).cell? ⟨gs,1,none⟩=some (.slice pw lw cw):=fun u=>aA 1 ((hF1 u).heap RO.out)
  have DD0:=HU.out _ (Ab.refl W).drew
  clear hF1 hF2
  refine aM E (by kernel_rfl) (by kernel_rfl) DD0 ?_
  repeat(go_big_quiet_step (first
   | (with_reducible rfl)
   | (go_at_call 7;exact aH HU HU1 (CC.out _ (HX.out _)))))
  refine wpQuiet_nil ?_
  intro z hwz
  obtain⟨u0,hu⟩:=hwz
  have AZ:Hid (Ab w z):=by rw[hu];exact HX.out u0
  clear hu u0
  clear HU HU1 HX DD0 x0 x1
  clear E UU
  go_wp2
  go_ret
  exact⟨rfl,AZ.out⟩
theorem tF(gp:Value)(bb bo wb wo M cb cw:Nat)(pt ps:Option Addr)(lt ct ls cs:Nat)(sky st:Int)(c:Nat)(wC aC:Int)(h:Nat)(w:World)(hc:((c:Nat):Int)<M)
  (FW:Hid (∀v,Ab w v->v.cell? ⟨wb,wo+c,none⟩=some (.int .i64 wC)))
  (AC:Hid (∀v,Ab w v->Calls prog 17 #[gp,.int .i64 (c:Nat)] v fun e w'=>e=.returned (.int .i64 aC)/\Below v.heap.size v w'))
  (DC:Hid (∀v:World,Calls prog 134 #[.int .i64 wC,.int .i64 aC] v fun e w'=>e=.returned (.float .f64 h)/\Below v.heap.size v w')):
  Calls prog 173 #[gp,.agg #[.slice (some ⟨bb,bo,none⟩) M cb,.slice (some ⟨wb,wo,none⟩) M cw,.slice pt lt ct,.slice ps ls cs,.int .i64 sky,.int .i64 st],.int .i64 (c:Nat)] w fun e w'=>e=.returned (.float .f64 h)/\Below w.heap.size w w':=by
 obtain⟨A0,RO⟩:=aO w (.cells #[.slice (some ⟨bb,bo,none⟩) M cb,.slice (some ⟨wb,wo,none⟩) M cw,.slice pt lt ct,.slice ps ls cs,.int .i64 sky,.int .i64 st] 48)
 go_enter func173,ntmps173
 go_upto_region 1 with fail
 generalize hW:World.alloc w _=W at*
 obtain⟨gs,hgs⟩:=aB w.heap.size
 rw[hgs]at RO ⊢
 clear hgs hW
 obtain⟨UU,E,hF1,hF2⟩:=cls W
 have HU:=hid hF2
 have HU1:=hid hF1
 have HX:Hid (∀u,Ab w (E u)):=fun u=>Ab.trans A0.out (hF1 u)
 have x1: ∀u,(E u).cell? ⟨gs,1,none⟩=some (.slice (some ⟨wb,wo,none⟩) M cw):=fun u=>aA 1 ((hF1 u).heap RO.out)
 have xw: ∀u,(E u).cell? ⟨wb,wo+c,none⟩=some (.int .i64 wC):=fun u=>FW.out _ (HX.out u)
 have DD0:=HU.out _ (Ab.refl W).drew
 clear hF1 hF2
 refine aM E (by kernel_rfl) (by kernel_rfl) DD0 ?_
 repeat(go_big_quiet_step (first
  | (with_reducible rfl)
  | (go_at_call 17;exact aH HU HU1 (AC.out _ (HX.out _)))
  | (go_at_call 134;exact aH HU HU1 (DC.out _))))
 refine wpQuiet_nil ?_
 intro z hwz
 obtain⟨u0,hu⟩:=hwz
 have AZ:Hid (Ab w z):=by rw[hu];exact HX.out u0
 clear hu u0
 clear HU HU1 HX DD0 x1 xw
 clear E UU
 go_wp2
 go_ret
 exact⟨rfl,AZ.out⟩
theorem wo12_no(gp:Value)(e:Int)(u:Nat)(w:World)
  (CE:Hid (∀v,Ab w v->Calls prog 10 #[gp,.int .i64 e] v fun e w'=>e=.returned (.tuple #[.agg #[.int .i64 0,.int .i64 0,.int .i64 0,.int .i64 0],.bool false])/\Below v.heap.size v w')):
  Calls prog 150 #[gp,.int .i64 e,.float .f64 u] w fun e w'=>e=.returned (.tuple #[.agg #[.int .i64 0,.int .i64 0,.int .i64 0],.bool false])/\Below w.heap.size w w':=by
 obtain⟨A0,R0⟩:=aO w (.cells #[.int .i64 0,.int .i64 0,.int .i64 0] 197)
 go_enter func150,ntmps150
 go_wp2_with fail
 refine(CE.out _ A0.out).mono ?_
 rintro e9 v1 ⟨rfl,b1⟩
 have A1:Hid (Ab w (v1.alloc (.cells #[.int .i64 0,.int .i64 0,.int .i64 0,.int .i64 0] 30))):=(A0.out.call b1).alloc _
 have R1:Hid ((v1.alloc (.cells #[.int .i64 0,.int .i64 0,.int .i64 0,.int .i64 0] 30)).heap[w.heap.size]? =some (.cells #[.int .i64 0,.int .i64 0,.int .i64 0] 197)):=Ab.heap (bl1 _ _) (Ab.heap b1 R0.out)
 have ER1:=hid (heap_alloc_new v1 (.cells #[.int .i64 0,.int .i64 0,.int .i64 0,.int .i64 0] 30))
 clear b1 A0 R0
 obtain⟨⟨o0,o1,o2⟩,o3,o4,o5⟩:=rowfacts R1.out
 go_wp2
 refine bodyPost_ret ?_ rfl ⟨rfl,?_⟩
 ·exact dC results150 _ _ w.heap.size _ _ (0,0) _ _ rfl rfl (lX R1.out) underlying197 rfl (by kernel_rfl)
 ·exact((A1.out.setk (Nat.le_refl _) _).setk (Nat.le_refl _) _).setk (Nat.le_refl _) _
theorem wo12_pos(gp:Value)(e:Int)(u:Nat)(L S R Q p q:Nat)(w:World)(hu1:fgt u 0=true)
  (CE:Hid (∀v,Ab w v->Calls prog 10 #[gp,.int .i64 e] v fun e w'=>e=.returned (.tuple #[.agg #[.int .i64 (L:Nat),.int .i64 (S:Nat),.int .i64 (R:Nat),.int .i64 (Q:Nat)],.bool true])/\Below v.heap.size v w'))
  (CB:Hid (∀v,Ab w v->Calls prog 172 #[gp,.int .i64 e] v fun e w'=>e=.returned (.tuple #[.int .i64 (p:Nat),.int .i64 (q:Nat),.bool true])/\Below v.heap.size v w')):
  Calls prog 150 #[gp,.int .i64 e,.float .f64 u] w fun e w'=>e=.returned (.tuple #[.agg #[.int .i64 (L:Nat),.int .i64 (R:Nat),.int .i64 (p:Nat)],.bool true])/\Below w.heap.size w w':=by
 obtain⟨A0,R0⟩:=aO w (.cells #[.int .i64 0,.int .i64 0,.int .i64 0] 197)
 go_enter func150,ntmps150
 go_wp2_with fail
 refine(CE.out _ A0.out).mono ?_
 rintro e9 v1 ⟨rfl,b1⟩
 have A1:Hid (Ab w (v1.alloc (.cells #[.int .i64 (L:Nat),.int .i64 (S:Nat),.int .i64 (R:Nat),.int .i64 (Q:Nat)] 30))):=(A0.out.call b1).alloc _
 have R1:Hid ((v1.alloc (.cells #[.int .i64 (L:Nat),.int .i64 (S:Nat),.int .i64 (R:Nat),.int .i64 (Q:Nat)] 30)).heap[w.heap.size]? =some (.cells #[.int .i64 0,.int .i64 0,.int .i64 0] 197)):=Ab.heap (bl1 _ _) (Ab.heap b1 R0.out)
 have ER1:=hid (heap_alloc_new v1 (.cells #[.int .i64 (L:Nat),.int .i64 (S:Nat),.int .i64 (R:Nat),.int .i64 (Q:Nat)] 30))
 clear b1 A0 R0
 go_wp2_with fail
 refine(CB.out _ A1.out).mono ?_
 rintro e9 v2 ⟨rfl,b2⟩
 obtain⟨ge,hge⟩:=aB v1.heap.size
 have A2:Hid (Ab w v2):=A1.out.call b2
 have R2:Hid (v2.heap[w.heap.size]? =some (.cells #[.int .i64 0,.int .i64 0,.int .i64 0] 197)):=Ab.heap b2 R1.out
 have ER2:Hid (v2.heap[ge]? =some (.cells #[.int .i64 (L:Nat),.int .i64 (S:Nat),.int .i64 (R:Nat),.int .i64 (Q:Nat)] 30)):=by rw[<- hge];exact Ab.heap b2 ER1.out
 clear b2 A1 R1 ER1
 rw[hge]
 clear hge
 obtain⟨⟨o0,o1,o2⟩,o3,o4,o5⟩:=rowfacts R2.out
 have e0:=aA 0 ER2.out
 have e2:=aA 2 ER2.out
 go_wp2
 refine bodyPost_ret ?_ rfl ⟨rfl,?_⟩
 ·exact dC results150 _ _ w.heap.size _ _ (0,0) _ _ rfl rfl (lX R2.out) underlying197 rfl (by kernel_rfl)
 ·exact((A2.out.setk (Nat.le_refl _) _).setk (Nat.le_refl _) _).setk (Nat.le_refl _) _
theorem wo12_neg(gp:Value)(e:Int)(u:Nat)(L S R Q p q:Nat)(w:World)(hu1:fgt u 0=false)(hu2:flt u 0=true)
  (CE:Hid (∀v,Ab w v->Calls prog 10 #[gp,.int .i64 e] v fun e w'=>e=.returned (.tuple #[.agg #[.int .i64 (L:Nat),.int .i64 (S:Nat),.int .i64 (R:Nat),.int .i64 (Q:Nat)],.bool true])/\Below v.heap.size v w'))
  (CB:Hid (∀v,Ab w v->Calls prog 172 #[gp,.int .i64 e] v fun e w'=>e=.returned (.tuple #[.int .i64 (p:Nat),.int .i64 (q:Nat),.bool true])/\Below v.heap.size v w')):
  Calls prog 150 #[gp,.int .i64 e,.float .f64 u] w fun e w'=>e=.returned (.tuple #[.agg #[.int .i64 (R:Nat),.int .i64 (L:Nat),.int .i64 (q:Nat)],.bool true])/\Below w.heap.size w w':=by
 obtain⟨A0,R0⟩:=aO w (.cells #[.int .i64 0,.int .i64 0,.int .i64 0] 197)
 go_enter func150,ntmps150
 go_wp2_with fail
 refine(CE.out _ A0.out).mono ?_
 rintro e9 v1 ⟨rfl,b1⟩
 have A1:Hid (Ab w (v1.alloc (.cells #[.int .i64 (L:Nat),.int .i64 (S:Nat),.int .i64 (R:Nat),.int .i64 (Q:Nat)] 30))):=(A0.out.call b1).alloc _
 have R1:Hid ((v1.alloc (.cells #[.int .i64 (L:Nat),.int .i64 (S:Nat),.int .i64 (R:Nat),.int .i64 (Q:Nat)] 30)).heap[w.heap.size]? =some (.cells #[.int .i64 0,.int .i64 0,.int .i64 0] 197)):=Ab.heap (bl1 _ _) (Ab.heap b1 R0.out)
 have ER1:=hid (heap_alloc_new v1 (.cells #[.int .i64 (L:Nat),.int .i64 (S:Nat),.int .i64 (R:Nat),.int .i64 (Q:Nat)] 30))
 clear b1 A0 R0
 go_wp2_with fail
 refine(CB.out _ A1.out).mono ?_
 rintro e9 v2 ⟨rfl,b2⟩
 obtain⟨ge,hge⟩:=aB v1.heap.size
 have A2:Hid (Ab w v2):=A1.out.call b2
 have R2:Hid (v2.heap[w.heap.size]? =some (.cells #[.int .i64 0,.int .i64 0,.int .i64 0] 197)):=Ab.heap b2 R1.out
 have ER2:Hid (v2.heap[ge]? =some (.cells #[.int .i64 (L:Nat),.int .i64 (S:Nat),.int .i64 (R:Nat),.int .i64 (Q:Nat)] 30)):=by rw[<- hge];exact Ab.heap b2 ER1.out
 clear b2 A1 R1 ER1
 rw[hge]
 clear hge
 obtain⟨⟨o0,o1,o2⟩,o3,o4,o5⟩:=rowfacts R2.out
 have e0:=aA 0 ER2.out
 have e2:=aA 2 ER2.out
 go_wp2
 refine bodyPost_ret ?_ rfl ⟨rfl,?_⟩
 ·exact dC results150 _ _ w.heap.size _ _ (0,0) _ _ rfl rfl (lX R2.out) underlying197 rfl (by kernel_rfl)
 ·exact((A2.out.setk (Nat.le_refl _) _).setk (Nat.le_refl _) _).setk (Nat.le_refl _) _
theorem Cv(gp:Value)(e:Int)(u:Nat)(L S R Q p q:Nat)(w:World)(hu1:fgt u 0=false)(hu2:flt u 0=false)
  (CE:Hid (∀v,Ab w v->Calls prog 10 #[gp,.int .i64 e] v fun e w'=>e=.returned (.tuple #[.agg #[.int .i64 (L:Nat),.int .i64 (S:Nat),.int .i64 (R:Nat),.int .i64 (Q:Nat)],.bool true])/\Below v.heap.size v w'))
  (CB:Hid (∀v,Ab w v->Calls prog 172 #[gp,.int .i64 e] v fun e w'=>e=.returned (.tuple #[.int .i64 (p:Nat),.int .i64 (q:Nat),.bool true])/\Below v.heap.size v w')):
  Calls prog 150 #[gp,.int .i64 e,.float .f64 u] w fun e w'=>e=.returned (.tuple #[.agg #[.int .i64 0,.int .i64 0,.int .i64 0],.bool false])/\Below w.heap.size w w':=by
 obtain⟨A0,R0⟩:=aO w (.cells #[.int .i64 0,.int .i64 0,.int .i64 0] 197)
 go_enter func150,ntmps150
 go_wp2_with fail
 refine(CE.out _ A0.out).mono ?_
 rintro e9 v1 ⟨rfl,b1⟩
 have A1:Hid (Ab w (v1.alloc (.cells #[.int .i64 (L:Nat),.int .i64 (S:Nat),.int .i64 (R:Nat),.int .i64 (Q:Nat)] 30))):=(A0.out.call b1).alloc _
 have R1:Hid ((v1.alloc (.cells #[.int .i64 (L:Nat),.int .i64 (S:Nat),.int .i64 (R:Nat),.int .i64 (Q:Nat)] 30)).heap[w.heap.size]? =some (.cells #[.int .i64 0,.int .i64 0,.int .i64 0] 197)):=Ab.heap (bl1 _ _) (Ab.heap b1 R0.out)
 have ER1:=hid (heap_alloc_new v1 (.cells #[.int .i64 (L:Nat),.int .i64 (S:Nat),.int .i64 (R:Nat),.int .i64 (Q:Nat)] 30))
 clear b1 A0 R0
 go_wp2_with fail
 refine(CB.out _ A1.out).mono ?_
 rintro e9 v2 ⟨rfl,b2⟩
 obtain⟨ge,hge⟩:=aB v1.heap.size
 have A2:Hid (Ab w v2):=A1.out.call b2
 have R2:Hid (v2.heap[w.heap.size]? =some (.cells #[.int .i64 0,.int .i64 0,.int .i64 0] 197)):=Ab.heap b2 R1.out
 have ER2:Hid (v2.heap[ge]? =some (.cells #[.int .i64 (L:Nat),.int .i64 (S:Nat),.int .i64 (R:Nat),.int .i64 (Q:Nat)] 30)):=by rw[<- hge];exact Ab.heap b2 ER1.out
 clear b2 A1 R1 ER1
 rw[hge]
 clear hge
 obtain⟨⟨o0,o1,o2⟩,o3,o4,o5⟩:=rowfacts R2.out
 have e0:=aA 0 ER2.out
 have e2:=aA 2 ER2.out
 go_wp2
 refine bodyPost_ret ?_ rfl ⟨rfl,?_⟩
 ·exact dC results150 _ _ w.heap.size _ _ (0,0) _ _ rfl rfl (lX R2.out) underlying197 rfl (by kernel_rfl)
 ·exact((A2.out.setk (Nat.le_refl _) _).setk (Nat.le_refl _) _).setk (Nat.le_refl _) _
theorem Am(gp:Value)(bb bo wb wo M cb cw:Nat)(pt ps:Option Addr)(lt ct ls cs:Nat)(sky st:Int)(k:Int)(U D K:Nat)(h hk hd x y s f vv:Nat)(w:World)
  (DU:Hid (∀v,Ab w v->Calls prog 173 #[gp,.agg #[.slice (some ⟨bb,bo,none⟩) M cb,.slice (some ⟨wb,wo,none⟩) M cw,.slice pt lt ct,.slice ps ls cs,.int .i64 sky,.int .i64 st],.int .i64 (U:Nat)] v fun e w'=>e=.returned (.float .f64 h)/\Below v.heap.size v w'))
  (DK:Hid (∀v,Ab w v->Calls prog 173 #[gp,.agg #[.slice (some ⟨bb,bo,none⟩) M cb,.slice (some ⟨wb,wo,none⟩) M cw,.slice pt lt ct,.slice ps ls cs,.int .i64 sky,.int .i64 st],.int .i64 (K:Nat)] v fun e w'=>e=.returned (.float .f64 hk)/\Below v.heap.size v w'))
  (DD:Hid (∀v,Ab w v->Calls prog 173 #[gp,.agg #[.slice (some ⟨bb,bo,none⟩) M cb,.slice (some ⟨wb,wo,none⟩) M cw,.slice pt lt ct,.slice ps ls cs,.int .i64 sky,.int .i64 st],.int .i64 (D:Nat)] v fun e w'=>e=.returned (.float .f64 hd)/\Below v.heap.size v w'))
  (CS:Hid (∀v:World,Calls prog 174 #[.int .i64 k,.float .f64 x,.float .f64 y] v fun e w'=>e=.returned (.float .f64 s)/\Below v.heap.size v w'))
  (hx: ∀(t:TypeId) (w:World),(binOp .sub t (.float .f64 h) (.float .f64 hk)).run prog w=.ok (.float .f64 x) w)
  (hy: ∀(t:TypeId) (w:World),(binOp .sub t (.float .f64 hd) (.float .f64 h)).run prog w=.ok (.float .f64 y) w)
  (hm: ∀(t:TypeId) (w:World),(binOp .mul t (.float .f64 4602678819172646912) (.float .f64 s)).run prog w=.ok (.float .f64 f) w)
  (hv: ∀(t:TypeId) (w:World),(binOp .add t (.float .f64 h) (.float .f64 f)).run prog w=.ok (.float .f64 vv) w):
  Calls prog 152 #[.agg #[.int .i64 (U:Nat),.int .i64 (D:Nat),.int .i64 (K:Nat)],gp,.int .i64 k,.agg #[.slice (some ⟨bb,bo,none⟩) M cb,.slice (some ⟨wb,wo,none⟩) M cw,.slice pt lt ct,.slice ps ls cs,.int .i64 sky,.int .i64 st]] w fun e w'=>e=.returned (.float .f64 vv)/\Below w.heap.size w w':=by
 obtain⟨A0,RW0,RS0⟩:=bZ w (.cells #[.int .i64 (U:Nat),.int .i64 (D:Nat),.int .i64 (K:Nat)] 197) (.cells #[.slice (some ⟨bb,bo,none⟩) M cb,.slice (some ⟨wb,wo,none⟩) M cw,.slice pt lt ct,.slice ps ls cs,.int .i64 sky,.int .i64 st] 48)
 go_enter func152,ntmps152
 have AV:Hid (Ab ((w.alloc (.cells #[.int .i64 (U:Nat),.int .i64 (D:Nat),.int .i64 (K:Nat)] 197)).alloc (.cells #[.slice (some ⟨bb,bo,none⟩) M cb,.slice (some ⟨wb,wo,none⟩) M cw,.slice pt lt ct,.slice ps ls cs,.int .i64 sky,.int .i64 st] 48)) ((w.alloc (.cells #[.int .i64 (U:Nat),.int .i64 (D:Nat),.int .i64 (K:Nat)] 197)).alloc (.cells #[.slice (some ⟨bb,bo,none⟩) M cb,.slice (some ⟨wb,wo,none⟩) M cw,.slice pt lt ct,.slice ps ls cs,.int .i64 sky,.int .i64 st] 48))):=Ab.refl _
 have s0:=aG (AV.out.heap RS0.out)
 have y0:=aA 0 (AV.out.heap RW0.out)
 have y1:=aA 1 (AV.out.heap RW0.out)
 have y2:=aA 2 (AV.out.heap RW0.out)
 go_wp2_with fail
 generalize hW:World.alloc (World.alloc w _) _=W at*
 obtain⟨g0,hg0⟩:=aB w.heap.size
 obtain⟨g1,hg1⟩:=aB (w.heap.size+1)
 rw[hg0]at RW0
 rw[hg1]at RS0
 clear s0 y0 y1 y2
 clear hW
 refine(DU.out _ (A0.out.trans AV.out)).mono ?_
 rintro e9 v1 ⟨rfl,b1⟩
 have AV2:Hid (Ab W v1):=AV.out.call b1
 clear b1 AV
 have AV:=AV2
 clear AV2
 rw[hg1,hg0]
 clear hg0 hg1
 have s0:=aG (AV.out.heap RS0.out)
 have y0:=aA 0 (AV.out.heap RW0.out)
 have y1:=aA 1 (AV.out.heap RW0.out)
 have y2:=aA 2 (AV.out.heap RW0.out)
 go_wp2_with fail
 clear s0 y0 y1 y2
 refine(DK.out _ (A0.out.trans AV.out)).mono ?_
 rintro e9 v2 ⟨rfl,b1⟩
 have AV2:Hid (Ab W v2):=AV.out.call b1
 clear b1 AV
 have AV:=AV2
 clear AV2
 have s0:=aG (AV.out.heap RS0.out)
 have y0:=aA 0 (AV.out.heap RW0.out)
 have y1:=aA 1 (AV.out.heap RW0.out)
 have y2:=aA 2 (AV.out.heap RW0.out)
 go_wp2_with fail
 clear s0 y0 y1 y2
 refine(DD.out _ (A0.out.trans AV.out)).mono ?_
 rintro e9 v3 ⟨rfl,b1⟩
 have AV2:Hid (Ab W v3):=AV.out.call b1
 clear b1 AV
 have AV:=AV2
 clear AV2
 go_wp2_with fail
 refine(CS.out _).mono ?_
 rintro e9 v4 ⟨rfl,b1⟩
 have AV2:Hid (Ab W v4):=AV.out.call b1
 clear b1
 go_wp2
 go_ret
 exact⟨rfl,A0.out.trans AV2.out⟩
end
section
open Go.RowKit Tf Cu
attribute [local go_sem] aJ aK aP aQ aR aV aX aD
theorem tG(gp:Value)(bb bo wb wo M cb cw:Nat)(pt ps:Option Addr)(lt ct ls cs:Nat)(sky st:Int)(U D K:Nat)(wU aU:Int)(bU bD l m:Nat)(w:World)(hU:((U:Nat):Int)<M)(hD:((D:Nat):Int)<M)
  (FW:Hid (∀v,Ab w v->v.cell? ⟨wb,wo+U,none⟩=some (.int .i64 wU)/\v.cell? ⟨bb,bo+U,none⟩=some (.float .f64 bU)/\v.cell? ⟨bb,bo+D,none⟩=some (.float .f64 bD)))
  (AU:Hid (∀v,Ab w v->Calls prog 17 #[gp,.int .i64 (U:Nat)] v fun e w'=>e=.returned (.int .i64 aU)/\Below v.heap.size v w'))
  (CL:Hid (∀v:World,Calls prog 175 #[.float .f64 bU,.int .i64 wU,.int .i64 aU] v fun e w'=>e=.returned (.float .f64 l)/\Below v.heap.size v w'))
  (CM:Hid (∀v:World,Calls prog 176 #[.float .f64 bU,.float .f64 bD] v fun e w'=>e=.returned (.float .f64 m)/\Below v.heap.size v w'))
  (g:Nat)
  (hg: ∀(t:TypeId) (w:World),(binOp .sub t (.float .f64 l) (.float .f64 m)).run prog w=.ok (.float .f64 g) w):
  Calls prog 153 #[.agg #[.int .i64 (U:Nat),.int .i64 (D:Nat),.int .i64 (K:Nat)],gp,.agg #[.slice (some ⟨bb,bo,none⟩) M cb,.slice (some ⟨wb,wo,none⟩) M cw,.slice pt lt ct,.slice ps ls cs,.int .i64 sky,.int .i64 st]] w fun e w'=>e=.returned (.float .f64 g)/\Below w.heap.size w w':=by
 obtain⟨A0,RW0,RS0⟩:=bZ w (.cells #[.int .i64 (U:Nat),.int .i64 (D:Nat),.int .i64 (K:Nat)] 197) (.cells #[.slice (some ⟨bb,bo,none⟩) M cb,.slice (some ⟨wb,wo,none⟩) M cw,.slice pt lt ct,.slice ps ls cs,.int .i64 sky,.int .i64 st] 48)
 have AV:Hid (Ab ((w.alloc (.cells #[.int .i64 (U:Nat),.int .i64 (D:Nat),.int .i64 (K:Nat)] 197)).alloc (.cells #[.slice (some ⟨bb,bo,none⟩) M cb,.slice (some ⟨wb,wo,none⟩) M cw,.slice pt lt ct,.slice ps ls cs,.int .i64 sky,.int .i64 st] 48)) ((w.alloc (.cells #[.int .i64 (U:Nat),.int .i64 (D:Nat),.int .i64 (K:Nat)] 197)).alloc (.cells #[.slice (some ⟨bb,bo,none⟩) M cb,.slice (some ⟨wb,wo,none⟩) M cw,.slice pt lt ct,.slice ps ls cs,.int .i64 sky,.int .i64 st] 48))):=Ab.refl _
 have bb1:=(FW.out _ A0.out).2.1
 go_enter func153,ntmps153
 have s0:=aA 0 RS0.out
 have y0:=aA 0 RW0.out
 go_upto_region 2 with fail
 clear s0 y0 bb1
 generalize hW:World.alloc (World.alloc w _) _=W at*
 obtain⟨g0,hg0⟩:=aB w.heap.size
 obtain⟨g1,hg1⟩:=aB (w.heap.size+1)
 rw[hg0]at RW0
 rw[hg1]at RS0
 rw[hg1,hg0]
 clear hg0 hg1 hW AV
 obtain⟨UU,E,hF1,hF2⟩:=cls W
 have HU:=hid hF2
 have HU1:=hid hF1
 have HX:Hid (∀u,Ab w (E u)):=fun u=>Ab.trans A0.out (hF1 u)
 have s0: ∀u,(E u).cell? ⟨g1,0,none⟩=some (.slice (some ⟨bb,bo,none⟩) M cb):=fun u=>aA 0 ((hF1 u).heap RS0.out)
 have s1: ∀u,(E u).cell? ⟨g1,1,none⟩=some (.slice (some ⟨wb,wo,none⟩) M cw):=fun u=>aA 1 ((hF1 u).heap RS0.out)
 have y0: ∀u,(E u).cell? ⟨g0,0,none⟩=some (.int .i64 (U:Nat)):=fun u=>aA 0 ((hF1 u).heap RW0.out)
 have y1: ∀u,(E u).cell? ⟨g0,1,none⟩=some (.int .i64 (D:Nat)):=fun u=>aA 1 ((hF1 u).heap RW0.out)
 have xw: ∀u,(E u).cell? ⟨wb,wo+U,none⟩=some (.int .i64 wU):=fun u=>(FW.out _ (HX.out u)).1
 have xd: ∀u,(E u).cell? ⟨bb,bo+D,none⟩=some (.float .f64 bD):=fun u=>(FW.out _ (HX.out u)).2.2
 have DD0:=HU.out _ (Ab.refl W).drew
 clear hF1 hF2
 refine aM E (by kernel_rfl) (by kernel_rfl) DD0 ?_
 repeat(go_big_quiet_step (first
  | (with_reducible rfl)
  | (go_at_call 17;exact aH HU HU1 (AU.out _ (HX.out _)))
  | (go_at_call 175;exact aH HU HU1 (CL.out _))
  | (go_at_call 176;exact aH HU HU1 (CM.out _))))
 refine wpQuiet_nil ?_
 intro z hwz
 obtain⟨u0,hu⟩:=hwz
 have AZ:Hid (Ab w z):=by rw[hu];exact HX.out u0
 clear hu u0
 clear HU HU1 HX DD0 s0 s1 y0 y1 xw xd
 clear E UU
 go_wp2
 go_ret
 exact⟨rfl,AZ.out⟩
theorem tH(gp:Value)(bb bo wb wo M cb cw:Nat)(pt ps:Option Addr)(lt ct ls cs:Nat)(sky st:Int)(U D K:Nat)(wU aU:Int)(bU bD l m:Nat)(w:World)(hU:((U:Nat):Int)<M)(hD:((D:Nat):Int)<M)
  (FW:Hid (∀v,Ab w v->v.cell? ⟨wb,wo+U,none⟩=some (.int .i64 wU)/\v.cell? ⟨bb,bo+U,none⟩=some (.float .f64 bU)/\v.cell? ⟨bb,bo+D,none⟩=some (.float .f64 bD)))
  (AU:Hid (∀v,Ab w v->Calls prog 17 #[gp,.int .i64 (U:Nat)] v fun e w'=>e=.returned (.int .i64 aU)/\Below v.heap.size v w'))
  (CL:Hid (∀v:World,Calls prog 175 #[.float .f64 bU,.int .i64 wU,.int .i64 aU] v fun e w'=>e=.returned (.float .f64 l)/\Below v.heap.size v w'))
  (CM:Hid (∀v:World,Calls prog 176 #[.float .f64 bU,.float .f64 bD] v fun e w'=>e=.returned (.float .f64 m)/\Below v.heap.size v w'))
  (hg: ∀(t:TypeId) (w:World),(binOp .sub t (.float .f64 l) (.float .f64 m)).run prog w=.ok (.float .f64 (nanOf w l m)) (w.drewN 1)):
  Calls prog 153 #[.agg #[.int .i64 (U:Nat),.int .i64 (D:Nat),.int .i64 (K:Nat)],gp,.agg #[.slice (some ⟨bb,bo,none⟩) M cb,.slice (some ⟨wb,wo,none⟩) M cw,.slice pt lt ct,.slice ps ls cs,.int .i64 sky,.int .i64 st]] w fun e w'=> ∃g,e=.returned (.float .f64 g)/\(g<18446744073709551616/\isN g=true)/\Below w.heap.size w w':=by
 obtain⟨A0,RW0,RS0⟩:=bZ w (.cells #[.int .i64 (U:Nat),.int .i64 (D:Nat),.int .i64 (K:Nat)] 197) (.cells #[.slice (some ⟨bb,bo,none⟩) M cb,.slice (some ⟨wb,wo,none⟩) M cw,.slice pt lt ct,.slice ps ls cs,.int .i64 sky,.int .i64 st] 48)
 have AV:Hid (Ab ((w.alloc (.cells #[.int .i64 (U:Nat),.int .i64 (D:Nat),.int .i64 (K:Nat)] 197)).alloc (.cells #[.slice (some ⟨bb,bo,none⟩) M cb,.slice (some ⟨wb,wo,none⟩) M cw,.slice pt lt ct,.slice ps ls cs,.int .i64 sky,.int .i64 st] 48)) ((w.alloc (.cells #[.int .i64 (U:Nat),.int .i64 (D:Nat),.int .i64 (K:Nat)] 197)).alloc (.cells #[.slice (some ⟨bb,bo,none⟩) M cb,.slice (some ⟨wb,wo,none⟩) M cw,.slice pt lt ct,.slice ps ls cs,.int .i64 sky,.int .i64 st] 48))):=Ab.refl _
 have bb1:=(FW.out _ A0.out).2.1
 go_enter func153,ntmps153
 have s0:=aA 0 RS0.out
 have y0:=aA 0 RW0.out
 go_upto_region 2 with fail
 clear s0 y0 bb1
 generalize hW:World.alloc (World.alloc w _) _=W at*
 obtain⟨g0,hg0⟩:=aB w.heap.size
 obtain⟨g1,hg1⟩:=aB (w.heap.size+1)
 rw[hg0]at RW0
 rw[hg1]at RS0
 rw[hg1,hg0]
 clear hg0 hg1 hW AV
 obtain⟨UU,E,hF1,hF2⟩:=cls W
 have HU:=hid hF2
 have HU1:=hid hF1
 have HX:Hid (∀u,Ab w (E u)):=fun u=>Ab.trans A0.out (hF1 u)
 have s0: ∀u,(E u).cell? ⟨g1,0,none⟩=some (.slice (some ⟨bb,bo,none⟩) M cb):=fun u=>aA 0 ((hF1 u).heap RS0.out)
 have s1: ∀u,(E u).cell? ⟨g1,1,none⟩=some (.slice (some ⟨wb,wo,none⟩) M cw):=fun u=>aA 1 ((hF1 u).heap RS0.out)
 have y0: ∀u,(E u).cell? ⟨g0,0,none⟩=some (.int .i64 (U:Nat)):=fun u=>aA 0 ((hF1 u).heap RW0.out)
 have y1: ∀u,(E u).cell? ⟨g0,1,none⟩=some (.int .i64 (D:Nat)):=fun u=>aA 1 ((hF1 u).heap RW0.out)
 have xw: ∀u,(E u).cell? ⟨wb,wo+U,none⟩=some (.int .i64 wU):=fun u=>(FW.out _ (HX.out u)).1
 have xd: ∀u,(E u).cell? ⟨bb,bo+D,none⟩=some (.float .f64 bD):=fun u=>(FW.out _ (HX.out u)).2.2
 have DD0:=HU.out _ (Ab.refl W).drew
 clear hF1 hF2
 refine cS 20 E (by kernel_rfl) (by kernel_rfl) (by kernel_rfl) DD0 ?_
 simp only[List.take_succ_cons,List.take_zero,List.drop_succ_cons,List.drop_zero]
 repeat(go_big_quiet_step (first
  | (with_reducible rfl)
  | (go_at_call 17;exact aH HU HU1 (AU.out _ (HX.out _)))
  | (go_at_call 175;exact aH HU HU1 (CL.out _))
  | (go_at_call 176;exact aH HU HU1 (CM.out _))))
 refine wpQuiet_nil ?_
 intro z hwz
 obtain⟨u0,hu⟩:=hwz
 have AZ:Hid (Ab w z):=by rw[hu];exact HX.out u0
 clear hu u0
 clear HU HU1 HX DD0 s0 s1 y0 y1 xw xd
 clear E UU
 go_wp2
 go_ret
 exact⟨_,rfl,⟨fZ _ _ _,eA _ _ _⟩,Ab.drewN AZ.out 1⟩
end
section
open Go.RowKit Tf Cu
attribute [local go_sem] aJ aK aP aQ aR aV aX aD
theorem Cw(gp:Value)(pb pw pt ps:Option Addr)(lb cb lw cw lt ct ls cs:Nat)(sky st:Int)(k:Int)(e:Int)(u:Nat)(w:World)
  (CF:Hid (∀v,Ab w v->Calls prog 149 #[gp,.agg #[.slice pb lb cb,.slice pw lw cw,.slice pt lt ct,.slice ps ls cs,.int .i64 sky,.int .i64 st]] v fun e w'=>e=.returned (.bool false)/\Below v.heap.size v w')):
  Calls prog 113 #[gp,.int .i64 k,.agg #[.slice pb lb cb,.slice pw lw cw,.slice pt lt ct,.slice ps ls cs,.int .i64 sky,.int .i64 st],.int .i64 e,.float .f64 u] w fun e w'=>e=.returned (.float .f64 0)/\Below w.heap.size w w':=by
 obtain⟨A0,RO⟩:=aO w (.cells #[.slice pb lb cb,.slice pw lw cw,.slice pt lt ct,.slice ps ls cs,.int .i64 sky,.int .i64 st] 48)
 go_enter func113,ntmps113
 have s0:=aG RO.out
 go_wp2_with fail
 clear s0
 refine(CF.out _ A0.out).mono ?_
 rintro e9 v1 ⟨rfl,b1⟩
 have A1:Hid (Ab w v1):=A0.out.call b1
 have RO1:Hid (v1.heap[w.heap.size]? =some (.cells #[.slice pb lb cb,.slice pw lw cw,.slice pt lt ct,.slice ps ls cs,.int .i64 sky,.int .i64 st] 48)):=Ab.heap b1 RO.out
 clear b1 A0 RO
 go_wp2
 go_ret
 exact⟨rfl,A1.out⟩
theorem tI(gp:Value)(pb pw pt ps:Option Addr)(lb cb lw cw lt ct ls cs:Nat)(sky st:Int)(k:Int)(e:Int)(u:Nat)(w:World)
  (CF:Hid (∀v,Ab w v->Calls prog 149 #[gp,.agg #[.slice pb lb cb,.slice pw lw cw,.slice pt lt ct,.slice ps ls cs,.int .i64 sky,.int .i64 st]] v fun e w'=>e=.returned (.bool true)/\Below v.heap.size v w'))
  (CW:Hid (∀v,Ab w v->Calls prog 150 #[gp,.int .i64 e,.float .f64 u] v fun e w'=>e=.returned (.tuple #[.agg #[.int .i64 0,.int .i64 0,.int .i64 0],.bool false])/\Below v.heap.size v w')):
  Calls prog 113 #[gp,.int .i64 k,.agg #[.slice pb lb cb,.slice pw lw cw,.slice pt lt ct,.slice ps ls cs,.int .i64 sky,.int .i64 st],.int .i64 e,.float .f64 u] w fun e w'=>e=.returned (.float .f64 0)/\Below w.heap.size w w':=by
 obtain⟨A0,RO⟩:=aO w (.cells #[.slice pb lb cb,.slice pw lw cw,.slice pt lt ct,.slice ps ls cs,.int .i64 sky,.int .i64 st] 48)
 go_enter func113,ntmps113
 have s0:=aG RO.out
 go_wp2_with fail
 clear s0
 refine(CF.out _ A0.out).mono ?_
 rintro e9 v1 ⟨rfl,b1⟩
 have A1:Hid (Ab w v1):=A0.out.call b1
 have RO1:Hid (v1.heap[w.heap.size]? =some (.cells #[.slice pb lb cb,.slice pw lw cw,.slice pt lt ct,.slice ps ls cs,.int .i64 sky,.int .i64 st] 48)):=Ab.heap b1 RO.out
 clear b1 A0 RO
 go_wp2_with fail
 refine(CW.out _ A1.out).mono ?_
 rintro e9 v2 ⟨rfl,b2⟩
 have A2:Hid (Ab w (v2.alloc (.cells #[.int .i64 0,.int .i64 0,.int .i64 0] 197))):=(A1.out.call b2).alloc _
 clear b2 A1 RO1
 go_wp2
 go_ret
 exact⟨rfl,A2.out⟩
theorem Gr(gp:Value)(bb bo wb wo M cb cw:Nat)(pt ps:Option Addr)(lt ct ls cs:Nat)(sky st:Int)(k:Int)(e:Int)(u:Nat)(w:World)(U D K vv r:Nat)(c:Bool)
  (CF:Hid (∀v,Ab w v->Calls prog 149 #[gp,.agg #[.slice (some ⟨bb,bo,none⟩) M cb,.slice (some ⟨wb,wo,none⟩) M cw,.slice pt lt ct,.slice ps ls cs,.int .i64 sky,.int .i64 st]] v fun e w'=>e=.returned (.bool true)/\Below v.heap.size v w'))
  (CW:Hid (∀v,Ab w v->Calls prog 150 #[gp,.int .i64 e,.float .f64 u] v fun e w'=>e=.returned (.tuple #[.agg #[.int .i64 (U:Nat),.int .i64 (D:Nat),.int .i64 (K:Nat)],.bool true])/\Below v.heap.size v w'))
  (CO:Hid (∀v,Ab w v->Calls prog 152 #[.agg #[.int .i64 (U:Nat),.int .i64 (D:Nat),.int .i64 (K:Nat)],gp,.int .i64 k,.agg #[.slice (some ⟨bb,bo,none⟩) M cb,.slice (some ⟨wb,wo,none⟩) M cw,.slice pt lt ct,.slice ps ls cs,.int .i64 sky,.int .i64 st]] v fun e w'=>e=.returned (.float .f64 vv)/\Below v.heap.size v w'))
  (g:Nat)
  (CG:Hid (∀v,Ab w v->Calls prog 153 #[.agg #[.int .i64 (U:Nat),.int .i64 (D:Nat),.int .i64 (K:Nat)],gp,.agg #[.slice (some ⟨bb,bo,none⟩) M cb,.slice (some ⟨wb,wo,none⟩) M cw,.slice pt lt ct,.slice ps ls cs,.int .i64 sky,.int .i64 st]] v fun e w'=>e=.returned (.float .f64 g)/\Below v.heap.size v w'))
  (CN:Hid (∀v:World,Calls prog 151 #[.float .f64 vv,.float .f64 g] v fun e w'=>e=.returned (.float .f64 r)/\Below v.heap.size v w'))
  (hr:fgt r 0=c):
  Calls prog 113 #[gp,.int .i64 k,.agg #[.slice (some ⟨bb,bo,none⟩) M cb,.slice (some ⟨wb,wo,none⟩) M cw,.slice pt lt ct,.slice ps ls cs,.int .i64 sky,.int .i64 st],.int .i64 e,.float .f64 u] w fun e w'=>e=.returned (.float .f64 (if c=true then r else 0))/\Below w.heap.size w w':=by
 obtain⟨A0,RO⟩:=aO w (.cells #[.slice (some ⟨bb,bo,none⟩) M cb,.slice (some ⟨wb,wo,none⟩) M cw,.slice pt lt ct,.slice ps ls cs,.int .i64 sky,.int .i64 st] 48)
 go_enter func113,ntmps113
 obtain⟨s0,s1,s2,s3,s4,s5⟩:=aG RO.out
 go_wp2_with fail
 clear s0 s1 s2 s3 s4 s5
 refine(CF.out _ A0.out).mono ?_
 rintro e9 v1 ⟨rfl,b1⟩
 have A1:Hid (Ab w v1):=A0.out.call b1
 have RO1:Hid (v1.heap[w.heap.size]? =some (.cells #[.slice (some ⟨bb,bo,none⟩) M cb,.slice (some ⟨wb,wo,none⟩) M cw,.slice pt lt ct,.slice ps ls cs,.int .i64 sky,.int .i64 st] 48)):=Ab.heap b1 RO.out
 clear b1 A0 RO
 go_wp2_with fail
 refine(CW.out _ A1.out).mono ?_
 rintro e9 v2 ⟨rfl,b2⟩
 have A2:Hid (Ab w (v2.alloc (.cells #[.int .i64 (U:Nat),.int .i64 (D:Nat),.int .i64 (K:Nat)] 197))):=(A1.out.call b2).alloc _
 have RS:Hid ((v2.alloc (.cells #[.int .i64 (U:Nat),.int .i64 (D:Nat),.int .i64 (K:Nat)] 197)).heap[w.heap.size]? =some (.cells #[.slice (some ⟨bb,bo,none⟩) M cb,.slice (some ⟨wb,wo,none⟩) M cw,.slice pt lt ct,.slice ps ls cs,.int .i64 sky,.int .i64 st] 48)):=Ab.heap (bl1 _ _) (Ab.heap b2 RO1.out)
 have RW:=hid (heap_alloc_new v2 (.cells #[.int .i64 (U:Nat),.int .i64 (D:Nat),.int .i64 (K:Nat)] 197))
 clear b2 A1 RO1
 go_upto_region 6 with fail
 generalize hW:World.alloc v2 _=W at*
 obtain⟨gs,hgs⟩:=aB w.heap.size
 obtain⟨ge,hge⟩:=aB v2.heap.size
 rw[hgs]at RS
 rw[hge]at RW
 rw[hge,hgs]
 clear hW hgs hge
 obtain⟨UU,E,hF1,hF2⟩:=cls W
 have HU:=hid hF2
 have HU1:=hid hF1
 have HX:Hid (∀u,Ab w (E u)):=fun u=>Ab.trans A2.out (hF1 u)
 have s0: ∀u,(E u).cell? ⟨gs,0,none⟩=some (.slice (some ⟨bb,bo,none⟩) M cb):=fun u=>aA 0 ((hF1 u).heap RS.out)
 have s1: ∀u,(E u).cell? ⟨gs,1,none⟩=some (.slice (some ⟨wb,wo,none⟩) M cw):=fun u=>aA 1 ((hF1 u).heap RS.out)
 have s2: ∀u,(E u).cell? ⟨gs,2,none⟩=some (.slice pt lt ct):=fun u=>aA 2 ((hF1 u).heap RS.out)
 have s3: ∀u,(E u).cell? ⟨gs,3,none⟩=some (.slice ps ls cs):=fun u=>aA 3 ((hF1 u).heap RS.out)
 have s4: ∀u,(E u).cell? ⟨gs,4,none⟩=some (.int .i64 sky):=fun u=>aA 4 ((hF1 u).heap RS.out)
 have s5: ∀u,(E u).cell? ⟨gs,5,none⟩=some (.int .i64 st):=fun u=>aA 5 ((hF1 u).heap RS.out)
 have y0: ∀u,(E u).cell? ⟨ge,0,none⟩=some (.int .i64 (U:Nat)):=fun u=>aA 0 ((hF1 u).heap RW.out)
 have y1: ∀u,(E u).cell? ⟨ge,1,none⟩=some (.int .i64 (D:Nat)):=fun u=>aA 1 ((hF1 u).heap RW.out)
 have y2: ∀u,(E u).cell? ⟨ge,2,none⟩=some (.int .i64 (K:Nat)):=fun u=>aA 2 ((hF1 u).heap RW.out)
 have DD0:=HU.out _ (Ab.refl W).drew
 clear hF1 hF2
 refine aM E (by kernel_rfl) (by kernel_rfl) DD0 ?_
 repeat(go_big_quiet_step (first
  | (with_reducible rfl)
  | (go_at_call 152;exact aH HU HU1 (CO.out _ (HX.out _)))
  | (go_at_call 153;exact aH HU HU1 (CG.out _ (HX.out _)))
  | (go_at_call 151;exact aH HU HU1 (CN.out _))))
 refine wpQuiet_nil ?_
 intro z hwz
 obtain⟨u0,hu⟩:=hwz
 have AZ:Hid (Ab w z):=by rw[hu];exact HX.out u0
 clear hu u0
 clear HU HU1 HX DD0 s0 s1 s2 s3 s4 s5 y0 y1 y2
 clear E UU
 have AY:Hid (Ab w z):=AZ.out
 clear AZ
 cases c
 ·go_wp2
  go_ret
  exact⟨rfl,AY.out⟩
 ·go_wp2
  go_ret
  exact⟨rfl,AY.out⟩
theorem Gs(gp:Value)(bb bo wb wo M cb cw:Nat)(pt ps:Option Addr)(lt ct ls cs:Nat)(sky st:Int)(k:Int)(e:Int)(u:Nat)(w:World)(U D K vv r:Nat)(c:Bool)
  (CF:Hid (∀v,Ab w v->Calls prog 149 #[gp,.agg #[.slice (some ⟨bb,bo,none⟩) M cb,.slice (some ⟨wb,wo,none⟩) M cw,.slice pt lt ct,.slice ps ls cs,.int .i64 sky,.int .i64 st]] v fun e w'=>e=.returned (.bool true)/\Below v.heap.size v w'))
  (CW:Hid (∀v,Ab w v->Calls prog 150 #[gp,.int .i64 e,.float .f64 u] v fun e w'=>e=.returned (.tuple #[.agg #[.int .i64 (U:Nat),.int .i64 (D:Nat),.int .i64 (K:Nat)],.bool true])/\Below v.heap.size v w'))
  (CO:Hid (∀v,Ab w v->Calls prog 152 #[.agg #[.int .i64 (U:Nat),.int .i64 (D:Nat),.int .i64 (K:Nat)],gp,.int .i64 k,.agg #[.slice (some ⟨bb,bo,none⟩) M cb,.slice (some ⟨wb,wo,none⟩) M cw,.slice pt lt ct,.slice ps ls cs,.int .i64 sky,.int .i64 st]] v fun e w'=>e=.returned (.float .f64 vv)/\Below v.heap.size v w'))
  (CG:Hid (∀v,Ab w v->Calls prog 153 #[.agg #[.int .i64 (U:Nat),.int .i64 (D:Nat),.int .i64 (K:Nat)],gp,.agg #[.slice (some ⟨bb,bo,none⟩) M cb,.slice (some ⟨wb,wo,none⟩) M cw,.slice pt lt ct,.slice ps ls cs,.int .i64 sky,.int .i64 st]] v fun e w'=> ∃g,e=.returned (.float .f64 g)/\(g<18446744073709551616/\isN g=true)/\Below v.heap.size v w'))
  (CN:Hid (∀g,g<18446744073709551616->isN g=true-> ∀v:World,Calls prog 151 #[.float .f64 vv,.float .f64 g] v fun e w'=>e=.returned (.float .f64 r)/\Below v.heap.size v w'))
  (hr:fgt r 0=c):
  Calls prog 113 #[gp,.int .i64 k,.agg #[.slice (some ⟨bb,bo,none⟩) M cb,.slice (some ⟨wb,wo,none⟩) M cw,.slice pt lt ct,.slice ps ls cs,.int .i64 sky,.int .i64 st],.int .i64 e,.float .f64 u] w fun e w'=>e=.returned (.float .f64 (if c=true then r else 0))/\Below w.heap.size w w':=by
 obtain⟨A0,RO⟩:=aO w (.cells #[.slice (some ⟨bb,bo,none⟩) M cb,.slice (some ⟨wb,wo,none⟩) M cw,.slice pt lt ct,.slice ps ls cs,.int .i64 sky,.int .i64 st] 48)
 go_enter func113,ntmps113
 obtain⟨s0,s1,s2,s3,s4,s5⟩:=aG RO.out
 go_wp2_with fail
 clear s0 s1 s2 s3 s4 s5
 refine(CF.out _ A0.out).mono ?_
 rintro e9 v1 ⟨rfl,b1⟩
 have A1:Hid (Ab w v1):=A0.out.call b1
 have RO1:Hid (v1.heap[w.heap.size]? =some (.cells #[.slice (some ⟨bb,bo,none⟩) M cb,.slice (some ⟨wb,wo,none⟩) M cw,.slice pt lt ct,.slice ps ls cs,.int .i64 sky,.int .i64 st] 48)):=Ab.heap b1 RO.out
 clear b1 A0 RO
 go_wp2_with fail
 refine(CW.out _ A1.out).mono ?_
 rintro e9 v2 ⟨rfl,b2⟩
 have A2:Hid (Ab w (v2.alloc (.cells #[.int .i64 (U:Nat),.int .i64 (D:Nat),.int .i64 (K:Nat)] 197))):=(A1.out.call b2).alloc _
 have RS:Hid ((v2.alloc (.cells #[.int .i64 (U:Nat),.int .i64 (D:Nat),.int .i64 (K:Nat)] 197)).heap[w.heap.size]? =some (.cells #[.slice (some ⟨bb,bo,none⟩) M cb,.slice (some ⟨wb,wo,none⟩) M cw,.slice pt lt ct,.slice ps ls cs,.int .i64 sky,.int .i64 st] 48)):=Ab.heap (bl1 _ _) (Ab.heap b2 RO1.out)
 have RW:=hid (heap_alloc_new v2 (.cells #[.int .i64 (U:Nat),.int .i64 (D:Nat),.int .i64 (K:Nat)] 197))
 clear b2 A1 RO1
 go_upto_region 6 with fail
 generalize hW:World.alloc v2 _=W at*
 obtain⟨gs,hgs⟩:=aB w.heap.size
 obtain⟨ge,hge⟩:=aB v2.heap.size
 rw[hgs]at RS
 rw[hge]at RW
 rw[hge,hgs]
 clear hW hgs hge
 obtain⟨UU,E,hF1,hF2⟩:=cls W
 have HU:=hid hF2
 have HU1:=hid hF1
 have HX:Hid (∀u,Ab w (E u)):=fun u=>Ab.trans A2.out (hF1 u)
 have s0: ∀u,(E u).cell? ⟨gs,0,none⟩=some (.slice (some ⟨bb,bo,none⟩) M cb):=fun u=>aA 0 ((hF1 u).heap RS.out)
 have s1: ∀u,(E u).cell? ⟨gs,1,none⟩=some (.slice (some ⟨wb,wo,none⟩) M cw):=fun u=>aA 1 ((hF1 u).heap RS.out)
 have s2: ∀u,(E u).cell? ⟨gs,2,none⟩=some (.slice pt lt ct):=fun u=>aA 2 ((hF1 u).heap RS.out)
 have s3: ∀u,(E u).cell? ⟨gs,3,none⟩=some (.slice ps ls cs):=fun u=>aA 3 ((hF1 u).heap RS.out)
 have s4: ∀u,(E u).cell? ⟨gs,4,none⟩=some (.int .i64 sky):=fun u=>aA 4 ((hF1 u).heap RS.out)
 have s5: ∀u,(E u).cell? ⟨gs,5,none⟩=some (.int .i64 st):=fun u=>aA 5 ((hF1 u).heap RS.out)
 have y0: ∀u,(E u).cell? ⟨ge,0,none⟩=some (.int .i64 (U:Nat)):=fun u=>aA 0 ((hF1 u).heap RW.out)
 have y1: ∀u,(E u).cell? ⟨ge,1,none⟩=some (.int .i64 (D:Nat)):=fun u=>aA 1 ((hF1 u).heap RW.out)
 have y2: ∀u,(E u).cell? ⟨ge,2,none⟩=some (.int .i64 (K:Nat)):=fun u=>aA 2 ((hF1 u).heap RW.out)
 have DD0:=HU.out _ (Ab.refl W).drew
 clear hF1 hF2
 refine cS 8 E (by kernel_rfl) (by kernel_rfl) (by kernel_rfl) DD0 ?_
 simp only[List.take_succ_cons,List.take_zero,List.drop_succ_cons,List.drop_zero]
 repeat(go_big_quiet_step (first
  | (with_reducible rfl)
  | (go_at_call 152;exact aH HU HU1 (CO.out _ (HX.out _)))))
 refine wpQuiet_nil ?_
 intro z hwz
 obtain⟨u0,hu⟩:=hwz
 have AZ:Hid (Ab w z):=by rw[hu];exact HX.out u0
 clear hu u0
 clear HU HU1 HX DD0 s0 s1 s2 s3 s4 s5 y0 y1 y2
 clear E UU
 go_wp2_with fail
 refine(CG.out _ AZ.out).mono ?_
 rintro e9 v3 ⟨g,rfl,hg,b3⟩
 have A3:Hid (Ab w v3):=AZ.out.call b3
 have HG:=hid hg
 clear b3 hg AZ
 go_wp2_with fail
 refine(CN.out g HG.out.1 HG.out.2 _).mono ?_
 rintro e9 v4 ⟨rfl,b4⟩
 have AZ:Hid (Ab w v4):=A3.out.call b4
 clear b4 A3 HG
 have AY:Hid (Ab w v4):=AZ.out
 clear AZ
 cases c
 ·go_wp2
  go_ret
  exact⟨rfl,AY.out⟩
 ·go_wp2
  go_ret
  exact⟨rfl,AY.out⟩
end
section
open Go.RowKit Tf Cu
def DepthC:Prop:= ∀(n gb:Nat) (k:Int) (pb:Option Addr) (lb cb:Nat) (B:Nat->Nat) (pw:Option Addr) (lw cw:Nat) (Wt:Nat->Int) (pt:Option Addr) (lt ct:Nat) (ps:Option Addr) (ls cs:Nat) (sky st e:Int) (u:Nat) (w:World),(1<=n/\n<=32)->GridOf n gb w->IsFl w pb lb B->IsIn w pw lw Wt->u<18446744073709551616->
 Calls prog 113 #[.pointer (some ⟨gb,0,none⟩),.int .i64 k,.agg #[.slice pb lb cb,.slice pw lw cw,.slice pt lt ct,.slice ps ls cs,.int .i64 sky,.int .i64 st],.int .i64 e,.float .f64 u] w fun e' w'=>e'=.returned (.float .f64 (rdAll n k lb lw B Wt e u))/\Below w.heap.size w w'
end
end Go.Proofs.YtmhnilnaffjhmaaGreatDoor
