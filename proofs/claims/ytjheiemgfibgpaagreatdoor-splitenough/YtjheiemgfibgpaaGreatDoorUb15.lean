/-
  Some of the texts of this proof, one behind the other.
-/
import Derived.Test.YtjheiemgfibgpaaGreatDoorUb14
set_option maxRecDepth 100000
set_option maxHeartbeats 400000000
namespace Go.Proofs.YtjheiemgfibgpaaGreatDoor
open _root_.Go.Proofs.Tryz
section
open Go.RowKit Tf
attribute [local go_sem] aI aJ aN aO aP aQ aV
theorem iO{r x:Nat}(h:IsC r x)(hx:x<=9218868437227405312):canonB (negB r)=op x:=by
 obtain⟨h1,h2⟩:=h
 by_cases z:mg r=0
 ·have n:isN r=false:=cB.2 (by omega)
  have e:x=0:=by rw[<- h2];unfold canonB;rw[n,z];rfl
  subst e
  have m:mg (negB r)=0:=by rw[mg_negB];exact z
  have n2:isN (negB r)=false:=cB.2 (by omega)
  unfold canonB
  rw[n2,m]
  rfl
 ·have e:r=x:=by
   unfold canonB at h2
   rw[if_neg z]at h2
   split at h2
   ·rw[<- h2]at hx;unfold quiet at hx;omega
   ·exact h2
  subst e
  exact canon_op hx
theorem IsC.refl{x:Nat}(h:x<=9218868437227405312):IsC x x:=⟨by omega,sM h⟩
def Lim(f:Nat)(k:Int):Prop:= ∀a b w,ps a=true->ps b=true->Calls prog f #[.float .f64 a,.float .f64 b] w fun e w'=> ∃r,e=.returned (.float .f64 r)/\(∃n,w'=w.drewN n)/\IsC r (lm k a b)
theorem lim0:Lim 118 0:=by
 intro a b w ha hb
 refine(plain_at a b w).mono ?_
 rintro e w' ⟨rfl,rfl⟩
 exact⟨0,rfl,⟨0,rfl⟩,IsC.refl (by decide)⟩
theorem lim1:Lim 119 1:=by
 intro a b w ha hb
 have a1:=bN.1 ha
 have b1:=bN.1 hb
 refine(zN a b w a1.2 b1.2).mono ?_
 rintro e w' ⟨rfl,rfl⟩
 exact⟨_,rfl,⟨0,rfl⟩,IsC.refl (iT 1 a1.2 b1.2)⟩
theorem lim2:Lim 120 2:=by
 intro a b w ha hb
 have a1:=bN.1 ha
 have b1:=bN.1 hb
 refine(tE a b w ha hb).mono ?_
 rintro e w' ⟨rfl,rfl⟩
 exact⟨_,rfl,⟨0,rfl⟩,IsC.refl (iT 2 a1.2 b1.2)⟩
theorem lim3:Lim 121 3:=by
 intro a b w ha hb
 refine(leer_at a b w ha hb).mono ?_
 rintro e w' ⟨r,rfl,n,h⟩
 exact⟨r,rfl,n,h⟩
theorem slope_p0(a b:Nat)(w:World)(ha:a<18446744073709551616)(hb:b<18446744073709551616)(pa:ps a=true)(pb:ps b=true):Calls prog 75 #[.int .i64 0,.float .f64 a,.float .f64 b] w fun e w'=>e=.returned (.float .f64 (lm 0 a b))/\Below w.heap.size w w':=by
 have V:=hid (cQ 0 w)
 have L:=hid bK
 have IX: ∀w:World,(Instr.index 157 (.agg #[.func (.func 118) #[] #[],.func (.func 119) #[] #[],.func (.func 120) #[] #[],.func (.func 121) #[] #[]]) (.int .i64 0)).run prog w=.ok (.func (.func 118) #[] #[]) w:=fun _=>by kernel_rfl
 have G:=hid lim0
 have ga:fgt a 0=true:=by rw[cJ ha];exact pa
 have gb:fgt b 0=true:=by rw[cJ hb];exact pb
 have PA:=hid pa
 have PB:=hid pb
 clear pa pb ha hb
 go_enter func75,ntmps75
 go_wp2_with fail
 refine V.out.mono ?_
 rintro e w1 ⟨rfl,b1⟩
 have B1:=hid b1
 clear b1
 go_wp2_with fail
 refine(L.out _).mono ?_
 rintro e w2 ⟨rfl,b2⟩
 have B2:=hid b2
 clear b2
 go_wp2_with fail
 refine(G.out a b _ PA.out PB.out).mono ?_
 rintro e w3 ⟨r,rfl,⟨n,rfl⟩,hr⟩
 have C:=hid (bF r (w2.drewN n) hr.1)
 have HR:=hid hr.2
 clear hr
 go_wp2_with fail
 refine C.out.mono ?_
 rintro e w4 ⟨rfl,rfl⟩
 go_wp2
 go_ret
 exact⟨fG HR.out,Ab.drewN (Ab.trans B1.out B2.out) n⟩
theorem slope_m0(a b p q:Nat)(w:World)(ga:flt a 0=true)(gb:flt b 0=true)(ga2:fgt a 0=false)(na:Op.negFloat .f64 a=p)(nb:Op.negFloat .f64 b=q)(P:Hid (ps p=true))(Q:Hid (ps q=true)):Calls prog 75 #[.int .i64 0,.float .f64 a,.float .f64 b] w fun e w'=>e=.returned (.float .f64 (op (lm 0 p q)))/\Below w.heap.size w w':=by
 have V:=hid (cQ 0 w)
 have L:=hid bK
 have IX: ∀w:World,(Instr.index 157 (.agg #[.func (.func 118) #[] #[],.func (.func 119) #[] #[],.func (.func 120) #[] #[],.func (.func 121) #[] #[]]) (.int .i64 0)).run prog w=.ok (.func (.func 118) #[] #[]) w:=fun _=>by kernel_rfl
 have G:=hid lim0
 go_enter func75,ntmps75
 go_wp2_with fail
 refine V.out.mono ?_
 rintro e w1 ⟨rfl,b1⟩
 have B1:=hid b1
 clear b1
 go_wp2_with fail
 refine(L.out _).mono ?_
 rintro e w2 ⟨rfl,b2⟩
 have B2:=hid b2
 clear b2
 go_wp2_with fail
 refine(G.out p q _ P.out Q.out).mono ?_
 rintro e w3 ⟨r,rfl,⟨n,rfl⟩,hr⟩
 have E:canonB (Op.negFloat .f64 r)=op (lm 0 p q):=by rw[aX r hr.1];exact iO hr (iT 0 (bN.1 P.out).2 (bN.1 Q.out).2)
 have C:=bF (Op.negFloat .f64 r) (w2.drewN n) (by rw[aX r hr.1];exact lR hr.1)
 rw[E]at C
 have C:=hid C
 clear hr E
 go_wp2_with fail
 refine C.out.mono ?_
 rintro e w4 ⟨rfl,rfl⟩
 go_wp2
 go_ret
 exact⟨rfl,Ab.drewN (Ab.trans B1.out B2.out) n⟩
theorem slope_n0(a b:Nat)(w:World)(ha:a<18446744073709551616)(hb:b<18446744073709551616)(pa:ns a=true)(pb:ns b=true):Calls prog 75 #[.int .i64 0,.float .f64 a,.float .f64 b] w fun e w'=>e=.returned (.float .f64 (op (lm 0 (a - 9223372036854775808) (b - 9223372036854775808))))/\Below w.heap.size w w':=by
 have a1:=eD.1 pa
 have b1:=eD.1 pb
 exact slope_m0 a b _ _ w (by rw[cY ha];exact pa) (by rw[cY hb];exact pb) (by rw[cJ ha];exact ps_no.2 (by omega)) (by rw[aX a ha,hH a1.1]) (by rw[aX b hb,hH b1.1]) (bN.2 ⟨by omega,by omega⟩) (bN.2 ⟨by omega,by omega⟩)
theorem slope_z0(a b:Nat)(w:World)(ha:a<18446744073709551616)(hb:b<18446744073709551616)(pa:(ps a&&ps b)=false)(pb:(ns a&&ns b)=false):Calls prog 75 #[.int .i64 0,.float .f64 a,.float .f64 b] w fun e w'=>e=.returned (.float .f64 0)/\Below w.heap.size w w':=by
 have V:=hid (cQ 0 w)
 have L:=hid bK
 have IX: ∀w:World,(Instr.index 157 (.agg #[.func (.func 118) #[] #[],.func (.func 119) #[] #[],.func (.func 120) #[] #[],.func (.func 121) #[] #[]]) (.int .i64 0)).run prog w=.ok (.func (.func 118) #[] #[]) w:=fun _=>by kernel_rfl
 rw[<- cJ ha,<- cJ hb]at pa
 rw[<- cY ha,<- cY hb]at pb
 clear ha hb
 cases g1:fgt a 0<;>cases g2:flt a 0<;>rw[g1]at pa<;>rw[g2]at pb<;>(try rw[Bool.true_and]at pa)<;>(try rw[Bool.true_and]at pb)<;>(
  go_enter func75,ntmps75
  go_wp2_with fail
  refine V.out.mono ?_
  rintro e w1 ⟨rfl,b1⟩
  have B1:=hid b1
  clear b1
  go_wp2_with fail
  refine(L.out _).mono ?_
  rintro e w2 ⟨rfl,b2⟩
  have B2:=hid b2
  clear b2
  go_wp2
  go_ret
  exact⟨rfl,Ab.trans B1.out B2.out⟩)
theorem slope_p1(a b:Nat)(w:World)(ha:a<18446744073709551616)(hb:b<18446744073709551616)(pa:ps a=true)(pb:ps b=true):Calls prog 75 #[.int .i64 1,.float .f64 a,.float .f64 b] w fun e w'=>e=.returned (.float .f64 (lm 1 a b))/\Below w.heap.size w w':=by
 have V:=hid (cQ 1 w)
 have L:=hid bK
 have IX: ∀w:World,(Instr.index 157 (.agg #[.func (.func 118) #[] #[],.func (.func 119) #[] #[],.func (.func 120) #[] #[],.func (.func 121) #[] #[]]) (.int .i64 1)).run prog w=.ok (.func (.func 119) #[] #[]) w:=fun _=>by kernel_rfl
 have G:=hid lim1
 have ga:fgt a 0=true:=by rw[cJ ha];exact pa
 have gb:fgt b 0=true:=by rw[cJ hb];exact pb
 have PA:=hid pa
 have PB:=hid pb
 clear pa pb ha hb
 go_enter func75,ntmps75
 go_wp2_with fail
 refine V.out.mono ?_
 rintro e w1 ⟨rfl,b1⟩
 have B1:=hid b1
 clear b1
 go_wp2_with fail
 refine(L.out _).mono ?_
 rintro e w2 ⟨rfl,b2⟩
 have B2:=hid b2
 clear b2
 go_wp2_with fail
 refine(G.out a b _ PA.out PB.out).mono ?_
 rintro e w3 ⟨r,rfl,⟨n,rfl⟩,hr⟩
 have C:=hid (bF r (w2.drewN n) hr.1)
 have HR:=hid hr.2
 clear hr
 go_wp2_with fail
 refine C.out.mono ?_
 rintro e w4 ⟨rfl,rfl⟩
 go_wp2
 go_ret
 exact⟨fG HR.out,Ab.drewN (Ab.trans B1.out B2.out) n⟩
theorem slope_m1(a b p q:Nat)(w:World)(ga:flt a 0=true)(gb:flt b 0=true)(ga2:fgt a 0=false)(na:Op.negFloat .f64 a=p)(nb:Op.negFloat .f64 b=q)(P:Hid (ps p=true))(Q:Hid (ps q=true)):Calls prog 75 #[.int .i64 1,.float .f64 a,.float .f64 b] w fun e w'=>e=.returned (.float .f64 (op (lm 1 p q)))/\Below w.heap.size w w':=by
 have V:=hid (cQ 1 w)
 have L:=hid bK
 have IX: ∀w:World,(Instr.index 157 (.agg #[.func (.func 118) #[] #[],.func (.func 119) #[] #[],.func (.func 120) #[] #[],.func (.func 121) #[] #[]]) (.int .i64 1)).run prog w=.ok (.func (.func 119) #[] #[]) w:=fun _=>by kernel_rfl
 have G:=hid lim1
 go_enter func75,ntmps75
 go_wp2_with fail
 refine V.out.mono ?_
 rintro e w1 ⟨rfl,b1⟩
 have B1:=hid b1
 clear b1
 go_wp2_with fail
 refine(L.out _).mono ?_
 rintro e w2 ⟨rfl,b2⟩
 have B2:=hid b2
 clear b2
 go_wp2_with fail
 refine(G.out p q _ P.out Q.out).mono ?_
 rintro e w3 ⟨r,rfl,⟨n,rfl⟩,hr⟩
 have E:canonB (Op.negFloat .f64 r)=op (lm 1 p q):=by rw[aX r hr.1];exact iO hr (iT 1 (bN.1 P.out).2 (bN.1 Q.out).2)
 have C:=bF (Op.negFloat .f64 r) (w2.drewN n) (by rw[aX r hr.1];exact lR hr.1)
 rw[E]at C
 have C:=hid C
 clear hr E
 go_wp2_with fail
 refine C.out.mono ?_
 rintro e w4 ⟨rfl,rfl⟩
 go_wp2
 go_ret
 exact⟨rfl,Ab.drewN (Ab.trans B1.out B2.out) n⟩
theorem slope_n1(a b:Nat)(w:World)(ha:a<18446744073709551616)(hb:b<18446744073709551616)(pa:ns a=true)(pb:ns b=true):Calls prog 75 #[.int .i64 1,.float .f64 a,.float .f64 b] w fun e w'=>e=.returned (.float .f64 (op (lm 1 (a - 9223372036854775808) (b - 9223372036854775808))))/\Below w.heap.size w w':=by
 have a1:=eD.1 pa
 have b1:=eD.1 pb
 exact slope_m1 a b _ _ w (by rw[cY ha];exact pa) (by rw[cY hb];exact pb) (by rw[cJ ha];exact ps_no.2 (by omega)) (by rw[aX a ha,hH a1.1]) (by rw[aX b hb,hH b1.1]) (bN.2 ⟨by omega,by omega⟩) (bN.2 ⟨by omega,by omega⟩)
theorem slope_z1(a b:Nat)(w:World)(ha:a<18446744073709551616)(hb:b<18446744073709551616)(pa:(ps a&&ps b)=false)(pb:(ns a&&ns b)=false):Calls prog 75 #[.int .i64 1,.float .f64 a,.float .f64 b] w fun e w'=>e=.returned (.float .f64 0)/\Below w.heap.size w w':=by
 have V:=hid (cQ 1 w)
 have L:=hid bK
 have IX: ∀w:World,(Instr.index 157 (.agg #[.func (.func 118) #[] #[],.func (.func 119) #[] #[],.func (.func 120) #[] #[],.func (.func 121) #[] #[]]) (.int .i64 1)).run prog w=.ok (.func (.func 119) #[] #[]) w:=fun _=>by kernel_rfl
 rw[<- cJ ha,<- cJ hb]at pa
 rw[<- cY ha,<- cY hb]at pb
 clear ha hb
 cases g1:fgt a 0<;>cases g2:flt a 0<;>rw[g1]at pa<;>rw[g2]at pb<;>(try rw[Bool.true_and]at pa)<;>(try rw[Bool.true_and]at pb)<;>(
  go_enter func75,ntmps75
  go_wp2_with fail
  refine V.out.mono ?_
  rintro e w1 ⟨rfl,b1⟩
  have B1:=hid b1
  clear b1
  go_wp2_with fail
  refine(L.out _).mono ?_
  rintro e w2 ⟨rfl,b2⟩
  have B2:=hid b2
  clear b2
  go_wp2
  go_ret
  exact⟨rfl,Ab.trans B1.out B2.out⟩)
theorem slope_p2(a b:Nat)(w:World)(ha:a<18446744073709551616)(hb:b<18446744073709551616)(pa:ps a=true)(pb:ps b=true):Calls prog 75 #[.int .i64 2,.float .f64 a,.float .f64 b] w fun e w'=>e=.returned (.float .f64 (lm 2 a b))/\Below w.heap.size w w':=by
 have V:=hid (cQ 2 w)
 have L:=hid bK
 have IX: ∀w:World,(Instr.index 157 (.agg #[.func (.func 118) #[] #[],.func (.func 119) #[] #[],.func (.func 120) #[] #[],.func (.func 121) #[] #[]]) (.int .i64 2)).run prog w=.ok (.func (.func 120) #[] #[]) w:=fun _=>by kernel_rfl
 have G:=hid lim2
 have ga:fgt a 0=true:=by rw[cJ ha];exact pa
 have gb:fgt b 0=true:=by rw[cJ hb];exact pb
 have PA:=hid pa
 have PB:=hid pb
 clear pa pb ha hb
 go_enter func75,ntmps75
 go_wp2_with fail
 refine V.out.mono ?_
 rintro e w1 ⟨rfl,b1⟩
 have B1:=hid b1
 clear b1
 go_wp2_with fail
 refine(L.out _).mono ?_
 rintro e w2 ⟨rfl,b2⟩
 have B2:=hid b2
 clear b2
 go_wp2_with fail
 refine(G.out a b _ PA.out PB.out).mono ?_
 rintro e w3 ⟨r,rfl,⟨n,rfl⟩,hr⟩
 have C:=hid (bF r (w2.drewN n) hr.1)
 have HR:=hid hr.2
 clear hr
 go_wp2_with fail
 refine C.out.mono ?_
 rintro e w4 ⟨rfl,rfl⟩
 go_wp2
 go_ret
 exact⟨fG HR.out,Ab.drewN (Ab.trans B1.out B2.out) n⟩
theorem slope_m2(a b p q:Nat)(w:World)(ga:flt a 0=true)(gb:flt b 0=true)(ga2:fgt a 0=false)(na:Op.negFloat .f64 a=p)(nb:Op.negFloat .f64 b=q)(P:Hid (ps p=true))(Q:Hid (ps q=true)):Calls prog 75 #[.int .i64 2,.float .f64 a,.float .f64 b] w fun e w'=>e=.returned (.float .f64 (op (lm 2 p q)))/\Below w.heap.size w w':=by
 have V:=hid (cQ 2 w)
 have L:=hid bK
 have IX: ∀w:World,(Instr.index 157 (.agg #[.func (.func 118) #[] #[],.func (.func 119) #[] #[],.func (.func 120) #[] #[],.func (.func 121) #[] #[]]) (.int .i64 2)).run prog w=.ok (.func (.func 120) #[] #[]) w:=fun _=>by kernel_rfl
 have G:=hid lim2
 go_enter func75,ntmps75
 go_wp2_with fail
 refine V.out.mono ?_
 rintro e w1 ⟨rfl,b1⟩
 have B1:=hid b1
 clear b1
 go_wp2_with fail
 refine(L.out _).mono ?_
 rintro e w2 ⟨rfl,b2⟩
 have B2:=hid b2
 clear b2
 go_wp2_with fail
 refine(G.out p q _ P.out Q.out).mono ?_
 rintro e w3 ⟨r,rfl,⟨n,rfl⟩,hr⟩
 have E:canonB (Op.negFloat .f64 r)=op (lm 2 p q):=by rw[aX r hr.1];exact iO hr (iT 2 (bN.1 P.out).2 (bN.1 Q.out).2)
 have C:=bF (Op.negFloat .f64 r) (w2.drewN n) (by rw[aX r hr.1];exact lR hr.1)
 rw[E]at C
 have C:=hid C
 clear hr E
 go_wp2_with fail
 refine C.out.mono ?_
 rintro e w4 ⟨rfl,rfl⟩
 go_wp2
 go_ret
 exact⟨rfl,Ab.drewN (Ab.trans B1.out B2.out) n⟩
theorem slope_n2(a b:Nat)(w:World)(ha:a<18446744073709551616)(hb:b<18446744073709551616)(pa:ns a=true)(pb:ns b=true):Calls prog 75 #[.int .i64 2,.float .f64 a,.float .f64 b] w fun e w'=>e=.returned (.float .f64 (op (lm 2 (a - 9223372036854775808) (b - 9223372036854775808))))/\Below w.heap.size w w':=by
 have a1:=eD.1 pa
 have b1:=eD.1 pb
 exact slope_m2 a b _ _ w (by rw[cY ha];exact pa) (by rw[cY hb];exact pb) (by rw[cJ ha];exact ps_no.2 (by omega)) (by rw[aX a ha,hH a1.1]) (by rw[aX b hb,hH b1.1]) (bN.2 ⟨by omega,by omega⟩) (bN.2 ⟨by omega,by omega⟩)
theorem slope_z2(a b:Nat)(w:World)(ha:a<18446744073709551616)(hb:b<18446744073709551616)(pa:(ps a&&ps b)=false)(pb:(ns a&&ns b)=false):Calls prog 75 #[.int .i64 2,.float .f64 a,.float .f64 b] w fun e w'=>e=.returned (.float .f64 0)/\Below w.heap.size w w':=by
 have V:=hid (cQ 2 w)
 have L:=hid bK
 have IX: ∀w:World,(Instr.index 157 (.agg #[.func (.func 118) #[] #[],.func (.func 119) #[] #[],.func (.func 120) #[] #[],.func (.func 121) #[] #[]]) (.int .i64 2)).run prog w=.ok (.func (.func 120) #[] #[]) w:=fun _=>by kernel_rfl
 rw[<- cJ ha,<- cJ hb]at pa
 rw[<- cY ha,<- cY hb]at pb
 clear ha hb
 cases g1:fgt a 0<;>cases g2:flt a 0<;>rw[g1]at pa<;>rw[g2]at pb<;>(try rw[Bool.true_and]at pa)<;>(try rw[Bool.true_and]at pb)<;>(
  go_enter func75,ntmps75
  go_wp2_with fail
  refine V.out.mono ?_
  rintro e w1 ⟨rfl,b1⟩
  have B1:=hid b1
  clear b1
  go_wp2_with fail
  refine(L.out _).mono ?_
  rintro e w2 ⟨rfl,b2⟩
  have B2:=hid b2
  clear b2
  go_wp2
  go_ret
  exact⟨rfl,Ab.trans B1.out B2.out⟩)
theorem slope_p3(a b:Nat)(w:World)(ha:a<18446744073709551616)(hb:b<18446744073709551616)(pa:ps a=true)(pb:ps b=true):Calls prog 75 #[.int .i64 3,.float .f64 a,.float .f64 b] w fun e w'=>e=.returned (.float .f64 (lm 3 a b))/\Below w.heap.size w w':=by
 have V:=hid (cQ 3 w)
 have L:=hid bK
 have IX: ∀w:World,(Instr.index 157 (.agg #[.func (.func 118) #[] #[],.func (.func 119) #[] #[],.func (.func 120) #[] #[],.func (.func 121) #[] #[]]) (.int .i64 3)).run prog w=.ok (.func (.func 121) #[] #[]) w:=fun _=>by kernel_rfl
 have G:=hid lim3
 have ga:fgt a 0=true:=by rw[cJ ha];exact pa
 have gb:fgt b 0=true:=by rw[cJ hb];exact pb
 have PA:=hid pa
 have PB:=hid pb
 clear pa pb ha hb
 go_enter func75,ntmps75
 go_wp2_with fail
 refine V.out.mono ?_
 rintro e w1 ⟨rfl,b1⟩
 have B1:=hid b1
 clear b1
 go_wp2_with fail
 refine(L.out _).mono ?_
 rintro e w2 ⟨rfl,b2⟩
 have B2:=hid b2
 clear b2
 go_wp2_with fail
 refine(G.out a b _ PA.out PB.out).mono ?_
 rintro e w3 ⟨r,rfl,⟨n,rfl⟩,hr⟩
 have C:=hid (bF r (w2.drewN n) hr.1)
 have HR:=hid hr.2
 clear hr
 go_wp2_with fail
 refine C.out.mono ?_
 rintro e w4 ⟨rfl,rfl⟩
 go_wp2
 go_ret
 exact⟨fG HR.out,Ab.drewN (Ab.trans B1.out B2.out) n⟩
theorem slope_m3(a b p q:Nat)(w:World)(ga:flt a 0=true)(gb:flt b 0=true)(ga2:fgt a 0=false)(na:Op.negFloat .f64 a=p)(nb:Op.negFloat .f64 b=q)(P:Hid (ps p=true))(Q:Hid (ps q=true)):Calls prog 75 #[.int .i64 3,.float .f64 a,.float .f64 b] w fun e w'=>e=.returned (.float .f64 (op (lm 3 p q)))/\Below w.heap.size w w':=by
 have V:=hid (cQ 3 w)
 have L:=hid bK
 have IX: ∀w:World,(Instr.index 157 (.agg #[.func (.func 118) #[] #[],.func (.func 119) #[] #[],.func (.func 120) #[] #[],.func (.func 121) #[] #[]]) (.int .i64 3)).run prog w=.ok (.func (.func 121) #[] #[]) w:=fun _=>by kernel_rfl
 have G:=hid lim3
 go_enter func75,ntmps75
 go_wp2_with fail
 refine V.out.mono ?_
 rintro e w1 ⟨rfl,b1⟩
 have B1:=hid b1
 clear b1
 go_wp2_with fail
 refine(L.out _).mono ?_
 rintro e w2 ⟨rfl,b2⟩
 have B2:=hid b2
 clear b2
 go_wp2_with fail
 refine(G.out p q _ P.out Q.out).mono ?_
 rintro e w3 ⟨r,rfl,⟨n,rfl⟩,hr⟩
 have E:canonB (Op.negFloat .f64 r)=op (lm 3 p q):=by rw[aX r hr.1];exact iO hr (iT 3 (bN.1 P.out).2 (bN.1 Q.out).2)
 have C:=bF (Op.negFloat .f64 r) (w2.drewN n) (by rw[aX r hr.1];exact lR hr.1)
 rw[E]at C
 have C:=hid C
 clear hr E
 go_wp2_with fail
 refine C.out.mono ?_
 rintro e w4 ⟨rfl,rfl⟩
 go_wp2
 go_ret
 exact⟨rfl,Ab.drewN (Ab.trans B1.out B2.out) n⟩
theorem slope_n3(a b:Nat)(w:World)(ha:a<18446744073709551616)(hb:b<18446744073709551616)(pa:ns a=true)(pb:ns b=true):Calls prog 75 #[.int .i64 3,.float .f64 a,.float .f64 b] w fun e w'=>e=.returned (.float .f64 (op (lm 3 (a - 9223372036854775808) (b - 9223372036854775808))))/\Below w.heap.size w w':=by
 have a1:=eD.1 pa
 have b1:=eD.1 pb
 exact slope_m3 a b _ _ w (by rw[cY ha];exact pa) (by rw[cY hb];exact pb) (by rw[cJ ha];exact ps_no.2 (by omega)) (by rw[aX a ha,hH a1.1]) (by rw[aX b hb,hH b1.1]) (bN.2 ⟨by omega,by omega⟩) (bN.2 ⟨by omega,by omega⟩)
theorem slope_z3(a b:Nat)(w:World)(ha:a<18446744073709551616)(hb:b<18446744073709551616)(pa:(ps a&&ps b)=false)(pb:(ns a&&ns b)=false):Calls prog 75 #[.int .i64 3,.float .f64 a,.float .f64 b] w fun e w'=>e=.returned (.float .f64 0)/\Below w.heap.size w w':=by
 have V:=hid (cQ 3 w)
 have L:=hid bK
 have IX: ∀w:World,(Instr.index 157 (.agg #[.func (.func 118) #[] #[],.func (.func 119) #[] #[],.func (.func 120) #[] #[],.func (.func 121) #[] #[]]) (.int .i64 3)).run prog w=.ok (.func (.func 121) #[] #[]) w:=fun _=>by kernel_rfl
 rw[<- cJ ha,<- cJ hb]at pa
 rw[<- cY ha,<- cY hb]at pb
 clear ha hb
 cases g1:fgt a 0<;>cases g2:flt a 0<;>rw[g1]at pa<;>rw[g2]at pb<;>(try rw[Bool.true_and]at pa)<;>(try rw[Bool.true_and]at pb)<;>(
  go_enter func75,ntmps75
  go_wp2_with fail
  refine V.out.mono ?_
  rintro e w1 ⟨rfl,b1⟩
  have B1:=hid b1
  clear b1
  go_wp2_with fail
  refine(L.out _).mono ?_
  rintro e w2 ⟨rfl,b2⟩
  have B2:=hid b2
  clear b2
  go_wp2
  go_ret
  exact⟨rfl,Ab.trans B1.out B2.out⟩)
theorem slope_i(k:Int)(a b:Nat)(w:World)(hk:decide (0<=k/\k<=3)=false):Calls prog 75 #[.int .i64 k,.float .f64 a,.float .f64 b] w fun e w'=>e=.returned (.float .f64 0)/\Below w.heap.size w w':=by
 have V:=cQ k w
 rw[hk]at V
 have V:=hid V
 clear hk
 go_enter func75,ntmps75
 go_wp2_with fail
 refine V.out.mono ?_
 rintro e w1 ⟨rfl,b1⟩
 have B1:=hid b1
 clear b1
 go_wp2
 go_ret
 exact⟨rfl,B1.out⟩
theorem tF(k:Int)(a b:Nat)(w:World)(ha:a<18446744073709551616)(hb:b<18446744073709551616):Calls prog 75 #[.int .i64 k,.float .f64 a,.float .f64 b] w fun e w'=>e=.returned (.float .f64 (slp k a b))/\Below w.heap.size w w':=by
 by_cases hk:0<=k/\k<=3
 ·have hk:k=0\/k=1\/k=2\/k=3:=by omega
  unfold slp
  cases p:(ps a&&ps b)
  ·cases n:(ns a&&ns b)
   ·rw[if_neg (by decide),if_neg (by decide)]
    rcases hk with rfl | rfl | rfl | rfl
    ·exact slope_z0 a b w ha hb p n
    ·exact slope_z1 a b w ha hb p n
    ·exact slope_z2 a b w ha hb p n
    ·exact slope_z3 a b w ha hb p n
   ·rw[if_neg (by decide),if_pos rfl]
    rw[Bool.and_eq_true]at n
    rcases hk with rfl | rfl | rfl | rfl
    ·exact slope_n0 a b w ha hb n.1 n.2
    ·exact slope_n1 a b w ha hb n.1 n.2
    ·exact slope_n2 a b w ha hb n.1 n.2
    ·exact slope_n3 a b w ha hb n.1 n.2
  ·rw[if_pos rfl]
   rw[Bool.and_eq_true]at p
   rcases hk with rfl | rfl | rfl | rfl
   ·exact slope_p0 a b w ha hb p.1 p.2
   ·exact slope_p1 a b w ha hb p.1 p.2
   ·exact slope_p2 a b w ha hb p.1 p.2
   ·exact slope_p3 a b w ha hb p.1 p.2
 ·have e:slp k a b=0:=by
   have h: ∀x y,lm k x y=0:=fun x y=>by
    unfold lm
    rw[if_neg (by omega),if_neg (by omega),if_neg (by omega)]
   unfold slp op
   rw[h,h]
   simp
  rw[e]
  exact slope_i k a b w (decide_eq_false hk)
end
section
open Go.RowKit Tf
attribute [local go_sem] aI aJ aN aO aP aQ aV
theorem isC_eq{r c:Nat}(h:IsC r c)(c0:0<c)(c1:c<=9218868437227405312):r=c:=by
 have e:=h.2
 unfold canonB at e
 split at e
 ·unfold quiet at e;omega
 ·split at e
  ·omega
  ·exact e
theorem add_can{P:Program}(w:World)(s x:Nat)(hs:s<18446744073709551616)(hx:x<18446744073709551616):
  ∃r n,(∀t,(binOp .add t (.float .f64 s) (.float .f64 x)).run P w=.ok (.float .f64 r) (w.drewN n))/\IsC r (addB s x):=by
 cases e:Ieee.double.add s x with
 | none=>exact⟨nanOf w s x,1,fun t=>gR w t s x e,dX _ _ _,by rw[aW e];unfold canonB;rw[if_pos (cW _ _ _)]⟩
 | some r=>exact⟨r,0,fun t=>run_float_arith w .add t .f64 s x r e,by
   have q:=IsQ.add (IsQ.self hs) (IsQ.self hx) e
   exact q.1,by rw[bE e]⟩
theorem depth_no(n a:Int)(w:World)(h:n<1\/a<1):
  Calls prog 99 #[.int .i64 n,.int .i64 a] w fun e w'=>e=.returned (.float .f64 0)/\w'=w:=by
 by_cases c:n<1
 ·go_enter func99,ntmps99
  go_wp2
  go_ret
  exact⟨rfl,rfl⟩
 ·have d:a<1:=by omega
  clear h
  go_enter func99,ntmps99
  go_wp2
  go_ret
  exact⟨rfl,rfl⟩
theorem zO(n a:Int)(w:World)(h1:1<=n)(h2:1<=a)(n2:n<=9223372036854775807)(a2:a<=9223372036854775807):
  Calls prog 99 #[.int .i64 n,.int .i64 a] w fun e w'=>e=.returned (.float .f64 (dpB n a))/\ ∃k,w'=w.drewN k:=by
 obtain⟨r,k,hr,hc⟩:=eK (P:=prog) w (fw n) (fw a)
 have e:=isC_eq hc (by rw[<- dp_of h1 h2];have:=dp_in h1 h2 n2 a2;omega) (by rw[<- dp_of h1 h2];have:=dp_in h1 h2 n2 a2;omega)
 rw[dp_of h1 h2,<- e]
 clear e hc
 have F1:=hid (gU n w)
 have F2:=hid (gU a w)
 rw[show rn false (n*one)=fw n from rfl]at F1
 rw[show rn false (a*one)=fw a from rfl]at F2
 generalize fw n=x at*
 generalize fw a=y at*
 go_enter func99,ntmps99
 go_wp2_with fail
 refine F1.out.mono ?_
 rintro e w' ⟨rfl,rfl⟩
 go_wp2_with fail
 refine F2.out.mono ?_
 rintro e w' ⟨rfl,rfl⟩
 go_wp2
 go_ret
 exact⟨rfl,k,rfl⟩
theorem hJ(n a:Int)(w:World)(n2:n<=9223372036854775807)(a2:a<=9223372036854775807):
  Calls prog 99 #[.int .i64 n,.int .i64 a] w fun e w'=>e=.returned (.float .f64 (dpB n a))/\ ∃k,w'=w.drewN k:=by
 by_cases c:n<1\/a<1
 ·rw[xA c]
  exact(depth_no n a w c).mono fun _ _ h=>⟨h.1,0,h.2⟩
 ·exact zO n a w (by omega) (by omega) n2 a2
theorem nZ(b:Nat)(n a:Int)(w:World)(hb:b<18446744073709551616)(n2:n<=9223372036854775807)(a2:a<=9223372036854775807):
  Calls prog 76 #[.float .f64 b,.int .i64 n,.int .i64 a] w fun e w'=>e=.returned (.float .f64 (lvl b n a))/\ ∃k,w'=w.drewN k:=by
 have D:=hid (hJ n a w n2 a2)
 have e0:lvl b n a=addB b (dpB n a):=rfl
 rw[e0]
 have hd:dpB n a<18446744073709551616:=by have:=lG n2 a2;omega
 clear e0
 generalize dpB n a=d at*
 have AD:Hid (∀k:Nat,∃r m,(∀t,(binOp .add t (.float .f64 b) (.float .f64 d)).run prog (w.drewN k)=.ok (.float .f64 r) ((w.drewN k).drewN m))/\IsC r (addB b d)):=fun k=>add_can _ b d hb hd
 generalize addB b d=y at*
 go_enter func76,ntmps76
 go_wp2_with fail
 refine D.out.mono ?_
 rintro e w' ⟨rfl,k,rfl⟩
 obtain⟨r,m,hr,hc⟩:=AD.out k
 have C:=hid (bF r (w.drewN (k+m)) hc.1)
 rw[hc.2]at C
 go_wp2_with fail
 refine C.out.mono ?_
 rintro e w' ⟨rfl,rfl⟩
 go_wp2
 go_ret
 exact⟨rfl,k+m,rfl⟩
end
section
open Go.RowKit Tf Cu
theorem xL{n gb:Nat}(k:Int)(bb bo wb wo cb cw:Nat)(pt ps:Option Addr)(lt ct ls cs:Nat)(sky st:Int){B:Nat->Nat}{Wt:Nat->Int}{U D K:Nat}(e:Int)(u:Nat)(w:World)(hn:1<=n/\n<=32)(cU:U<6*n*n)(cD:D<6*n*n)(cK:K<6*n*n)(g:GridOf n gb w)
  (hB:IsFl w (some ⟨bb,bo,none⟩) (6*n*n) B) (hW:IsIn w (some ⟨wb,wo,none⟩) (6*n*n) Wt)
  (CF:Hid (∀v,Ab w v->Calls prog 47 #[.pointer (some ⟨gb,0,none⟩),.agg #[.slice (some ⟨bb,bo,none⟩) (6*n*n) cb,.slice (some ⟨wb,wo,none⟩) (6*n*n) cw,.slice pt lt ct,.slice ps ls cs,.int .i64 sky,.int .i64 st]] v fun e w'=>e=.returned (.bool true)/\Below v.heap.size v w'))
  (CW:Hid (∀v,Ab w v->Calls prog 48 #[.pointer (some ⟨gb,0,none⟩),.int .i64 e,.float .f64 u] v fun e w'=>e=.returned (.tuple #[.agg #[.int .i64 (U:Nat),.int .i64 (D:Nat),.int .i64 (K:Nat)],.bool true])/\Below v.heap.size v w')):
  Calls prog 14 #[.pointer (some ⟨gb,0,none⟩),.int .i64 k,.agg #[.slice (some ⟨bb,bo,none⟩) (6*n*n) cb,.slice (some ⟨wb,wo,none⟩) (6*n*n) cw,.slice pt lt ct,.slice ps ls cs,.int .i64 sky,.int .i64 st],.int .i64 e,.float .f64 u] w fun e w'=>e=.returned (.float .f64 (ovC k (arC n) B Wt U D K))/\Below w.heap.size w w':=by
 have bU:=hB.at0 cU
 have bD:=hB.at0 cD
 have wU:=hW.at0 cU
 have wD:=hW.at0 cD
 have wK:=hW.at0 cK
 unfold ovC rcR
 have FW: ∀v,Ab w v->v.cell? ⟨wb,wo+U,none⟩=some (.int .i64 (Wt U))/\v.cell? ⟨bb,bo+U,none⟩=some (.float .f64 (B U))/\v.cell? ⟨bb,bo+D,none⟩=some (.float .f64 (B D)):=fun v hv=>
  ⟨(Below.cell hv wU.2.1).trans wU.2.2,(Below.cell hv bU.2.1).trans bU.2.2,(Below.cell hv bD.2.1).trans bD.2.2⟩
 have DU: ∀v,Ab w v->Calls prog 74 #[.pointer (some ⟨gb,0,none⟩),.agg #[.slice (some ⟨bb,bo,none⟩) (6*n*n) cb,.slice (some ⟨wb,wo,none⟩) (6*n*n) cw,.slice pt lt ct,.slice ps ls cs,.int .i64 sky,.int .i64 st],.int .i64 (U:Nat)] v fun e w'=>e=.returned (.float .f64 (dpB (Wt U) (arC n U)))/\Below v.heap.size v w':=(fun v hv=>nU (.pointer (some ⟨gb,0,none⟩)) bb bo wb wo (6*n*n) cb cw pt ps lt ct ls cs sky st U (Wt U) (arC n U) _ v (by omega) (fun z hz=>(Below.cell (hv.trans hz) wU.2.1).trans wU.2.2) (fun z hz=>dI hn cU (g.to (hv.trans hz))) (fun z=>(hJ _ _ z wU.1 (cM n _).2).mono fun _ _ h=>⟨h.1,by obtain⟨_,j,rfl⟩:=h;exact below_drewN (Below.refl _ _) j⟩))
 have DK: ∀v,Ab w v->Calls prog 74 #[.pointer (some ⟨gb,0,none⟩),.agg #[.slice (some ⟨bb,bo,none⟩) (6*n*n) cb,.slice (some ⟨wb,wo,none⟩) (6*n*n) cw,.slice pt lt ct,.slice ps ls cs,.int .i64 sky,.int .i64 st],.int .i64 (K:Nat)] v fun e w'=>e=.returned (.float .f64 (dpB (Wt K) (arC n K)))/\Below v.heap.size v w':=(fun v hv=>nU (.pointer (some ⟨gb,0,none⟩)) bb bo wb wo (6*n*n) cb cw pt ps lt ct ls cs sky st K (Wt K) (arC n K) _ v (by omega) (fun z hz=>(Below.cell (hv.trans hz) wK.2.1).trans wK.2.2) (fun z hz=>dI hn cK (g.to (hv.trans hz))) (fun z=>(hJ _ _ z wK.1 (cM n _).2).mono fun _ _ h=>⟨h.1,by obtain⟨_,j,rfl⟩:=h;exact below_drewN (Below.refl _ _) j⟩))
 have DD: ∀v,Ab w v->Calls prog 74 #[.pointer (some ⟨gb,0,none⟩),.agg #[.slice (some ⟨bb,bo,none⟩) (6*n*n) cb,.slice (some ⟨wb,wo,none⟩) (6*n*n) cw,.slice pt lt ct,.slice ps ls cs,.int .i64 sky,.int .i64 st],.int .i64 (D:Nat)] v fun e w'=>e=.returned (.float .f64 (dpB (Wt D) (arC n D)))/\Below v.heap.size v w':=(fun v hv=>nU (.pointer (some ⟨gb,0,none⟩)) bb bo wb wo (6*n*n) cb cw pt ps lt ct ls cs sky st D (Wt D) (arC n D) _ v (by omega) (fun z hz=>(Below.cell (hv.trans hz) wD.2.1).trans wD.2.2) (fun z hz=>dI hn cD (g.to (hv.trans hz))) (fun z=>(hJ _ _ z wD.1 (cM n _).2).mono fun _ _ h=>⟨h.1,by obtain⟨_,j,rfl⟩:=h;exact below_drewN (Below.refl _ _) j⟩))
 have fU:dpB (Wt U) (arC n U)<9218868437227405312:=by have:=lG wU.1 (cM n U).2;omega
 have fK:dpB (Wt K) (arC n K)<9218868437227405312:=by have:=lG wK.1 (cM n K).2;omega
 have fD:dpB (Wt D) (arC n D)<9218868437227405312:=by have:=lG wD.1 (cM n D).2;omega
 have hx:=nS fU fK
 have hy:=nS fD fU
 have lx:=(qX (by omega) hx (by omega)).1
 have ly:=(qX (by omega) hy (by omega)).1
 have sN:=slp_N k (sbB (dpB (Wt U) (arC n U)) (dpB (Wt K) (arC n K))) (sbB (dpB (Wt D) (arC n D)) (dpB (Wt U) (arC n U)))
 have sl:=slp_lt k (sbB (dpB (Wt U) (arC n U)) (dpB (Wt K) (arC n K))) (sbB (dpB (Wt D) (arC n D)) (dpB (Wt U) (arC n U)))
 have hm:=pK sl sN
 have hf:=half_N sl sN
 have hv0:=pM fU hf.2 hf.1
 have vl:=rcV_lt (k:=k) (hb:=dpB (Wt K) (arC n K)) (hd:=dpB (Wt D) (arC n D)) fU
 have ll:=qU (b:=B U) (w:=Wt U) (a:=arC n U) bU.1 wU.1 (cM n _).2
 have ml:=xE (a:=B U) (b:=B D) bU.1 bD.1
 cases hs:Ieee.double.sub (lvl (B U) (Wt U) (arC n U)) (maxB (B U) (B D))with
 | some z=>
  have hc:=qX ml hs ll
  rw[show rcG (lvl (B U) (Wt U) (arC n U)) (B U) (B D)=sbB (lvl (B U) (Wt U) (arC n U)) (maxB (B U) (B D))from rfl,<- pos0_c vl hc]
  exact zK (.pointer (some ⟨gb,0,none⟩)) bb bo wb wo (6*n*n) cb cw pt ps lt ct ls cs sky st k e u w U D K _ _ _ CF CW
   (fun v hv=>tD (.pointer (some ⟨gb,0,none⟩)) bb bo wb wo (6*n*n) cb cw pt ps lt ct ls cs sky st k U D K _ _ _ _ _ _ _ _ v (fun z hz=>DU z (hv.trans hz)) (fun z hz=>DK z (hv.trans hz)) (fun z hz=>DD z (hv.trans hz)) (fun z=>tF k _ _ z lx ly) (fun t w=>run_float_arith w .sub t .f64 _ _ _ hx) (fun t w=>run_float_arith w .sub t .f64 _ _ _ hy) (fun t w=>run_float_arith w .mul t .f64 _ _ _ hm) (fun t w=>run_float_arith w .add t .f64 _ _ _ hv0)) z
   (fun v hv=>nV (.pointer (some ⟨gb,0,none⟩)) bb bo wb wo (6*n*n) cb cw pt ps lt ct ls cs sky st U D K (Wt U) (arC n U) (B U) (B D) _ _ v (by omega) (by omega) (fun z hz=>FW z (hv.trans hz)) (fun z hz=>dI hn cU (g.to (hv.trans hz))) (fun z=>(nZ _ _ _ z bU.1 wU.1 (cM n _).2).mono fun _ _ h=>⟨h.1,by obtain⟨_,j,rfl⟩:=h;exact below_drewN (Below.refl _ _) j⟩) (fun z=>(vZ _ _ z bU.1 bD.1).mono fun _ _ h=>⟨h.1,by obtain⟨_,rfl⟩:=h;exact Below.refl _ _⟩) z (fun t w=>run_float_arith w .sub t .f64 _ _ _ hs)) (fun v=>(wA _ _ v vl hc.1).mono fun _ _ h=>⟨h.1,by obtain⟨_,rfl⟩:=h;exact Below.refl _ _⟩) rfl
 | none=>
  have hN:isN (rcG (lvl (B U) (Wt U) (arC n U)) (B U) (B D))=true:=by
   unfold rcG sbB
   rw[aW (by rw[<- lU _ _ ml];exact hs)]
   decide
  rw[fY (.inr hN)]
  exact zL (.pointer (some ⟨gb,0,none⟩)) bb bo wb wo (6*n*n) cb cw pt ps lt ct ls cs sky st k e u w U D K _ _ _ CF CW
   (fun v hv=>tD (.pointer (some ⟨gb,0,none⟩)) bb bo wb wo (6*n*n) cb cw pt ps lt ct ls cs sky st k U D K _ _ _ _ _ _ _ _ v (fun z hz=>DU z (hv.trans hz)) (fun z hz=>DK z (hv.trans hz)) (fun z hz=>DD z (hv.trans hz)) (fun z=>tF k _ _ z lx ly) (fun t w=>run_float_arith w .sub t .f64 _ _ _ hx) (fun t w=>run_float_arith w .sub t .f64 _ _ _ hy) (fun t w=>run_float_arith w .mul t .f64 _ _ _ hm) (fun t w=>run_float_arith w .add t .f64 _ _ _ hv0))
   (fun v hv=>nW (.pointer (some ⟨gb,0,none⟩)) bb bo wb wo (6*n*n) cb cw pt ps lt ct ls cs sky st U D K (Wt U) (arC n U) (B U) (B D) _ _ v (by omega) (by omega) (fun z hz=>FW z (hv.trans hz)) (fun z hz=>dI hn cU (g.to (hv.trans hz))) (fun z=>(nZ _ _ _ z bU.1 wU.1 (cM n _).2).mono fun _ _ h=>⟨h.1,by obtain⟨_,j,rfl⟩:=h;exact below_drewN (Below.refl _ _) j⟩) (fun z=>(vZ _ _ z bU.1 bD.1).mono fun _ _ h=>⟨h.1,by obtain⟨_,rfl⟩:=h;exact Below.refl _ _⟩) (fun t w=>kZ w t _ _ hs)) (fun z hz1 hz2 v=>by
    have h:=wA (rcV k (dpB (Wt U) (arC n U)) (dpB (Wt K) (arC n K)) (dpB (Wt D) (arC n D))) z v vl hz1
    rw[fY (.inr hz2)]at h
    exact(h).mono fun _ _ h=>⟨h.1,by obtain⟨_,rfl⟩:=h;exact Below.refl _ _⟩) rfl
theorem depthC:DepthC:=by
 intro n gb k pb lb cb B pw lw cw Wt pt lt ct ps ls cs sky st e u w hn g hB hW hu
 have CC:Hid (∀v,Ab w v->Calls prog 28 #[.pointer (some ⟨gb,0,none⟩)] v fun e w'=>e=.returned (.int .i64 (6*n*n:Nat))/\Below v.heap.size v w'):=fun v hv=>(dD (g.to hv)).mono fun _ _ h=>⟨h.1,by obtain⟨_,rfl⟩:=h;exact Below.refl _ _⟩
 by_cases c:lb=6*n*n/\lw=6*n*n
 ·obtain⟨rfl,rfl⟩:=c
  have CF:Hid (∀v,Ab w v->Calls prog 47 #[.pointer (some ⟨gb,0,none⟩),.agg #[.slice pb (6*n*n) cb,.slice pw (6*n*n) cw,.slice pt lt ct,.slice ps ls cs,.int .i64 sky,.int .i64 st]] v fun e w'=>e=.returned (.bool true)/\Below v.heap.size v w'):=fun v hv=>tC (.pointer (some ⟨gb,0,none⟩)) pb pw pt ps _ cb _ cw lt ct ls cs sky st (6*n*n) true v (.inr ⟨by simp,by simp⟩) (fun z hz=>CC.out z (hv.trans hz))
  cases h:inR e (12*n*n:Nat)with
  | false=>
   rw[sQ (fun q=>by rw[h]at q;exact absurd q.1 (by decide))]
   exact nX (.pointer (some ⟨gb,0,none⟩)) pb pw pt ps _ cb _ cw lt ct ls cs sky st k e u w CF (fun v hv=>wo12_no (.pointer (some ⟨gb,0,none⟩)) e u v (fun z hz=>sK h (g.to (hv.trans hz))))
  | true=>
   obtain⟨E,rfl,hE⟩:=jW h
   obtain⟨t1,t2,t3⟩:=bQ hn.1 hE
   rw[<- t3]
   have mtd:=fO hn.1 t1
   have cL:=bR t1
   have cR:bsC n (edT n E/4) (edT n E%4)<6*n*n:=by rw[<- mtd.1];exact bR (fA hn.1 t1)
   have cp:bsC n (edT n E/4) ((edT n E%4+2)%4)<6*n*n:=pH hn.1 t1
   have cq:bsC n (bsC n (edT n E/4) (edT n E%4)) ((bsS n (edT n E/4) (edT n E%4)+2)%4)<6*n*n:=by
    have:=pH hn.1 (fA hn.1 t1)
    unfold bkC at this
    rwa [mtd.1,mtd.2]at this
   obtain⟨bb,bo,rfl⟩:=hB.some0 (xF hn.1)
   obtain⟨wb,wo,rfl⟩:=hW.some0 (xF hn.1)
   rw[rdAll_eN hn.1 t1 t2]
   cases p:fgt u 0 with
   | true=>
    have e:sdD n k (arC n) B Wt (edT n E)=ovC k (arC n) B Wt (edT n E/4) (bsC n (edT n E/4) (edT n E%4)) (bsC n (edT n E/4) ((edT n E%4+2)%4)):=by
     unfold sdD
     rw[mtd.1];rfl
    rw[rdT_p p,e]
    exact xL k bb bo wb wo cb cw pt ps lt ct ls cs sky st _ u w hn cL cR cp g hB hW CF (fun v hv=>wo12_pos (.pointer (some ⟨gb,0,none⟩)) _ u _ _ _ _ _ _ v p (fun z hz=>gV hn t1 t2 (g.to (hv.trans hz))) (fun z hz=>gC hn t1 t2 (g.to (hv.trans hz))))
   | false=>
    cases q:flt u 0 with
    | true=>
     have e:sdD n k (arC n) B Wt (mt n (edT n E))=ovC k (arC n) B Wt (bsC n (edT n E/4) (edT n E%4)) (edT n E/4) (bsC n (bsC n (edT n E/4) (edT n E%4)) ((bsS n (edT n E/4) (edT n E%4)+2)%4)):=by
      unfold sdD
      rw[iQ hn.1 t1,mtd.1];unfold bkC;rw[mtd.1,mtd.2]
     rw[rdT_n p q,e]
     exact xL k bb bo wb wo cb cw pt ps lt ct ls cs sky st _ u w hn cR cL cq g hB hW CF (fun v hv=>wo12_neg (.pointer (some ⟨gb,0,none⟩)) _ u _ _ _ _ _ _ v p q (fun z hz=>gV hn t1 t2 (g.to (hv.trans hz))) (fun z hz=>gC hn t1 t2 (g.to (hv.trans hz))))
    | false=>
     rw[rdT_0 p q]
     exact nX (.pointer (some ⟨gb,0,none⟩)) (some ⟨bb,bo,none⟩) (some ⟨wb,wo,none⟩) pt ps _ cb _ cw lt ct ls cs sky st k _ u w CF (fun v hv=>vD (.pointer (some ⟨gb,0,none⟩)) _ u _ _ _ _ _ _ v p q (fun z hz=>gV hn t1 t2 (g.to (hv.trans hz))) (fun z hz=>gC hn t1 t2 (g.to (hv.trans hz))))
 ·rw[sQ (fun q=>c q.2)]
  refine vE (.pointer (some ⟨gb,0,none⟩)) pb pw pt ps lb cb lw cw lt ct ls cs sky st k e u w (fun v hv=>tC (.pointer (some ⟨gb,0,none⟩)) pb pw pt ps lb cb lw cw lt ct ls cs sky st (6*n*n) false v ?_ (fun z hz=>CC.out z (hv.trans hz)))
  by_cases c1:lb=6*n*n
  ·exact .inr ⟨by rw[c1];simp,by rw[beq_eq_false_iff_ne];omega⟩
  ·exact .inl ⟨by rw[beq_eq_false_iff_ne];omega,rfl⟩
end
section
open Go.RowKit Tf Cu Go.Deep
theorem allC:AllC:=by
 intro n gb sd dt gr dr lim rv pr lr cr pb lb cb B pw lw cw Wt pt lt ct ps ls cs Sp sky st w hn g hB hW hS hdt
 have en:1<=12*n*n/\12*n*n<=12288:=by
  have h:=Nat.mul_le_mul hn.2 hn.2
  have h2:=Nat.mul_le_mul hn.1 hn.1
  rw[Nat.mul_assoc]
  omega
 have CC:Hid (∀v,Ab w v->Calls prog 28 #[.pointer (some ⟨gb,0,none⟩)] v fun e w'=>e=.returned (.int .i64 (6*n*n:Nat))/\Below v.heap.size v w'):=fun v hv=>(dD (g.to hv)).mono fun _ _ h=>⟨h.1,by obtain⟨_,rfl⟩:=h;exact Below.refl _ _⟩
 have CE:Hid (∀v,Ab w v->Calls prog 29 #[.pointer (some ⟨gb,0,none⟩)] v fun e w'=>e=.returned (.int .i64 (12*n*n:Nat))/\w'=v):=fun v hv=>cE (g.to hv)
 have CEb:Hid (∀v,Ab w v->Calls prog 29 #[.pointer (some ⟨gb,0,none⟩)] v fun e w'=>e=.returned (.int .i64 (12*n*n:Nat))/\Below v.heap.size v w'):=fun v hv=>(cE (g.to hv)).mono fun _ _ h=>⟨h.1,by obtain⟨_,rfl⟩:=h;exact Below.refl _ _⟩
 refine⟨fun fit=> ?_,fun no=> ?_⟩
 ·obtain⟨rfl,rfl,rfl,rfl⟩:=fit
  obtain⟨sb,so,rfl⟩:=hS.some0 (by omega)
  have CFt:Hid (∀v,Ab w v->Calls prog 32 #[.pointer (some ⟨gb,0,none⟩),.agg #[.slice pb (6*n*n) cb,.slice pw (6*n*n) cw,.slice pt (6*n*n) ct,.slice (some ⟨sb,so,none⟩) (12*n*n) cs,.int .i64 sky,.int .i64 st]] v fun e w'=>e=.returned (.bool true)/\Below v.heap.size v w'):=fun v hv=>pQ gb pb pw pt (some ⟨sb,so,none⟩) (6*n*n) cb (6*n*n) cw (6*n*n) ct (12*n*n) cs sky st (6*n*n) (12*n*n) true v (.inr (.inr (.inr ⟨by simp,by simp,by simp,by simp⟩))) (fun u hu=>CC.out u (hv.trans hu)) (fun u hu=>CEb.out u (hv.trans hu))
  exact all13_go gb sd dt gr dr lim rv pr lr cr pb pw pt (6*n*n) cb cw ct sb so cs sky st (12*n*n) Sp (fun i=>rdAll n lim (6*n*n) (6*n*n) B Wt (i:Nat) (Sp i)) (fun i=>lnE n i) (fun i=>flB n lim B Wt Sp dt i) w (by omega) CFt CE
   (fun c hc v hv=>(Below.cell hv (hS.at0 hc).2.1).trans (hS.at0 hc).2.2)
   (fun c hc v hv=>depthC n gb lim pb _ cb B pw _ cw Wt pt _ ct _ _ cs sky st (c:Nat) (Sp c) v hn (g.to hv) (hB.below hv) (hW.below hv) (hS.at0 hc).1)
   (fun c hc v hv=>uT hn hc (g.to hv))
   (fun c hc v=>quantaC _ _ _ _ v (hS.at0 hc).1 (uY hn.1 (fun i hi=>(hB i hi).1) (fun i hi=>(hW i hi).1.2) _ _).1 (lnE_lt64 _ _) hdt)
 ·exact all13_no gb sd dt gr dr lim rv pr lr cr pb pw pt ps lb cb lw cw lt ct ls cs sky st w (fun v hv=>pQ gb pb pw pt ps lb cb lw cw lt ct ls cs sky st (6*n*n) (12*n*n) false v (by
   by_cases c1:lb=6*n*n
   ·by_cases c2:lw=6*n*n
    ·by_cases c3:lt=6*n*n
     ·exact .inr (.inr (.inr ⟨by rw[c1];simp,by rw[c2];simp,by rw[c3];simp,by rw[beq_eq_false_iff_ne];exact fun h=>no ⟨c1,c2,c3,by omega⟩⟩))
     ·exact .inr (.inr (.inl ⟨by rw[c1];simp,by rw[c2];simp,by rw[beq_eq_false_iff_ne];omega,rfl⟩))
    ·exact .inr (.inl ⟨by rw[c1];simp,by rw[beq_eq_false_iff_ne];omega,rfl⟩)
   ·exact .inl ⟨by rw[beq_eq_false_iff_ne];omega,rfl⟩) (fun u hu=>CC.out u (hv.trans hu)) (fun u hu=>CEb.out u (hv.trans hu)))
end
section
open Go.RowKit
namespace Rl
def updV(x:Nat->Value)(i:Nat)(v:Value):Nat->Value:=fun j=>if j=i then v else x j
def putAll:List Oper->Nat->(Nat->Value)->Act->Act
 | [],_,_,a=>a
 | o :: r,i,x,a=>putAll r (i+1) x (a.put o.dst (x i))
def depB(o:Oper)(j:Nat):Bool:=o.after.any fun e=>e.on==j&&Region.binds .any e
def relAll(P:Program)(l:List Oper)(a:Act)(R:Nat->Value->Prop)(C:World->Prop)(Q:Exit->Act->World->Prop):Nat->List Oper->Prop
 | _,[]=>True
 | i,o :: rest=>(∀(x:Nat->Value) (w:World),C w->(∀j,depB o j=true->R j (x j))-> ∀K:Act->World->Prop,Hid (∀v w',R i v->C w'->K ((putAll l 0 x a).put o.dst v) w')->o.wp P (putAll l 0 x a) w K Q)/\relAll P l a R C Q (i+1) rest
theorem aL{P:Program}{l:List Oper}{a:Act}{R:Nat->Value->Prop}{C:World->Prop}{Q:Exit->Act->World->Prop}{i:Nat}{o:Oper}{rest:List Oper}(j:Nat)(Ri:Value->Prop)(hRi:R i=Ri)(hj:i+1=j)
  (h: ∀(x:Nat->Value) (w:World),C w->(∀k,depB o k=true->R k (x k))-> ∀K:Act->World->Prop,Hid (∀v w',Ri v->C w'->K ((putAll l 0 x a).put o.dst v) w')->o.wp P (putAll l 0 x a) w K Q)
  (t:relAll P l a R C Q j rest):relAll P l a R C Q i (o :: rest):=by
 subst hRi
 subst hj
 exact⟨h,t⟩
theorem rC{P:Program}{l:List Oper}{a:Act}{R:Nat->Value->Prop}{C:World->Prop}{Q:Exit->Act->World->Prop}{i:Nat}:relAll P l a R C Q i []:=trivial
def plainB:List Oper->Bool
 | []=>true
 | o :: r=>o.guard.isNone&&(match o.dst with | some d=>r.all (fun p=>p.dst != some d) | none=>true)&&plainB r
theorem put_put(a:Act)(d:Option Tmp)(u v:Value):(a.put d u).put d v=a.put d v:=by
 cases d with
 | none=>rfl
 | some d=>simp[Act.put]
theorem gH: ∀(l:List Oper) (i:Nat) (x:Nat->Value) (k:Nat) (v:Value) (a:Act),k<i->putAll l i (updV x k v) a=putAll l i x a
 | [],_,_,_,_,_,_=>rfl
 | o :: r,i,x,k,v,a,h=>by
  show putAll r (i+1) (updV x k v) (a.put o.dst (updV x k v i))=putAll r (i+1) x (a.put o.dst (x i))
  have e:updV x k v i=x i:=by unfold updV;rw[if_neg (by omega)]
  rw[e,gH r (i+1) x k v _ (by omega)]
theorem oA: ∀(l:List Oper) (i:Nat) (x:Nat->Value) (a:Act) (d:Option Tmp) (v:Value),(∀t,d=some t->l.all (fun p=>p.dst != some t)=true)->putAll l i x (a.put d v)=(putAll l i x a).put d v
 | [],_,_,_,_,_,_=>rfl
 | o :: r,i,x,a,d,v,h=>by
  show putAll r (i+1) x ((a.put d v).put o.dst (x i))=(putAll r (i+1) x (a.put o.dst (x i))).put d v
  rw[Act.put_comm a v (x i) (fun t ht=>by have:=h t ht;simp at this;exact this.1)]
  exact oA r (i+1) x _ d v (fun t ht=>by have:=h t ht;simp at this ⊢;exact this.2)
theorem oB: ∀(l:List Oper) (i:Nat) (x:Nat->Value) (a:Act) (k:Nat) (o:Oper) (v:Value),plainB l=true->l[k]? =some o->putAll l i (updV x (i+k) v) a=(putAll l i x a).put o.dst v
 | [],_,_,_,_,_,_,_,h=>by simp at h
 | p :: r,i,x,a,0,o,v,hp,h=>by
  simp at h
  subst h
  show putAll r (i+1) (updV x i v) (a.put p.dst (updV x i v i))=(putAll r (i+1) x (a.put p.dst (x i))).put p.dst v
  have e:updV x i v i=v:=by unfold updV;rw[if_pos rfl]
  simp only[plainB,Bool.and_eq_true]at hp
  rw[e,gH r (i+1) x i v _ (by omega),<- oA r (i+1) x _ p.dst v (fun t ht=>by have:=hp.1.2;rw[ht]at this;exact this),put_put]
 | p :: r,i,x,a,k+1,o,v,hp,h=>by
  simp at h
  simp only[plainB,Bool.and_eq_true]at hp
  show putAll r (i+1) (updV x (i+(k+1)) v) (a.put p.dst (updV x (i+(k+1)) v i))=(putAll r (i+1) x (a.put p.dst (x i))).put o.dst v
  have e:updV x (i+(k+1)) v i=x i:=by unfold updV;rw[if_neg (by omega)]
  rw[e,show i+(k+1)=i+1+k by omega]
  exact oB r (i+1) x _ k o v hp.2 h
theorem put_own(a:Act)(d:Option Tmp):a.put d (match d with | some t=>a.tmps.getD t undef | none=>undef)=a:=by
 cases d with
 | none=>rfl
 | some t=>
  show{a with tmps:=a.tmps.setIfInBounds t (a.tmps.getD t undef)}=a
  have:a.tmps.setIfInBounds t (a.tmps.getD t undef)=a.tmps:=by
   by_cases h:t<a.tmps.size
   ·refine Array.ext (by simp) fun i h1 h2=> ?_
    rw[Array.getElem_setIfInBounds (by simpa using h2)]
    split
    ·rename_i e;subst e;simp
    ·rfl
   ·exact Array.setIfInBounds_eq_of_size_le (Nat.le_of_not_lt h)
  rw[this]
theorem oC: ∀(l:List Oper) (i:Nat) (a:Act),∃x,putAll l i x a=a
 | [],_,_=>⟨fun _=>undef,rfl⟩
 | o :: r,i,a=>by
  obtain⟨x,hx⟩:=oC r (i+1) a
  refine⟨updV x i (match o.dst with | some t=>a.tmps.getD t undef | none=>undef),?_⟩
  show putAll r (i+1) _ (a.put o.dst (updV x i _ i))=a
  have e: ∀v,updV x i v i=v:=fun v=>by unfold updV;rw[if_pos rfl]
  rw[e,put_own,gH r (i+1) x i _ _ (by omega),hx]
theorem pR{P:Program}{l:List Oper}{a:Act}{R:Nat->Value->Prop}{C:World->Prop}{Q:Exit->Act->World->Prop}: ∀(r:List Oper) (i k:Nat) (o:Oper),relAll P l a R C Q i r->r[k]? =some o->
  ∀(x:Nat->Value) (w:World),C w->(∀j,depB o j=true->R j (x j))-> ∀K:Act->World->Prop,(∀v w',R (i+k) v->C w'->K ((putAll l 0 x a).put o.dst v) w')->o.wp P (putAll l 0 x a) w K Q
 | [],_,_,_,_,h=>by simp at h
 | p :: r,i,0,o,h,he=>by
  simp at he
  subst he
  exact fun x w hC hR K hK=>h.1 x w hC hR K hK
 | p :: r,i,k+1,o,h,he=>by
  simp at he
  have:=pR r (i+1) k o h.2 he
  rw[show i+1+k=i+(k+1)by omega]at this
  exact this
def Inv(l:List Oper)(a:Act)(R:Nat->Value->Prop)(C:World->Prop)(listed:Array Bool)(b:Act)(w:World):Prop:=
 ∃x,b=putAll l 0 x a/\C w/\ ∀i,listed.getD i false=true->R i (x i)
theorem zP{P:Program}{l:List Oper}{a:Act}{R:Nat->Value->Prop}{C:World->Prop}{Q:Exit->Act->World->Prop}(hp:plainB l=true)(hb:backB .any l.toArray l.length=true)
  (H:relAll P l a R C Q 0 l) (fin: ∀(x:Nat->Value) (w:World),C w->(∀i,i<l.length->R i (x i))->Q .normal (putAll l 0 x a) w):
  ∀(fuel:Nat) (listed:Array Bool) (b:Act) (w:World),listed.size=l.length->l.length<=fuel+(listed.toList.filter id).length->Inv l a R C listed b w->wpAny P .any l.toArray Q fuel listed b w:=by
 have guard: ∀{i:Nat} {o:Oper},l[i]? =some o->o.guard=none:=by
  intro i o h
  have aux: ∀(r:List Oper) (i:Nat),plainB r=true->r[i]? =some o->o.guard=none:=by
   intro r
   induction r with
   | nil=>intro i _ h;simp at h
   | cons p r ih=>
    intro i hp h
    simp only[plainB,Bool.and_eq_true]at hp
    cases i with
    | zero=>simp at h;subst h;simpa using hp.1.1
    | succ i=>simp at h;exact ih i hp.2 h
  exact aux l i hp h
 have allr: ∀{listed:Array Bool},listed.size=l.length->Region.ready .any l.toArray listed=[]-> ∀i,i<l.length->listed.getD i false=true:=by
  intro listed hs h0 i hi
  rcases dB (md:=.any) (ops:=l.toArray) (n:=l.length) (by simp) hb (listed:=listed) (by omega)with all | ⟨j,_,hj⟩
  ·rw[jT (d':=true) (by omega)];exact all i hi
  ·rw[h0]at hj;cases hj
 intro fuel
 induction fuel with
 | zero=>
  intro listed b w hs hc inv
  have full: ∀i,i<l.length->listed.getD i true=true:=by
   intro i hi
   have e:(listed.toList.filter id).length=listed.toList.length:=by
    have:=List.length_filter_le id listed.toList
    simp at hc this ⊢
    omega
   have e2:=List.length_filter_eq_length_iff.1 e
   have hm:listed.getD i true=listed[i]'(by omega):=by simp[show i<listed.size by omega]
   rw[hm]
   exact e2 _ (by simp)
  have h0:Region.ready .any l.toArray listed=[]:=by
   rw[List.eq_nil_iff_forall_not_mem]
   intro i hi
   obtain⟨u,o,ho,_⟩:=mem_ready.1 hi
   have lt:i<l.length:=by have:=(Array.getElem?_eq_some_iff.1 ho).1;simpa using this
   rw[full i lt]at u
   cases u
  obtain⟨x,rfl,hC,hR⟩:=inv
  exact⟨h0,fin x w hC (fun i hi=>hR i (by rw[jT (d':=true) (by omega)];exact full i hi))⟩
 | succ fuel ih=>
  intro listed b w hs hc inv
  obtain⟨x,rfl,hC,hR⟩:=inv
  refine⟨fun h0=>fin x w hC (fun i hi=>hR i (allr hs h0 i hi)),fun i hi=> ?_⟩
  obtain⟨u,o,ho,hd⟩:=mem_ready.1 hi
  have lt:i<l.length:=by have:=(Array.getElem?_eq_some_iff.1 ho).1;simpa using this
  have ho':l[i]? =some o:=by simpa using ho
  have cnt:l.length<=fuel+((listed.setIfInBounds i true).toList.filter id).length:=by
   have hf:listed.toList[i]? =some false:=by
    have:listed.getD i true=listed[i]'(by omega):=by simp[show i<listed.size by omega]
    rw[this]at u
    simp[show i<listed.size by omega,u]
   have aux: ∀(t:List Bool) (i:Nat),t[i]? =some false->((t.set i true).filter id).length=(t.filter id).length+1:=by
    intro t
    induction t with
    | nil=>intro i h;simp at h
    | cons b t ih=>
     intro i h
     cases i with
     | zero=>simp at h;subst h;simp
     | succ i=>
      simp at h
      have:=ih i h
      cases b<;>simp[this]
   have:=aux listed.toList i hf
   simp only[Array.toList_setIfInBounds]
   rw[this]
   omega
  unfold wpOp
  rw[ho]
  have hg:o.guard=none:=guard ho'
  have hw:Region.wanted o (yielded l.toArray (putAll l 0 x a).tmps)=true:=by simp[Region.wanted,hg]
  simp only[hw,if_true]
  left
  have step:=pR l 0 i o H ho' x w hC (fun j hj=>by
   unfold depB at hj
   rw[<- Array.any_toList]at hj
   obtain⟨e,he',h2⟩:=List.any_eq_true.1 hj
   have he:e ∈ o.after:=Array.mem_toList_iff.1 he'
   simp at h2
   have:=hd e he h2.2
   rw[h2.1]at this
   exact hR j this)
  rw[Nat.zero_add]at step
  refine step _ (fun v w' hv hC'=>ih _ _ w' (by simpa using hs) cnt ⟨updV x i v,?_,hC',fun j hj=> ?_⟩)
  ·have:=oB l 0 x a i o v hp ho'
   rw[Nat.zero_add]at this
   exact this.symm
  ·by_cases e:j=i
   ·subst e;unfold updV;rw[if_pos rfl];exact hv
   ·have:listed.getD j false=true:=by rw[getD_set_ne false (Ne.symm e)]at hj;exact hj
    unfold updV;rw[if_neg e];exact hR j this
theorem jA{P:Program}{id:Nat}{Q:Exit->Act->World->Prop}{a:Act}{w:World}{l:List Oper}(R:Nat->Value->Prop)(C:World->Prop)(hm:P.follows .mixedOrders=true)(hp:plainB l=true)(hb:backB .any l.toArray l.length=true)(hC:C w.drew)
  (H:relAll P l a R C Q 0 l) (fin: ∀(x:Nat->Value) (w:World),C w->(∀i,i<l.length->R i (x i))->Q .normal (putAll l 0 x a) w):(Code.region id l.toArray true).wp P Q a w:=by
 refine wp_region_any hm ?_
 obtain⟨x,hx⟩:=oC l 0 a
 exact zP hp hb H fin _ _ a w.drew (by simp) (by simp) ⟨x,hx.symm,hC,fun i hi=>by rw[getD_replicate_false]at hi;cases hi⟩
end Rl
end
end Go.Proofs.YtjheiemgfibgpaaGreatDoor
