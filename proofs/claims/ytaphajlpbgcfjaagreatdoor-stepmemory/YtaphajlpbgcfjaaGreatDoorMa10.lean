/-
  Some of the texts of this proof, one behind the other.
-/
import Derived.Laws.CopyOwn
import Derived.Laws.IdiomCopy
import Derived.Deep.RegionHeld3
import Derived.Deep.QuietTactic
import Derived.Test.YtaphajlpbgcfjaaGreatDoorMa09
set_option maxRecDepth 100000
set_option maxHeartbeats 400000000
namespace Go.Proofs.YtaphajlpbgcfjaaGreatDoor
open _root_.Go.Proofs.Tryz
section
open Go.RowKit Tf
attribute [local go_sem] aK aL aP aQ aR aV aW
theorem lD{r x:Nat}(h:IsC r x)(hx:x<=9218868437227405312):canonB (negB r)=op x:=by
 obtain⟨h1,h2⟩:=h
 by_cases z:mg r=0
 ·have n:isN r=false:=cO.2 (by omega)
  have e:x=0:=by rw[<- h2];unfold canonB;rw[n,z];rfl
  subst e
  have m:mg (negB r)=0:=by rw[mg_negB];exact z
  have n2:isN (negB r)=false:=cO.2 (by omega)
  unfold canonB
  rw[n2,m]
  rfl
 ·have e:r=x:=by
   unfold canonB at h2
   rw[if_neg z]at h2
   split at h2
   ·rw[<- h2]at hx;unfold quiet at hx;omega
   ·exact h2
  subst e
  exact canon_op hx
theorem IsC.refl{x:Nat}(h:x<=9218868437227405312):IsC x x:=⟨by omega,zB h⟩
def Lim(f:Nat)(k:Int):Prop:= ∀a b w,ps a=true->ps b=true->Calls prog f #[.float .f64 a,.float .f64 b] w fun e w'=> ∃r,e=.returned (.float .f64 r)/\(∃n,w'=w.drewN n)/\IsC r (lm k a b)
theorem lim0:Lim 188 0:=by
 intro a b w ha hb
 refine(plain_at a b w).mono ?_
 rintro e w' ⟨rfl,rfl⟩
 exact⟨0,rfl,⟨0,rfl⟩,IsC.refl (by decide)⟩
theorem lim1:Lim 189 1:=by
 intro a b w ha hb
 have a1:=cA.1 ha
 have b1:=cA.1 hb
 refine(Gi a b w a1.2 b1.2).mono ?_
 rintro e w' ⟨rfl,rfl⟩
 exact⟨_,rfl,⟨0,rfl⟩,IsC.refl (lK 1 a1.2 b1.2)⟩
theorem lim2:Lim 190 2:=by
 intro a b w ha hb
 have a1:=cA.1 ha
 have b1:=cA.1 hb
 refine(zL a b w ha hb).mono ?_
 rintro e w' ⟨rfl,rfl⟩
 exact⟨_,rfl,⟨0,rfl⟩,IsC.refl (lK 2 a1.2 b1.2)⟩
theorem lim3:Lim 191 3:=by
 intro a b w ha hb
 refine(leer_at a b w ha hb).mono ?_
 rintro e w' ⟨r,rfl,n,h⟩
 exact⟨r,rfl,n,h⟩
theorem slope_p0(a b:Nat)(w:World)(ha:a<18446744073709551616)(hb:b<18446744073709551616)(pa:ps a=true)(pb:ps b=true):Calls prog 173 #[.int .i64 0,.float .f64 a,.float .f64 b] w fun e w'=>e=.returned (.float .f64 (lm 0 a b))/\Below w.heap.size w w':=by
 have V:=hid (dC 0 w)
 have L:=hid bW
 have IX: ∀w:World,(Instr.index 197 (.agg #[.func (.func 188) #[] #[],.func (.func 189) #[] #[],.func (.func 190) #[] #[],.func (.func 191) #[] #[]]) (.int .i64 0)).run prog w=.ok (.func (.func 188) #[] #[]) w:=fun _=>by kernel_rfl
 have G:=hid lim0
 have ga:fgt a 0=true:=by rw[dE ha];exact pa
 have gb:fgt b 0=true:=by rw[dE hb];exact pb
 have PA:=hid pa
 have PB:=hid pb
 clear pa pb ha hb
 go_enter func173,ntmps173
 go_wp2_with fail
 refine V.out.mono ?_
 rintro e w1 ⟨rfl,b1⟩
 have B1:=hid b1
 clear b1
 go_wp2_with fail
 refine(L.out _).mono ?_
 rintro e w2 ⟨rfl,b2⟩
 have B2:=hid b2
 clear b2
 go_wp2_with fail
 refine(G.out a b _ PA.out PB.out).mono ?_
 rintro e w3 ⟨r,rfl,⟨n,rfl⟩,hr⟩
 have C:=hid (bO r (w2.drewN n) hr.1)
 have HR:=hid hr.2
 clear hr
 go_wp2_with fail
 refine C.out.mono ?_
 rintro e w4 ⟨rfl,rfl⟩
 go_wp2
 go_ret
 exact⟨gY HR.out,Ab.drewN (Ab.trans B1.out B2.out) n⟩
theorem slope_m0(a b p q:Nat)(w:World)(ga:flt a 0=true)(gb:flt b 0=true)(ga2:fgt a 0=false)(na:Op.negFloat .f64 a=p)(nb:Op.negFloat .f64 b=q)(P:Hid (ps p=true))(Q:Hid (ps q=true)):Calls prog 173 #[.int .i64 0,.float .f64 a,.float .f64 b] w fun e w'=>e=.returned (.float .f64 (op (lm 0 p q)))/\Below w.heap.size w w':=by
 have V:=hid (dC 0 w)
 have L:=hid bW
 have IX: ∀w:World,(Instr.index 197 (.agg #[.func (.func 188) #[] #[],.func (.func 189) #[] #[],.func (.func 190) #[] #[],.func (.func 191) #[] #[]]) (.int .i64 0)).run prog w=.ok (.func (.func 188) #[] #[]) w:=fun _=>by kernel_rfl
 have G:=hid lim0
 go_enter func173,ntmps173
 go_wp2_with fail
 refine V.out.mono ?_
 rintro e w1 ⟨rfl,b1⟩
 have B1:=hid b1
 clear b1
 go_wp2_with fail
 refine(L.out _).mono ?_
 rintro e w2 ⟨rfl,b2⟩
 have B2:=hid b2
 clear b2
 go_wp2_with fail
 refine(G.out p q _ P.out Q.out).mono ?_
 rintro e w3 ⟨r,rfl,⟨n,rfl⟩,hr⟩
 have E:canonB (Op.negFloat .f64 r)=op (lm 0 p q):=by rw[bF r hr.1];exact lD hr (lK 0 (cA.1 P.out).2 (cA.1 Q.out).2)
 have C:=bO (Op.negFloat .f64 r) (w2.drewN n) (by rw[bF r hr.1];exact qD hr.1)
 rw[E]at C
 have C:=hid C
 clear hr E
 go_wp2_with fail
 refine C.out.mono ?_
 rintro e w4 ⟨rfl,rfl⟩
 go_wp2
 go_ret
 exact⟨rfl,Ab.drewN (Ab.trans B1.out B2.out) n⟩
theorem slope_n0(a b:Nat)(w:World)(ha:a<18446744073709551616)(hb:b<18446744073709551616)(pa:ns a=true)(pb:ns b=true):Calls prog 173 #[.int .i64 0,.float .f64 a,.float .f64 b] w fun e w'=>e=.returned (.float .f64 (op (lm 0 (a - 9223372036854775808) (b - 9223372036854775808))))/\Below w.heap.size w w':=by
 have a1:=fW.1 pa
 have b1:=fW.1 pb
 exact slope_m0 a b _ _ w (by rw[eB ha];exact pa) (by rw[eB hb];exact pb) (by rw[dE ha];exact ps_no.2 (by omega)) (by rw[bF a ha,kF a1.1]) (by rw[bF b hb,kF b1.1]) (cA.2 ⟨by omega,by omega⟩) (cA.2 ⟨by omega,by omega⟩)
theorem slope_z0(a b:Nat)(w:World)(ha:a<18446744073709551616)(hb:b<18446744073709551616)(pa:(ps a&&ps b)=false)(pb:(ns a&&ns b)=false):Calls prog 173 #[.int .i64 0,.float .f64 a,.float .f64 b] w fun e w'=>e=.returned (.float .f64 0)/\Below w.heap.size w w':=by
 have V:=hid (dC 0 w)
 have L:=hid bW
 have IX: ∀w:World,(Instr.index 197 (.agg #[.func (.func 188) #[] #[],.func (.func 189) #[] #[],.func (.func 190) #[] #[],.func (.func 191) #[] #[]]) (.int .i64 0)).run prog w=.ok (.func (.func 188) #[] #[]) w:=fun _=>by kernel_rfl
 rw[<- dE ha,<- dE hb]at pa
 rw[<- eB ha,<- eB hb]at pb
 clear ha hb
 cases g1:fgt a 0<;>cases g2:flt a 0<;>rw[g1]at pa<;>rw[g2]at pb<;>(try rw[Bool.true_and]at pa)<;>(try rw[Bool.true_and]at pb)<;>(
  go_enter func173,ntmps173
  go_wp2_with fail
  refine V.out.mono ?_
  rintro e w1 ⟨rfl,b1⟩
  have B1:=hid b1
  clear b1
  go_wp2_with fail
  refine(L.out _).mono ?_
  rintro e w2 ⟨rfl,b2⟩
  have B2:=hid b2
  clear b2
  go_wp2
  go_ret
  exact⟨rfl,Ab.trans B1.out B2.out⟩)
theorem slope_p1(a b:Nat)(w:World)(ha:a<18446744073709551616)(hb:b<18446744073709551616)(pa:ps a=true)(pb:ps b=true):Calls prog 173 #[.int .i64 1,.float .f64 a,.float .f64 b] w fun e w'=>e=.returned (.float .f64 (lm 1 a b))/\Below w.heap.size w w':=by
 have V:=hid (dC 1 w)
 have L:=hid bW
 have IX: ∀w:World,(Instr.index 197 (.agg #[.func (.func 188) #[] #[],.func (.func 189) #[] #[],.func (.func 190) #[] #[],.func (.func 191) #[] #[]]) (.int .i64 1)).run prog w=.ok (.func (.func 189) #[] #[]) w:=fun _=>by kernel_rfl
 have G:=hid lim1
 have ga:fgt a 0=true:=by rw[dE ha];exact pa
 have gb:fgt b 0=true:=by rw[dE hb];exact pb
 have PA:=hid pa
 have PB:=hid pb
 clear pa pb ha hb
 go_enter func173,ntmps173
 go_wp2_with fail
 refine V.out.mono ?_
 rintro e w1 ⟨rfl,b1⟩
 have B1:=hid b1
 clear b1
 go_wp2_with fail
 refine(L.out _).mono ?_
 rintro e w2 ⟨rfl,b2⟩
 have B2:=hid b2
 clear b2
 go_wp2_with fail
 refine(G.out a b _ PA.out PB.out).mono ?_
 rintro e w3 ⟨r,rfl,⟨n,rfl⟩,hr⟩
 have C:=hid (bO r (w2.drewN n) hr.1)
 have HR:=hid hr.2
 clear hr
 go_wp2_with fail
 refine C.out.mono ?_
 rintro e w4 ⟨rfl,rfl⟩
 go_wp2
 go_ret
 exact⟨gY HR.out,Ab.drewN (Ab.trans B1.out B2.out) n⟩
theorem slope_m1(a b p q:Nat)(w:World)(ga:flt a 0=true)(gb:flt b 0=true)(ga2:fgt a 0=false)(na:Op.negFloat .f64 a=p)(nb:Op.negFloat .f64 b=q)(P:Hid (ps p=true))(Q:Hid (ps q=true)):Calls prog 173 #[.int .i64 1,.float .f64 a,.float .f64 b] w fun e w'=>e=.returned (.float .f64 (op (lm 1 p q)))/\Below w.heap.size w w':=by
 have V:=hid (dC 1 w)
 have L:=hid bW
 have IX: ∀w:World,(Instr.index 197 (.agg #[.func (.func 188) #[] #[],.func (.func 189) #[] #[],.func (.func 190) #[] #[],.func (.func 191) #[] #[]]) (.int .i64 1)).run prog w=.ok (.func (.func 189) #[] #[]) w:=fun _=>by kernel_rfl
 have G:=hid lim1
 go_enter func173,ntmps173
 go_wp2_with fail
 refine V.out.mono ?_
 rintro e w1 ⟨rfl,b1⟩
 have B1:=hid b1
 clear b1
 go_wp2_with fail
 refine(L.out _).mono ?_
 rintro e w2 ⟨rfl,b2⟩
 have B2:=hid b2
 clear b2
 go_wp2_with fail
 refine(G.out p q _ P.out Q.out).mono ?_
 rintro e w3 ⟨r,rfl,⟨n,rfl⟩,hr⟩
 have E:canonB (Op.negFloat .f64 r)=op (lm 1 p q):=by rw[bF r hr.1];exact lD hr (lK 1 (cA.1 P.out).2 (cA.1 Q.out).2)
 have C:=bO (Op.negFloat .f64 r) (w2.drewN n) (by rw[bF r hr.1];exact qD hr.1)
 rw[E]at C
 have C:=hid C
 clear hr E
 go_wp2_with fail
 refine C.out.mono ?_
 rintro e w4 ⟨rfl,rfl⟩
 go_wp2
 go_ret
 exact⟨rfl,Ab.drewN (Ab.trans B1.out B2.out) n⟩
theorem slope_n1(a b:Nat)(w:World)(ha:a<18446744073709551616)(hb:b<18446744073709551616)(pa:ns a=true)(pb:ns b=true):Calls prog 173 #[.int .i64 1,.float .f64 a,.float .f64 b] w fun e w'=>e=.returned (.float .f64 (op (lm 1 (a - 9223372036854775808) (b - 9223372036854775808))))/\Below w.heap.size w w':=by
 have a1:=fW.1 pa
 have b1:=fW.1 pb
 exact slope_m1 a b _ _ w (by rw[eB ha];exact pa) (by rw[eB hb];exact pb) (by rw[dE ha];exact ps_no.2 (by omega)) (by rw[bF a ha,kF a1.1]) (by rw[bF b hb,kF b1.1]) (cA.2 ⟨by omega,by omega⟩) (cA.2 ⟨by omega,by omega⟩)
theorem slope_z1(a b:Nat)(w:World)(ha:a<18446744073709551616)(hb:b<18446744073709551616)(pa:(ps a&&ps b)=false)(pb:(ns a&&ns b)=false):Calls prog 173 #[.int .i64 1,.float .f64 a,.float .f64 b] w fun e w'=>e=.returned (.float .f64 0)/\Below w.heap.size w w':=by
 have V:=hid (dC 1 w)
 have L:=hid bW
 have IX: ∀w:World,(Instr.index 197 (.agg #[.func (.func 188) #[] #[],.func (.func 189) #[] #[],.func (.func 190) #[] #[],.func (.func 191) #[] #[]]) (.int .i64 1)).run prog w=.ok (.func (.func 189) #[] #[]) w:=fun _=>by kernel_rfl
 rw[<- dE ha,<- dE hb]at pa
 rw[<- eB ha,<- eB hb]at pb
 clear ha hb
 cases g1:fgt a 0<;>cases g2:flt a 0<;>rw[g1]at pa<;>rw[g2]at pb<;>(try rw[Bool.true_and]at pa)<;>(try rw[Bool.true_and]at pb)<;>(
  go_enter func173,ntmps173
  go_wp2_with fail
  refine V.out.mono ?_
  rintro e w1 ⟨rfl,b1⟩
  have B1:=hid b1
  clear b1
  go_wp2_with fail
  refine(L.out _).mono ?_
  rintro e w2 ⟨rfl,b2⟩
  have B2:=hid b2
  clear b2
  go_wp2
  go_ret
  exact⟨rfl,Ab.trans B1.out B2.out⟩)
theorem slope_p2(a b:Nat)(w:World)(ha:a<18446744073709551616)(hb:b<18446744073709551616)(pa:ps a=true)(pb:ps b=true):Calls prog 173 #[.int .i64 2,.float .f64 a,.float .f64 b] w fun e w'=>e=.returned (.float .f64 (lm 2 a b))/\Below w.heap.size w w':=by
 have V:=hid (dC 2 w)
 have L:=hid bW
 have IX: ∀w:World,(Instr.index 197 (.agg #[.func (.func 188) #[] #[],.func (.func 189) #[] #[],.func (.func 190) #[] #[],.func (.func 191) #[] #[]]) (.int .i64 2)).run prog w=.ok (.func (.func 190) #[] #[]) w:=fun _=>by kernel_rfl
 have G:=hid lim2
 have ga:fgt a 0=true:=by rw[dE ha];exact pa
 have gb:fgt b 0=true:=by rw[dE hb];exact pb
 have PA:=hid pa
 have PB:=hid pb
 clear pa pb ha hb
 go_enter func173,ntmps173
 go_wp2_with fail
 refine V.out.mono ?_
 rintro e w1 ⟨rfl,b1⟩
 have B1:=hid b1
 clear b1
 go_wp2_with fail
 refine(L.out _).mono ?_
 rintro e w2 ⟨rfl,b2⟩
 have B2:=hid b2
 clear b2
 go_wp2_with fail
 refine(G.out a b _ PA.out PB.out).mono ?_
 rintro e w3 ⟨r,rfl,⟨n,rfl⟩,hr⟩
 have C:=hid (bO r (w2.drewN n) hr.1)
 have HR:=hid hr.2
 clear hr
 go_wp2_with fail
 refine C.out.mono ?_
 rintro e w4 ⟨rfl,rfl⟩
 go_wp2
 go_ret
 exact⟨gY HR.out,Ab.drewN (Ab.trans B1.out B2.out) n⟩
theorem slope_m2(a b p q:Nat)(w:World)(ga:flt a 0=true)(gb:flt b 0=true)(ga2:fgt a 0=false)(na:Op.negFloat .f64 a=p)(nb:Op.negFloat .f64 b=q)(P:Hid (ps p=true))(Q:Hid (ps q=true)):Calls prog 173 #[.int .i64 2,.float .f64 a,.float .f64 b] w fun e w'=>e=.returned (.float .f64 (op (lm 2 p q)))/\Below w.heap.size w w':=by
 have V:=hid (dC 2 w)
 have L:=hid bW
 have IX: ∀w:World,(Instr.index 197 (.agg #[.func (.func 188) #[] #[],.func (.func 189) #[] #[],.func (.func 190) #[] #[],.func (.func 191) #[] #[]]) (.int .i64 2)).run prog w=.ok (.func (.func 190) #[] #[]) w:=fun _=>by kernel_rfl
 have G:=hid lim2
 go_enter func173,ntmps173
 go_wp2_with fail
 refine V.out.mono ?_
 rintro e w1 ⟨rfl,b1⟩
 have B1:=hid b1
 clear b1
 go_wp2_with fail
 refine(L.out _).mono ?_
 rintro e w2 ⟨rfl,b2⟩
 have B2:=hid b2
 clear b2
 go_wp2_with fail
 refine(G.out p q _ P.out Q.out).mono ?_
 rintro e w3 ⟨r,rfl,⟨n,rfl⟩,hr⟩
 have E:canonB (Op.negFloat .f64 r)=op (lm 2 p q):=by rw[bF r hr.1];exact lD hr (lK 2 (cA.1 P.out).2 (cA.1 Q.out).2)
 have C:=bO (Op.negFloat .f64 r) (w2.drewN n) (by rw[bF r hr.1];exact qD hr.1)
 rw[E]at C
 have C:=hid C
 clear hr E
 go_wp2_with fail
 refine C.out.mono ?_
 rintro e w4 ⟨rfl,rfl⟩
 go_wp2
 go_ret
 exact⟨rfl,Ab.drewN (Ab.trans B1.out B2.out) n⟩
theorem slope_n2(a b:Nat)(w:World)(ha:a<18446744073709551616)(hb:b<18446744073709551616)(pa:ns a=true)(pb:ns b=true):Calls prog 173 #[.int .i64 2,.float .f64 a,.float .f64 b] w fun e w'=>e=.returned (.float .f64 (op (lm 2 (a - 9223372036854775808) (b - 9223372036854775808))))/\Below w.heap.size w w':=by
 have a1:=fW.1 pa
 have b1:=fW.1 pb
 exact slope_m2 a b _ _ w (by rw[eB ha];exact pa) (by rw[eB hb];exact pb) (by rw[dE ha];exact ps_no.2 (by omega)) (by rw[bF a ha,kF a1.1]) (by rw[bF b hb,kF b1.1]) (cA.2 ⟨by omega,by omega⟩) (cA.2 ⟨by omega,by omega⟩)
theorem slope_z2(a b:Nat)(w:World)(ha:a<18446744073709551616)(hb:b<18446744073709551616)(pa:(ps a&&ps b)=false)(pb:(ns a&&ns b)=false):Calls prog 173 #[.int .i64 2,.float .f64 a,.float .f64 b] w fun e w'=>e=.returned (.float .f64 0)/\Below w.heap.size w w':=by
 have V:=hid (dC 2 w)
 have L:=hid bW
 have IX: ∀w:World,(Instr.index 197 (.agg #[.func (.func 188) #[] #[],.func (.func 189) #[] #[],.func (.func 190) #[] #[],.func (.func 191) #[] #[]]) (.int .i64 2)).run prog w=.ok (.func (.func 190) #[] #[]) w:=fun _=>by kernel_rfl
 rw[<- dE ha,<- dE hb]at pa
 rw[<- eB ha,<- eB hb]at pb
 clear ha hb
 cases g1:fgt a 0<;>cases g2:flt a 0<;>rw[g1]at pa<;>rw[g2]at pb<;>(try rw[Bool.true_and]at pa)<;>(try rw[Bool.true_and]at pb)<;>(
  go_enter func173,ntmps173
  go_wp2_with fail
  refine V.out.mono ?_
  rintro e w1 ⟨rfl,b1⟩
  have B1:=hid b1
  clear b1
  go_wp2_with fail
  refine(L.out _).mono ?_
  rintro e w2 ⟨rfl,b2⟩
  have B2:=hid b2
  clear b2
  go_wp2
  go_ret
  exact⟨rfl,Ab.trans B1.out B2.out⟩)
theorem slope_p3(a b:Nat)(w:World)(ha:a<18446744073709551616)(hb:b<18446744073709551616)(pa:ps a=true)(pb:ps b=true):Calls prog 173 #[.int .i64 3,.float .f64 a,.float .f64 b] w fun e w'=>e=.returned (.float .f64 (lm 3 a b))/\Below w.heap.size w w':=by
 have V:=hid (dC 3 w)
 have L:=hid bW
 have IX: ∀w:World,(Instr.index 197 (.agg #[.func (.func 188) #[] #[],.func (.func 189) #[] #[],.func (.func 190) #[] #[],.func (.func 191) #[] #[]]) (.int .i64 3)).run prog w=.ok (.func (.func 191) #[] #[]) w:=fun _=>by kernel_rfl
 have G:=hid lim3
 have ga:fgt a 0=true:=by rw[dE ha];exact pa
 have gb:fgt b 0=true:=by rw[dE hb];exact pb
 have PA:=hid pa
 have PB:=hid pb
 clear pa pb ha hb
 go_enter func173,ntmps173
 go_wp2_with fail
 refine V.out.mono ?_
 rintro e w1 ⟨rfl,b1⟩
 have B1:=hid b1
 clear b1
 go_wp2_with fail
 refine(L.out _).mono ?_
 rintro e w2 ⟨rfl,b2⟩
 have B2:=hid b2
 clear b2
 go_wp2_with fail
 refine(G.out a b _ PA.out PB.out).mono ?_
 rintro e w3 ⟨r,rfl,⟨n,rfl⟩,hr⟩
 have C:=hid (bO r (w2.drewN n) hr.1)
 have HR:=hid hr.2
 clear hr
 go_wp2_with fail
 refine C.out.mono ?_
 rintro e w4 ⟨rfl,rfl⟩
 go_wp2
 go_ret
 exact⟨gY HR.out,Ab.drewN (Ab.trans B1.out B2.out) n⟩
theorem slope_m3(a b p q:Nat)(w:World)(ga:flt a 0=true)(gb:flt b 0=true)(ga2:fgt a 0=false)(na:Op.negFloat .f64 a=p)(nb:Op.negFloat .f64 b=q)(P:Hid (ps p=true))(Q:Hid (ps q=true)):Calls prog 173 #[.int .i64 3,.float .f64 a,.float .f64 b] w fun e w'=>e=.returned (.float .f64 (op (lm 3 p q)))/\Below w.heap.size w w':=by
 have V:=hid (dC 3 w)
 have L:=hid bW
 have IX: ∀w:World,(Instr.index 197 (.agg #[.func (.func 188) #[] #[],.func (.func 189) #[] #[],.func (.func 190) #[] #[],.func (.func 191) #[] #[]]) (.int .i64 3)).run prog w=.ok (.func (.func 191) #[] #[]) w:=fun _=>by kernel_rfl
 have G:=hid lim3
 go_enter func173,ntmps173
 go_wp2_with fail
 refine V.out.mono ?_
 rintro e w1 ⟨rfl,b1⟩
 have B1:=hid b1
 clear b1
 go_wp2_with fail
 refine(L.out _).mono ?_
 rintro e w2 ⟨rfl,b2⟩
 have B2:=hid b2
 clear b2
 go_wp2_with fail
 refine(G.out p q _ P.out Q.out).mono ?_
 rintro e w3 ⟨r,rfl,⟨n,rfl⟩,hr⟩
 have E:canonB (Op.negFloat .f64 r)=op (lm 3 p q):=by rw[bF r hr.1];exact lD hr (lK 3 (cA.1 P.out).2 (cA.1 Q.out).2)
 have C:=bO (Op.negFloat .f64 r) (w2.drewN n) (by rw[bF r hr.1];exact qD hr.1)
 rw[E]at C
 have C:=hid C
 clear hr E
 go_wp2_with fail
 refine C.out.mono ?_
 rintro e w4 ⟨rfl,rfl⟩
 go_wp2
 go_ret
 exact⟨rfl,Ab.drewN (Ab.trans B1.out B2.out) n⟩
theorem slope_n3(a b:Nat)(w:World)(ha:a<18446744073709551616)(hb:b<18446744073709551616)(pa:ns a=true)(pb:ns b=true):Calls prog 173 #[.int .i64 3,.float .f64 a,.float .f64 b] w fun e w'=>e=.returned (.float .f64 (op (lm 3 (a - 9223372036854775808) (b - 9223372036854775808))))/\Below w.heap.size w w':=by
 have a1:=fW.1 pa
 have b1:=fW.1 pb
 exact slope_m3 a b _ _ w (by rw[eB ha];exact pa) (by rw[eB hb];exact pb) (by rw[dE ha];exact ps_no.2 (by omega)) (by rw[bF a ha,kF a1.1]) (by rw[bF b hb,kF b1.1]) (cA.2 ⟨by omega,by omega⟩) (cA.2 ⟨by omega,by omega⟩)
theorem slope_z3(a b:Nat)(w:World)(ha:a<18446744073709551616)(hb:b<18446744073709551616)(pa:(ps a&&ps b)=false)(pb:(ns a&&ns b)=false):Calls prog 173 #[.int .i64 3,.float .f64 a,.float .f64 b] w fun e w'=>e=.returned (.float .f64 0)/\Below w.heap.size w w':=by
 have V:=hid (dC 3 w)
 have L:=hid bW
 have IX: ∀w:World,(Instr.index 197 (.agg #[.func (.func 188) #[] #[],.func (.func 189) #[] #[],.func (.func 190) #[] #[],.func (.func 191) #[] #[]]) (.int .i64 3)).run prog w=.ok (.func (.func 191) #[] #[]) w:=fun _=>by kernel_rfl
 rw[<- dE ha,<- dE hb]at pa
 rw[<- eB ha,<- eB hb]at pb
 clear ha hb
 cases g1:fgt a 0<;>cases g2:flt a 0<;>rw[g1]at pa<;>rw[g2]at pb<;>(try rw[Bool.true_and]at pa)<;>(try rw[Bool.true_and]at pb)<;>(
  go_enter func173,ntmps173
  go_wp2_with fail
  refine V.out.mono ?_
  rintro e w1 ⟨rfl,b1⟩
  have B1:=hid b1
  clear b1
  go_wp2_with fail
  refine(L.out _).mono ?_
  rintro e w2 ⟨rfl,b2⟩
  have B2:=hid b2
  clear b2
  go_wp2
  go_ret
  exact⟨rfl,Ab.trans B1.out B2.out⟩)
theorem slope_i(k:Int)(a b:Nat)(w:World)(hk:decide (0<=k/\k<=3)=false):Calls prog 173 #[.int .i64 k,.float .f64 a,.float .f64 b] w fun e w'=>e=.returned (.float .f64 0)/\Below w.heap.size w w':=by
 have V:=dC k w
 rw[hk]at V
 have V:=hid V
 clear hk
 go_enter func173,ntmps173
 go_wp2_with fail
 refine V.out.mono ?_
 rintro e w1 ⟨rfl,b1⟩
 have B1:=hid b1
 clear b1
 go_wp2
 go_ret
 exact⟨rfl,B1.out⟩
theorem zM(k:Int)(a b:Nat)(w:World)(ha:a<18446744073709551616)(hb:b<18446744073709551616):Calls prog 173 #[.int .i64 k,.float .f64 a,.float .f64 b] w fun e w'=>e=.returned (.float .f64 (slp k a b))/\Below w.heap.size w w':=by
 by_cases hk:0<=k/\k<=3
 ·have hk:k=0\/k=1\/k=2\/k=3:=by omega
  unfold slp
  cases p:(ps a&&ps b)
  ·cases n:(ns a&&ns b)
   ·rw[if_neg (by decide),if_neg (by decide)]
    rcases hk with rfl | rfl | rfl | rfl
    ·exact slope_z0 a b w ha hb p n
    ·exact slope_z1 a b w ha hb p n
    ·exact slope_z2 a b w ha hb p n
    ·exact slope_z3 a b w ha hb p n
   ·rw[if_neg (by decide),if_pos rfl]
    rw[Bool.and_eq_true]at n
    rcases hk with rfl | rfl | rfl | rfl
    ·exact slope_n0 a b w ha hb n.1 n.2
    ·exact slope_n1 a b w ha hb n.1 n.2
    ·exact slope_n2 a b w ha hb n.1 n.2
    ·exact slope_n3 a b w ha hb n.1 n.2
  ·rw[if_pos rfl]
   rw[Bool.and_eq_true]at p
   rcases hk with rfl | rfl | rfl | rfl
   ·exact slope_p0 a b w ha hb p.1 p.2
   ·exact slope_p1 a b w ha hb p.1 p.2
   ·exact slope_p2 a b w ha hb p.1 p.2
   ·exact slope_p3 a b w ha hb p.1 p.2
 ·have e:slp k a b=0:=by
   have h: ∀x y,lm k x y=0:=fun x y=>by
    unfold lm
    rw[if_neg (by omega),if_neg (by omega),if_neg (by omega)]
   unfold slp op
   rw[h,h]
   simp
  rw[e]
  exact slope_i k a b w (decide_eq_false hk)
end
section
open Go.RowKit Tf Cu Go.Deep
namespace Rv
def AbQ(V:World)(P:Nat->Prop)(w:World):Prop:=w.os=V.os/\w.tape=V.tape/\w.output=V.output/\V.heap.size<=w.heap.size/\ ∀k,k<V.heap.size-> ¬P k->w.heap[k]? =V.heap[k]?
theorem AbQ.refl(V:World)(P:Nat->Prop):AbQ V P V:=⟨rfl,rfl,rfl,Nat.le_refl _,fun _ _ _=>rfl⟩
theorem AbQ.to{V w w':World}{P:Nat->Prop}(h:AbQ V P w)(a:Ab w w'):AbQ V P w':=by
 obtain⟨h1,h2,h3,h4,h5⟩:=h
 exact⟨a.os.trans h1,a.tape.trans h2,a.output.trans h3,Nat.le_trans h4 a.size,fun k hk hp=>(a.block k (by omega)).trans (h5 k hk hp)⟩
theorem AbQ.set{V w:World}{P:Nat->Prop}(h:AbQ V P w){g k:Nat}(hp:P g\/V.heap.size<=g)(v:Value):AbQ V P (w.setCell ⟨g,k,none⟩ v):=by
 obtain⟨h1,h2,h3,h4,h5⟩:=h
 refine⟨h1,h2,h3,by simpa [World.setCell]using h4,fun i hi hn=>(Below.heap_setCell _ _ _ _ (fun e=> ?_)).trans (h5 i hi hn)⟩
 have e2:i=g:=e
 rcases hp with h | h
 ·exact hn (by rw[e2];exact h)
 ·omega
theorem AbQ.ab{w0 V w:World}{P:Nat->Prop}(h:AbQ V P w)(a:Ab w0 V)(hp: ∀k,k<w0.heap.size-> ¬P k):Ab w0 w:=by
 obtain⟨h1,h2,h3,h4,h5⟩:=h
 exact⟨h1.trans a.os,h2.trans a.tape,h3.trans a.output,Nat.le_trans (Below.size a) h4,fun k hk=>(h5 k (Nat.lt_of_lt_of_le hk (Below.size a)) (hp k hk)).trans (a.block k hk)⟩
theorem AbQ.isI{V w:World}{P:Nat->Prop}{p:Option Addr}{n:Nat}{f:Nat->Int}(a:AbQ V P w)(h:Sh.IsI V p n f)(hp: ∀b o,p=some ⟨b,o,none⟩-> ¬P b):Sh.IsI w p n f:=fun k hk=>by
 obtain⟨h1,b,o,h2,h3,h4⟩:=h k hk
 exact⟨h1,b,o,h2,Nat.lt_of_lt_of_le h3 a.2.2.2.1,(World.cell?_of_block (a.2.2.2.2 b h3 (hp b o h2))).trans h4⟩
theorem AbQ.isFl{V w:World}{P:Nat->Prop}{p:Option Addr}{n:Nat}{f:Nat->Nat}(a:AbQ V P w)(h:IsFl V p n f)(hp: ∀b o,p=some ⟨b,o,none⟩-> ¬P b):IsFl w p n f:=fun k hk=>by
 obtain⟨h1,b,o,h2,h3,h4⟩:=h k hk
 exact⟨h1,b,o,h2,Nat.lt_of_lt_of_le h3 a.2.2.2.1,(World.cell?_of_block (a.2.2.2.2 b h3 (hp b o h2))).trans h4⟩
def OT(t:TypeId)(B:Nat)(v:Value)(l:List Int)(w:World):Prop:=w.ownsRow B t 1 v l.length (l.map (Value.int .i64))
theorem OT.ofN{B:Nat}{v:Value}{l:List Nat}{w:World}(h:OwnN B v l w):OT 3 B v (l.map fun c=>((c:Nat):Int)) w:=by
 unfold OT
 rw[List.length_map,List.map_map]
 exact h
theorem OT.blk{t:TypeId}{B:Nat}{v:Value}{l:List Int}{w:World}(h:OT t B v l w){k:Nat}(hk:v.ownBlock=some k):B<=k/\k<w.heap.size:=World.ownsRow.lt h k hk
theorem OT.isI{t:TypeId}{B:Nat}{v:Value}{l:List Int}{w:World}(h:OT t B v l w)(hl: ∀x ∈ l,-9223372036854775808<=x/\x<=9223372036854775807): ∃p cap,v=.slice p l.length cap/\Sh.IsI w p l.length (fun j=>l.getD j 0):=by
 rcases h.2 with⟨q,e2⟩ | ⟨g,cap,cur,q,hb,hg,rest⟩
 ·exact⟨none,0,by rw[q,e2],fun k hk=>by omega⟩
 ·refine⟨_,cap,q,fun k hk=>⟨?_,g,0,rfl,lt_of_block hg,?_⟩⟩
  ·have e:l.getD k 0=l[k]:=by simp[List.getD,hk]
   dsimp only
   rw[e]
   exact hl _ (List.getElem_mem hk)
  ·have e:=World.ownsRow.cells (g:=g) h (by rw[q];rfl) k (.int .i64 (l.getD k 0)) (by simp[hk,List.getD])
   rw[Sh.jF]at e
   exact e
theorem infoN:(Tryz.prog.info? 3).map (fun i=>(i.zero,i.size,i.bytes))=some (some (.int .i64 0),1,8):=by kernel_rfl
theorem aX{w:World}{b:Nat}{o:Obj}(h:w.heap[b]? =some o):b<w.heap.size:=by
 rcases Nat.lt_or_ge b w.heap.size with h1 | h1
 ·exact h1
 ·rw[Array.getElem?_eq_none h1]at h;cases h
theorem AbQ.heap{V w:World}{P:Nat->Prop}(a:AbQ V P w){b:Nat}{o:Obj}(h:V.heap[b]? =some o)(hp: ¬P b):w.heap[b]? =some o:=(a.2.2.2.2 b (aX h) hp).trans h
end Rv
end
section
open Go.RowKit Tf Cu Go.Deep
attribute [local go_sem] aK aL aP aQ aR aV aW aF
namespace Ss
theorem own_sea{M:Nat}{v:Value}{nb nw nt ns:Nat}{B:Nat->Nat}{W T:Nat->Int}{S:Nat->Nat}{sky st:Int}{w:World}(h:OwnS M v nb nw nt ns B W T S sky st w)(hB: ∀i,i<nb->B i<18446744073709551616)(hW: ∀i,i<nw->Sh.W64 (W i))(hT: ∀i,i<nt->Sh.W64 (T i))(hS: ∀i,i<ns->S i<18446744073709551616):
  ∃p1 c1 p2 c2 p3 c3 p4 c4,v=.agg #[.slice p1 nb c1,.slice p2 nw c2,.slice p3 nt c3,.slice p4 ns c4,.int .i64 sky,.int .i64 st]/\IsFl w p1 nb B/\Sh.IsI w p2 nw W/\Sh.IsI w p3 nt T/\IsFl w p4 ns S/\Sh.Own M (.slice p2 nw c2) ((List.range nw).map W) w/\Sh.Own M (.slice p3 nt c3) ((List.range nt).map T) w/\OwnG M (.slice p1 nb c1) ((List.range nb).map B) w/\OwnG M (.slice p4 ns c4) ((List.range ns).map S) w/\Dj (.slice p1 nb c1) (.slice p4 ns c4):=by
 obtain⟨v1,v2,v3,v4,rfl,o1,o2,o3,o4,d1,-⟩:=h
 have fl: ∀(u:Value) (n:Nat) (f:Nat->Nat),(∀i,i<n->f i<18446744073709551616)->OwnG M u ((List.range n).map f) w-> ∃p c,u=.slice p n c/\IsFl w p n f:=fun u n f hf o=>by
  obtain⟨p,c,e,i⟩:=o.fl (fun x hx=>by obtain⟨j,hj,rfl⟩:=List.mem_map.1 hx;exact hf j (List.mem_range.1 hj))
  rw[List.length_map,List.length_range]at e i
  exact⟨p,c,e,fun k hk=>by have:=i k hk;simpa [List.getD,hk]using this⟩
 have ii: ∀(u:Value) (n:Nat) (f:Nat->Int),(∀i,i<n->Sh.W64 (f i))->Sh.Own M u ((List.range n).map f) w-> ∃p c,u=.slice p n c/\Sh.IsI w p n f:=fun u n f hf o=>by
  obtain⟨p,c,e,i⟩:=o.in (fun x hx=>by obtain⟨j,hj,rfl⟩:=List.mem_map.1 hx;exact hf j (List.mem_range.1 hj))
  rw[List.length_map,List.length_range]at e i
  exact⟨p,c,e,fun k hk=>by have:=i k hk;simpa [List.getD,hk]using this⟩
 obtain⟨p1,c1,rfl,i1⟩:=fl v1 nb B hB o1
 obtain⟨p2,c2,rfl,i2⟩:=ii v2 nw W hW o2
 obtain⟨p3,c3,rfl,i3⟩:=ii v3 nt T hT o3
 obtain⟨p4,c4,rfl,i4⟩:=fl v4 ns S hS o4
 exact⟨p1,c1,p2,c2,p3,c3,p4,c4,rfl,i1,i2,i3,i4,o2,o3,o1,o4,d1⟩
theorem gD{M:Nat}{t:TypeId}{v:Value}{n:Nat}{l:List Value}{w:World}(h:w.ownsRow M t 1 v n l): ∃p c,v=.slice p n c:=by
 rcases h.2 with⟨q,e⟩ | ⟨g,cap,cur,q,_⟩
 ·exact⟨none,0,by rw[q,e]⟩
 ·exact⟨_,cap,q⟩
theorem jJ{w:World}{p:Option Addr}{n g k:Nat}{f:Nat->Nat}(v:Value)(h:IsFl w p n f)(hp: ∀b o,p=some ⟨b,o,none⟩->b≠g):IsFl (w.setCell ⟨g,k,none⟩ v) p n f:=fun i hi=>by
 obtain⟨h1,b,o,h2,h3,h4⟩:=h i hi
 exact⟨h1,b,o,h2,by simpa [World.setCell]using h3,(World.cell?_of_block (Below.heap_setCell _ _ _ _ (hp b o h2))).trans h4⟩
theorem jK{w:World}{p:Option Addr}{n g k:Nat}{f:Nat->Int}(v:Value)(h:Sh.IsI w p n f)(hp: ∀b o,p=some ⟨b,o,none⟩->b≠g):Sh.IsI (w.setCell ⟨g,k,none⟩ v) p n f:=fun i hi=>by
 obtain⟨h1,b,o,h2,h3,h4⟩:=h i hi
 exact⟨h1,b,o,h2,by simpa [World.setCell]using h3,(World.cell?_of_block (Below.heap_setCell _ _ _ _ (hp b o h2))).trans h4⟩
end Ss
end
section
open Go.RowKit Tf Cu Go.Deep
namespace Ss
def OV(t:TypeId)(B:Nat)(v:Value)(l:List Value)(w:World):Prop:=w.ownsRow B t 1 v l.length l
theorem OV.blk{t:TypeId}{B:Nat}{v:Value}{l:List Value}{w:World}(h:OV t B v l w){k:Nat}(hk:v.ownBlock=some k):B<=k/\k<w.heap.size:=World.ownsRow.lt h k hk
theorem OV.blkeq{t:TypeId}{B:Nat}{v:Value}{l:List Value}{w w':World}(h:OV t B v l w)(e: ∀k,v.ownBlock=some k->w'.heap[k]? =w.heap[k]?):OV t B v l w':=by
 rcases h.2 with⟨q,e2⟩ | ⟨g,cap,cur,q,hb,hg,rest⟩
 ·exact⟨h.1,.inl ⟨q,e2⟩⟩
 ·exact⟨h.1,.inr ⟨g,cap,cur,q,hb,(e g (by rw[q];rfl)).trans hg,rest⟩⟩
theorem OV.to{t:TypeId}{B:Nat}{v:Value}{l:List Value}{w w':World}(h:OV t B v l w)(a:Ab w w'):OV t B v l w':=h.blkeq (fun k hk=>a.block k (h.blk hk).2)
end Ss
end
section
open Go.RowKit Tf Cu Go.Deep
attribute [local go_sem] aK aL aP aQ aR aV aW aF
namespace Ss
theorem nL{α:Type} [DecidableEq α](n:Nat)(f:Nat->α):eqL n n f f=true:=by
 unfold eqL
 exact decide_eq_true ⟨rfl,fun _ _=>rfl⟩
theorem sM(lb lw lt ls:Nat)(B:Nat->Nat)(W T:Nat->Int)(S:Nat->Nat)(sky st:Int):eqS lb lw lt ls B W T S sky st lb lw lt ls B W T S sky st=true:=by
 unfold eqS
 rw[nL,nL,nL,nL]
 simp
theorem dj_ty{t t':TypeId}{M M':Nat}{v u:Value}{l l':List Value}{w:World}(h:OV t M v l w)(k:OV t' M' u l' w)(ne:t≠t'):Dj v u:=fun b h1 h2=>by
 rcases h.2 with⟨rfl,_⟩ | ⟨g,cap,cur,rfl,_,hg,_⟩
 ·cases h1
 ·rcases k.2 with⟨rfl,_⟩ | ⟨g',cap',cur',rfl,_,hg',_⟩
  ·cases h2
  ·simp only[Value.ownBlock,Option.some.injEq]at h1 h2
   subst h1
   subst h2
   rw[hg]at hg'
   injection hg' with e
   injection e with _ e2
   exact ne e2
theorem ovF{M n:Nat}{f:Nat->Nat}{v:Value}{w:World}(h:OwnG M v ((List.range n).map f) w):OV 22 M v (((List.range n).map f).map (Value.float .f64)) w:=by
 unfold OV
 rw[List.length_map]
 exact h
theorem ovI{M n:Nat}{f:Nat->Int}{v:Value}{w:World}(h:Sh.Own M v ((List.range n).map f) w):OV 2 M v (((List.range n).map f).map (Value.int .i64)) w:=by
 unfold OV
 rw[List.length_map]
 exact h
theorem wZ{M:Nat}{v:Value}{lb lw lt ls:Nat}{B:Nat->Nat}{W T:Nat->Int}{S:Nat->Nat}{sky st:Int}{w:World}(h:OwnS M v lb lw lt ls B W T S sky st w)(hB: ∀i,i<lb->B i<18446744073709551616)(hW: ∀i,i<lw->Sh.W64 (W i))(hT: ∀i,i<lt->Sh.W64 (T i))(hS: ∀i,i<ls->S i<18446744073709551616):
  ∃p1 c1 p2 c2 p3 c3 p4 c4,v=.agg #[.slice p1 lb c1,.slice p2 lw c2,.slice p3 lt c3,.slice p4 ls c4,.int .i64 sky,.int .i64 st]/\(IsFl w p1 lb B/\Sh.IsI w p2 lw W/\Sh.IsI w p3 lt T/\IsFl w p4 ls S)/\(OV 22 M (.slice p1 lb c1) (((List.range lb).map B).map (Value.float .f64)) w/\OV 2 M (.slice p2 lw c2) (((List.range lw).map W).map (Value.int .i64)) w/\OV 2 M (.slice p3 lt c3) (((List.range lt).map T).map (Value.int .i64)) w/\OV 22 M (.slice p4 ls c4) (((List.range ls).map S).map (Value.float .f64)) w)/\(Dj (.slice p1 lb c1) (.slice p2 lw c2)/\Dj (.slice p1 lb c1) (.slice p3 lt c3)/\Dj (.slice p1 lb c1) (.slice p4 ls c4)/\Dj (.slice p2 lw c2) (.slice p3 lt c3)/\Dj (.slice p2 lw c2) (.slice p4 ls c4)/\Dj (.slice p3 lt c3) (.slice p4 ls c4)):=by
 obtain⟨p1,c1,p2,c2,p3,c3,p4,c4,rfl,i1,i2,i3,i4,o2,o3,o1,o4,d14⟩:=own_sea h hB hW hT hS
 have d23:Dj (.slice p2 lw c2) (.slice p3 lt c3):=by
  obtain⟨v1,v2,v3,v4,e,-,-,-,-,-,d⟩:=h
  simp only[Value.agg.injEq,Array.mk.injEq,List.cons.injEq]at e
  rw[e.2.1,e.2.2.1]
  exact d
 exact⟨p1,c1,p2,c2,p3,c3,p4,c4,rfl,⟨i1,i2,i3,i4⟩,⟨ovF o1,ovI o2,ovI o3,ovF o4⟩,dj_ty (ovF o1) (ovI o2) (by decide),dj_ty (ovF o1) (ovI o3) (by decide),d14,d23,dj_ty (ovI o2) (ovF o4) (by decide),dj_ty (ovI o3) (ovF o4) (by decide)⟩
end Ss
end
section
open Go.RowKit
namespace Cf
def Fresh(W:World)(S:Nat->Option Nat)(b:Nat):Prop:=W.heap.size<=b/\ ∀i c,S i=some c->c≠b
def putL(S:Nat->Option Nat)(i b:Nat):Nat->Option Nat:=fun k=>if k=i then some b else S k
def Has(W:World)(sp:Nat->Option (Obj × (Nat->Value)))(S:Nat->Option Nat)(w:World):Prop:=Ab W w/\ ∀i b,S i=some b->W.heap.size<=b/\ ∃o mk,sp i=some (o,mk)/\w.heap[b]? =some o
theorem oZ(S:Nat->Option Nat){i j:Nat}(b c:Nat)(h:i≠j):putL (putL S i b) j c=putL (putL S j c) i b:=by
 funext k
 unfold putL
 by_cases e:k=j
 ·subst e;simp[Ne.symm h]
 ·by_cases e2:k=i
  ·subst e2;simp[e]
  ·simp[e,e2]
theorem Fresh.put{W:World}{S:Nat->Option Nat}{i b c:Nat}(h:Fresh W S c)(n:b≠c):Fresh W (putL S i b) c:=
 ⟨h.1,fun k d e=>by
  unfold putL at e
  by_cases q:k=i
  ·rw[if_pos q]at e;injection e with e;exact fun x=>n (e.trans x)
  ·rw[if_neg q]at e;exact h.2 k d e⟩
theorem Fresh.of_put{W:World}{S:Nat->Option Nat}{i b c:Nat}(h:Fresh W (putL S i b) c)(hi:S i=none):Fresh W S c/\b≠c:=by
 refine⟨⟨h.1,fun k d e=>h.2 k d ?_⟩,h.2 i b (by simp[putL])⟩
 unfold putL
 by_cases q:k=i
 ·subst q;rw[hi]at e;cases e
 ·rw[if_neg q];exact e
theorem Has.lt{W:World}{sp:Nat->Option (Obj × (Nat->Value))}{S:Nat->Option Nat}{w:World}(h:Has W sp S w){i b:Nat}(e:S i=some b):b<w.heap.size:=by
 obtain⟨_,o,mk,_,q⟩:=h.2 i b e
 exact lt_of_block q
theorem Has.lay{W:World}{sp:Nat->Option (Obj × (Nat->Value))}{S:Nat->Option Nat}{w w1:World}(h:Has W sp S w){i b:Nat}{o:Obj}{mk:Nat->Value}(e:sp i=some (o,mk))(a:Ab w w1)(hb:w.heap.size<=b)(ho:w1.heap[b]? =some o):Has W sp (putL S i b) w1:=
 ⟨h.1.trans a,fun k c q=>by
  unfold putL at q
  by_cases z:k=i
  ·subst z
   rw[if_pos rfl]at q
   injection q with q
   subst q
   exact⟨Nat.le_trans h.1.size hb,o,mk,e,ho⟩
  ·rw[if_neg z]at q
   obtain⟨h1,o',mk',h2,h3⟩:=h.2 k c q
   exact⟨h1,o',mk',h2,Ab.heap a h3⟩⟩
theorem Has.freshb{W:World}{sp:Nat->Option (Obj × (Nat->Value))}{S:Nat->Option Nat}{w:World}(h:Has W sp S w){b:Nat}(hb:w.heap.size<=b):Fresh W S b:=
 ⟨Nat.le_trans h.1.size hb,fun i c e=>by have:=h.lt e;omega⟩
section
variable {P:Program} {ops:Array Oper} {md:Region.Mode} {W:World} {sp:Nat->Option (Obj × (Nat->Value))}
def YF(P:Program)(ops:Array Oper)(W:World)(o:Oper)(v:Value)(a:Act):Prop:=
 (Region.wanted o (yielded ops a.tmps)=true/\ ∀w,Ab W w->(execOp a.eval o).run P w=.ok (.value v) w)\/(Region.wanted o (yielded ops a.tmps)=false/\v=undef)
def LayR(P:Program)(w:World)(ob:Obj)(mk:Nat->Value):Result Next->Prop
 | .ok (.value u) w1=> ∃b,u=mk b/\Ab w w1/\w.heap.size<=b/\w1.heap[b]? =some ob
 | .ok (.enter f args) w1=>w1=w/\Calls P f args w (fun e w2=> ∃b,e=.returned (mk b)/\Ab w w2/\w.heap.size<=b/\w2.heap[b]? =some ob)
 | _=>False
def LF(P:Program)(ops:Array Oper)(W:World)(o:Oper)(ob:Obj)(mk:Nat->Value)(a:Act):Prop:=
 Region.wanted o (yielded ops a.tmps)=true/\ ∀w,Ab W w->LayR P w ob mk ((execOp a.eval o).run P w)
theorem YF.same{o:Oper}{v:Value}{a a':Act}(h:YF P ops W o v a)(he:execOp a'.eval o=execOp a.eval o)(hw:Region.wanted o (yielded ops a'.tmps)=Region.wanted o (yielded ops a.tmps)):YF P ops W o v a':=by
 unfold YF at*
 rw[he,hw]
 exact h
theorem LF.same{o:Oper}{ob:Obj}{mk:Nat->Value}{a a':Act}(h:LF P ops W o ob mk a)(he:execOp a'.eval o=execOp a.eval o)(hw:Region.wanted o (yielded ops a'.tmps)=Region.wanted o (yielded ops a.tmps)):LF P ops W o ob mk a':=by
 unfold LF at*
 rw[he,hw]
 exact h
theorem YF.one{o:Oper}{v u:Value}{a:Act}(h:YF P ops W o v a)(k:YF P ops W o u a):v=u:=by
 rcases h with⟨w1,h⟩ | ⟨w1,rfl⟩
 ·rcases k with⟨_,k⟩ | ⟨w2,_⟩
  ·have:=(h W (Ab.refl W)).symm.trans (k W (Ab.refl W))
   injection this with e
   injection e
  ·rw[w1]at w2;cases w2
 ·rcases k with⟨w2,_⟩ | ⟨_,rfl⟩
  ·rw[w1]at w2;cases w2
  ·rfl
def fOp(P:Program)(ops:Array Oper)(W:World)(sp:Nat->Option (Obj × (Nat->Value)))(i:Nat)(K:Act->(Nat->Option Nat)->Prop)(a:Act)(S:Nat->Option Nat):Prop:=
 match ops[i]? with
 | none=>K a S
 | some o=>
  match sp i with
  | none=> ∃v,YF P ops W o v a/\K (a.put o.dst v) S
  | some (ob,mk)=>LF P ops W o ob mk a/\ ∀b,Fresh W S b->K (a.put o.dst (mk b)) (putL S i b)
theorem kJ{i:Nat}{K K':Act->(Nat->Option Nat)->Prop}{a:Act}{S:Nat->Option Nat}(h: ∀a S,K a S->K' a S)(hh:fOp P ops W sp i K a S):fOp P ops W sp i K' a S:=by
 unfold fOp at*
 cases ho:ops[i]? with
 | none=>simp only[ho]at hh ⊢;exact h _ _ hh
 | some o=>
  cases hs:sp i with
  | none=>
   simp only[ho,hs]at hh ⊢
   obtain⟨v,h1,h2⟩:=hh
   exact⟨v,h1,h _ _ h2⟩
  | some x=>
   simp only[ho,hs]at hh ⊢
   exact⟨hh.1,fun b hb=>h _ _ (hh.2 b hb)⟩
def wpAnyF(P:Program)(md:Region.Mode)(ops:Array Oper)(W:World)(sp:Nat->Option (Obj × (Nat->Value)))(Q:Act->(Nat->Option Nat)->Prop):Nat->Array Bool->Act->(Nat->Option Nat)->Prop
 | 0,listed,a,S=>Region.ready md ops listed=[]/\Q a S
 | fuel+1,listed,a,S=>
  (Region.ready md ops listed=[]->Q a S)/\
  ∀i ∈ Region.ready md ops listed,fOp P ops W sp i (wpAnyF P md ops W sp Q fuel (listed.setIfInBounds i true)) a S
def Tidy(W:World)(listed:Array Bool)(S:Nat->Option Nat):Prop:=(∀k,listed.getD k true=false->S k=none)/\ ∃n,W.heap.size<=n/\ ∀i c,S i=some c->c<n
theorem Tidy.fresh{listed:Array Bool}{S:Nat->Option Nat}(h:Tidy W listed S): ∃b,Fresh W S b:=by
 obtain⟨_,n,h1,h2⟩:=h
 exact⟨n,h1,fun i c e=>by have:=h2 i c e;omega⟩
theorem Tidy.set{listed:Array Bool}{S:Nat->Option Nat}(h:Tidy W listed S)(j:Nat):Tidy W (listed.setIfInBounds j true) S:=
 ⟨fun k hk=>by
  by_cases e:j=k
  ·subst e
   by_cases l:j<listed.size
   ·simp[l]at hk
   ·exact h.1 j (by rw[Array.setIfInBounds_eq_of_size_le (by omega)]at hk;exact hk)
  ·rw[getD_set_ne true e]at hk;exact h.1 k hk,h.2⟩
theorem Tidy.lay{listed:Array Bool}{S:Nat->Option Nat}(h:Tidy W listed S){j:Nat}(hj:listed.getD j true=false)(b:Nat):Tidy W (listed.setIfInBounds j true) (putL S j b):=by
 obtain⟨h1,n,h2,h3⟩:=h
 refine⟨fun k hk=> ?_,max n (b+1),by omega,fun i c e=> ?_⟩
 ·by_cases e:j=k
  ·subst e
   by_cases l:j<listed.size
   ·simp[l]at hk
   ·simp[l]at hj
  ·rw[getD_set_ne true e]at hk
   unfold putL
   rw[if_neg (Ne.symm e)]
   exact h1 k hk
 ·unfold putL at e
  by_cases q:i=j
  ·rw[if_pos q]at e;injection e with e;omega
  ·rw[if_neg q]at e;have:=h3 i c e;omega
theorem sO{j:Nat}{oi oj:Oper}{v:Value}(hj:ops[j]? =some oj)(hap:oi.apart ops oj=true)(hsi: ∀cs b,oi.op≠ .select cs b)(hsj: ∀cs b,oj.op≠ .select cs b)
  {K:Act->(Nat->Option Nat)->Prop} {a:Act} {S:Nat->Option Nat} (hy:YF P ops W oi v a) (h:fOp P ops W sp j K (a.put oi.dst v) S):
  fOp P ops W sp j (fun a' S'=>YF P ops W oi v a'/\K (a'.put oi.dst v) S') a S:=by
 obtain⟨h1,h2,h3⟩:=Oper.apart_spec hap
 have keep: ∀u,YF P ops W oi v (a.put oj.dst u):=fun u=>hy.same (execOp_put oi hsi a oj.dst u h3) (wanted_put oi a oj.dst u h3)
 unfold fOp at*
 cases hs:sp j with
 | none=>
  simp only[hj,hs]at h ⊢
  obtain⟨u,hu,hk⟩:=h
  exact⟨u,hu.same (execOp_put oj hsj a oi.dst v h1).symm (wanted_put oj a oi.dst v h1).symm,keep u,by rw[<- Act.put_comm a v u h2];exact hk⟩
 | some x=>
  simp only[hj,hs]at h ⊢
  exact⟨h.1.same (execOp_put oj hsj a oi.dst v h1).symm (wanted_put oj a oi.dst v h1).symm,fun b hb=>⟨keep _,by rw[<- Act.put_comm a v _ h2];exact h.2 b hb⟩⟩
theorem sP{i j:Nat}{oi oj:Oper}{ob:Obj}{mk:Nat->Value}(hij:i≠j)(hj:ops[j]? =some oj)(hap:oi.apart ops oj=true)(hsi: ∀cs b,oi.op≠ .select cs b)(hsj: ∀cs b,oj.op≠ .select cs b)
  {K:Act->(Nat->Option Nat)->Prop} {a:Act} {S:Nat->Option Nat} (hf: ∃b,Fresh W S b) (hSj:S j=none) (hy:LF P ops W oi ob mk a) (h: ∀b,Fresh W S b->fOp P ops W sp j K (a.put oi.dst (mk b)) (putL S i b)):
  fOp P ops W sp j (fun a' S'=>LF P ops W oi ob mk a'/\ ∀b,Fresh W S' b->K (a'.put oi.dst (mk b)) (putL S' i b)) a S:=by
 obtain⟨h1,h2,h3⟩:=Oper.apart_spec hap
 have keep: ∀u,LF P ops W oi ob mk (a.put oj.dst u):=fun u=>hy.same (execOp_put oi hsi a oj.dst u h3) (wanted_put oi a oj.dst u h3)
 obtain⟨b0,hb0⟩:=hf
 unfold fOp at*
 cases hs:sp j with
 | none=>
  simp only[hj,hs]at h ⊢
  obtain⟨u,hu,_⟩:=h b0 hb0
  have hu':YF P ops W oj u a:=hu.same (execOp_put oj hsj a oi.dst _ h1).symm (wanted_put oj a oi.dst _ h1).symm
  refine⟨u,hu',keep u,fun b hb=> ?_⟩
  obtain⟨u2,hu2,hk⟩:=h b hb
  have e:u2=u:=YF.one (hu2.same (execOp_put oj hsj a oi.dst _ h1).symm (wanted_put oj a oi.dst _ h1).symm) hu'
  subst e
  rw[<- Act.put_comm a (mk b) u2 h2]
  exact hk
 | some x=>
  simp only[hj,hs]at h ⊢
  refine⟨(h b0 hb0).1.same (execOp_put oj hsj a oi.dst _ h1).symm (wanted_put oj a oi.dst _ h1).symm,fun c hc=>⟨keep _,fun b hb=> ?_⟩⟩
  obtain⟨q1,q2⟩:=hb.of_put hSj
  have:=(h b q1).2 c (hc.put (Ne.symm q2))
  rw[oZ S b c hij,Act.put_comm a (mk b) _ h2]at this
  exact this
theorem firstY{Q:Act->(Nat->Option Nat)->Prop}{i:Nat}{oi:Oper}{v:Value}(hi:ops[i]? =some oi)(hsp:sp i=none)(hsel: ∀(j:Nat) (o:Oper) cs b,ops[j]? =some o->o.op≠ .select cs b):
  ∀(fuel:Nat) (listed:Array Bool) (a:Act) (S:Nat->Option Nat),
   (∀j oj,ops[j]? =some oj->j≠i->listed.getD j true=false->(∀e ∈ oj.after,Region.binds md e=true->e.on≠i)->oi.apart ops oj=true)->
   i ∈ Region.ready md ops listed->YF P ops W oi v a->
   wpAnyF P md ops W sp Q fuel (listed.setIfInBounds i true) (a.put oi.dst v) S->wpAnyF P md ops W sp Q (fuel+1) listed a S:=by
 have go: ∀(K:Act->(Nat->Option Nat)->Prop) (a:Act) (S:Nat->Option Nat),YF P ops W oi v a->K (a.put oi.dst v) S->fOp P ops W sp i K a S:=fun K a S hy h=>by
  unfold fOp;simp only[hi,hsp];exact⟨v,hy,h⟩
 intro fuel
 induction fuel with
 | zero=>
  intro listed a S _ hr hy H
  refine⟨fun h=>(by rw[h]at hr;cases hr),fun j hj=> ?_⟩
  by_cases hji:j=i
  ·subst hji;exact go _ _ _ hy H
  ·have:=ready_mono hj hji
   rw[H.1]at this
   cases this
 | succ fuel ih=>
  intro listed a S hfree hr hy H
  refine⟨fun h=>(by rw[h]at hr;cases hr),fun j hj=> ?_⟩
  by_cases hji:j=i
  ·subst hji;exact go _ _ _ hy H
  ·have h1:=H.2 j (ready_mono hj hji)
   obtain⟨hjun,oj,hoj,hall⟩:=mem_ready.1 hj
   have hnot: ∀e ∈ oj.after,Region.binds md e=true->e.on≠i:=fun e he hb heq=>by
    have h1:=hall e he hb
    have h0:=(mem_ready.1 hr).1
    rw[heq]at h1
    rcases Nat.lt_or_ge i listed.size with h' | h'
    ·simp[h']at h0 h1;rw[h0]at h1;cases h1
    ·simp[Array.getElem?_eq_none h']at h1
   have h2:=sO hoj (hfree j oj hoj hji hjun hnot) (fun cs b=>hsel i oi cs b hi) (fun cs b=>hsel j oj cs b hoj) hy h1
   have hfree': ∀k ok,ops[k]? =some ok->k≠i->(listed.setIfInBounds j true).getD k true=false->
     (∀e ∈ ok.after,Region.binds md e=true->e.on≠i)->oi.apart ops ok=true:=fun k ok hk hki hun hno=>by
    refine hfree k ok hk hki ?_ hno
    by_cases hjk:j=k
    ·subst hjk;exact hjun
    ·rw[getD_set_ne true hjk]at hun;exact hun
   refine kJ (fun a' S' h3=>ih (listed.setIfInBounds j true) a' S' hfree' (ready_mono hr (Ne.symm hji)) h3.1 ?_) h2
   rw[Array.setIfInBounds_comm _ _ hji]
   exact h3.2
theorem firstL{Q:Act->(Nat->Option Nat)->Prop}{i:Nat}{oi:Oper}{ob:Obj}{mk:Nat->Value}(hi:ops[i]? =some oi)(hsp:sp i=some (ob,mk))(hsel: ∀(j:Nat) (o:Oper) cs b,ops[j]? =some o->o.op≠ .select cs b):
  ∀(fuel:Nat) (listed:Array Bool) (a:Act) (S:Nat->Option Nat),Tidy W listed S->
   (∀j oj,ops[j]? =some oj->j≠i->listed.getD j true=false->(∀e ∈ oj.after,Region.binds md e=true->e.on≠i)->oi.apart ops oj=true)->
   i ∈ Region.ready md ops listed->LF P ops W oi ob mk a->
   (∀b,Fresh W S b->wpAnyF P md ops W sp Q fuel (listed.setIfInBounds i true) (a.put oi.dst (mk b)) (putL S i b))->wpAnyF P md ops W sp Q (fuel+1) listed a S:=by
 have go: ∀(K:Act->(Nat->Option Nat)->Prop) (a:Act) (S:Nat->Option Nat),LF P ops W oi ob mk a->(∀b,Fresh W S b->K (a.put oi.dst (mk b)) (putL S i b))->fOp P ops W sp i K a S:=fun K a S hy h=>by
  unfold fOp;simp only[hi,hsp];exact⟨hy,h⟩
 intro fuel
 induction fuel with
 | zero=>
  intro listed a S ty _ hr hy H
  refine⟨fun h=>(by rw[h]at hr;cases hr),fun j hj=> ?_⟩
  by_cases hji:j=i
  ·subst hji;exact go _ _ _ hy H
  ·obtain⟨b,hb⟩:=ty.fresh
   have:=ready_mono hj hji
   rw[(H b hb).1]at this
   cases this
 | succ fuel ih=>
  intro listed a S ty hfree hr hy H
  refine⟨fun h=>(by rw[h]at hr;cases hr),fun j hj=> ?_⟩
  by_cases hji:j=i
  ·subst hji;exact go _ _ _ hy H
  ·have h1:=fun b hb=>(H b hb).2 j (ready_mono hj hji)
   obtain⟨hjun,oj,hoj,hall⟩:=mem_ready.1 hj
   have hnot: ∀e ∈ oj.after,Region.binds md e=true->e.on≠i:=fun e he hb heq=>by
    have h1:=hall e he hb
    have h0:=(mem_ready.1 hr).1
    rw[heq]at h1
    rcases Nat.lt_or_ge i listed.size with h' | h'
    ·simp[h']at h0 h1;rw[h0]at h1;cases h1
    ·simp[Array.getElem?_eq_none h']at h1
   have hap:=hfree j oj hoj hji hjun hnot
   have hfree': ∀k ok,ops[k]? =some ok->k≠i->(listed.setIfInBounds j true).getD k true=false->
     (∀e ∈ ok.after,Region.binds md e=true->e.on≠i)->oi.apart ops ok=true:=fun k ok hk hki hun hno=>by
    refine hfree k ok hk hki ?_ hno
    by_cases hjk:j=k
    ·subst hjk;exact hjun
    ·rw[getD_set_ne true hjk]at hun;exact hun
   have h2:=sP (Ne.symm hji) hoj hap (fun cs b=>hsel i oi cs b hi) (fun cs b=>hsel j oj cs b hoj) ty.fresh (ty.1 j hjun) hy h1
   -- what j leaves is tidy
   have h4:fOp P ops W sp j (fun a' S'=>Tidy W (listed.setIfInBounds j true) S'/\LF P ops W oi ob mk a'/\ ∀b,Fresh W S' b->wpAnyF P md ops W sp Q fuel ((listed.setIfInBounds i true).setIfInBounds j true) (a'.put oi.dst (mk b)) (putL S' i b)) a S:=by
    unfold fOp at h2 ⊢
    cases hs:sp j with
    | none=>
     simp only[hoj,hs]at h2 ⊢
     obtain⟨u,hu,hk⟩:=h2
     exact⟨u,hu,ty.set j,hk⟩
    | some x=>
     simp only[hoj,hs]at h2 ⊢
     exact⟨h2.1,fun b hb=>⟨ty.lay hjun b,h2.2 b hb⟩⟩
   refine kJ (fun a' S' h3=>ih (listed.setIfInBounds j true) a' S' h3.1 hfree' (ready_mono hr (Ne.symm hji)) h3.2.1 (fun b hb=> ?_)) h4
   rw[Array.setIfInBounds_comm _ _ hji]
   exact h3.2.2 b hb
def wpFree(P:Program)(ops:Array Oper)(W:World)(sp:Nat->Option (Obj × (Nat->Value)))(Q:Act->(Nat->Option Nat)->Prop):List Oper->Nat->Act->(Nat->Option Nat)->Prop
 | [],_,a,S=>Q a S
 | o :: rest,k,a,S=>
  match sp k with
  | none=> ∃v,YF P ops W o v a/\wpFree P ops W sp Q rest (k+1) (a.put o.dst v) S
  | some (ob,mk)=>LF P ops W o ob mk a/\ ∀b,Fresh W S b->wpFree P ops W sp Q rest (k+1) (a.put o.dst (mk b)) (putL S k b)
theorem eG{Q:Act->(Nat->Option Nat)->Prop}(hs:Region.noSelect ops=true): ∀(l:List Oper) (k:Nat) (listed:Array Bool) (a:Act) (S:Nat->Option Nat),(∀j,l[j]? =ops[k+j]?)->Tidy W listed S->
  Region.lexFrom md ops l.length k listed=true->wpFree P ops W sp Q l k a S->wpAnyF P md ops W sp Q l.length listed a S
 | [],_,_,_,_,_,_,hB,h=>⟨by simpa [Region.lexFrom]using hB,h⟩
 | o :: l,k,listed,a,S,hl,ty,hB,h=>by
  have h0:ops[k]? =some o:=by simpa using(hl 0).symm
  simp only[List.length_cons,Region.lexFrom,Bool.and_eq_true]at hB
  obtain⟨⟨hr,hf⟩,hB'⟩:=hB
  have hr':k ∈ Region.ready md ops listed:=by simpa using hr
  have hl': ∀j,l[j]? =ops[k+1+j]? :=fun j=>by have:=hl (j+1);simpa [Nat.add_assoc,Nat.add_comm 1 j]using this
  cases hsp:sp k with
  | none=>
   simp only[wpFree,hsp]at h
   obtain⟨v,hy,hK⟩:=h
   exact firstY h0 hsp (Region.noSelect_spec hs) l.length listed a S (Region.free_spec h0 hf) hr' hy
    (eG hs l (k+1) _ _ _ hl' (ty.set k) hB' hK)
  | some x=>
   obtain⟨ob,mk⟩:=x
   simp only[wpFree,hsp]at h
   exact firstL h0 hsp (Region.noSelect_spec hs) l.length listed a S ty (Region.free_spec h0 hf) hr' h.1
    (fun b hb=>eG hs l (k+1) _ _ _ hl' (ty.lay (mem_ready.1 hr').1 b) hB' (h.2 b hb))
theorem kK{i:Nat}{a:Act}{S:Nat->Option Nat}{K:Act->(Nat->Option Nat)->Prop}{K':Act->World->Prop}{Q':Exit->Act->World->Prop}{w:World}(hC:Has W sp S w)(h: ∀a S w',Has W sp S w'->K a S->K' a w')(hh:fOp P ops W sp i K a S):wpOp P ops Q' i K' a w:=by
 unfold fOp at hh
 unfold wpOp
 cases ho:ops[i]? with
 | none=>simp only[ho]at hh ⊢;exact h _ _ _ hC hh
 | some o=>
  cases hs:sp i with
  | none=>
   simp only[ho,hs]at hh ⊢
   obtain⟨v,hy,hk⟩:=hh
   rcases hy with⟨w1,hv⟩ | ⟨w1,rfl⟩
   ·rw[if_pos w1]
    refine .inl ?_
    unfold Oper.wp
    rw[hv w hC.1]
    exact h _ _ _ hC hk
   ·rw[if_neg (by rw[w1];exact Bool.false_ne_true)]
    exact h _ _ _ hC hk
  | some x=>
   obtain⟨ob,mk⟩:=x
   simp only[ho,hs]at hh ⊢
   obtain⟨⟨w1,hv⟩,hk⟩:=hh
   rw[if_pos w1]
   refine .inl ?_
   unfold Oper.wp
   have q:=hv w hC.1
   generalize(execOp a.eval o).run P w=r at q
   match r,q with
   | .ok (.value u) w2,⟨b,hu,ha,hb,ho2⟩=>
    subst hu
    exact h _ _ _ (hC.lay hs ha hb ho2) (hk b (hC.freshb hb))
   | .ok (.enter f args) w2,⟨e,hc⟩=>
    subst e
    refine Calls.mono hc ?_
    rintro e2 w3 ⟨b,rfl,ha,hb,ho2⟩
    exact h _ _ _ (hC.lay hs ha hb ho2) (hk b (hC.freshb hb))
end
theorem sQ{P:Program}{md:Region.Mode}{ops hd:Array Oper}{W:World}{sp:Nat->Option (Obj × (Nat->Value))}{n:Nat}(hhd: ∀i,i<n->hd[i]? =ops[i]?)(hb:backB md ops n=true){i:Nat}(hi:i<n){K:Act->(Nat->Option Nat)->Prop}{a:Act}{S:Nat->Option Nat}(h:fOp P hd W sp i K a S):fOp P ops W sp i K a S:=by
 unfold fOp at*
 rw[hhd i hi]at h
 cases ho:ops[i]? with
 | none=>rw[ho]at h;exact h
 | some o=>
  have e:Region.wanted o (yielded hd a.tmps)=Region.wanted o (yielded ops a.tmps):=by
   unfold Region.wanted
   cases hg:o.guard with
   | none=>rfl
   | some jb=>
    obtain⟨j,b⟩:=jb
    have lt:=(iR hb hi ho).2 j b hg
    show(yielded hd a.tmps j==some b)=(yielded ops a.tmps j==some b)
    unfold yielded
    rw[hhd j lt]
  simp only[ho]at h ⊢
  cases hs:sp i with
  | none=>
   simp only[hs]at h ⊢
   unfold YF at*
   rw[e]at h
   exact h
  | some x=>
   simp only[hs]at h ⊢
   unfold LF at*
   rw[e]at h
   exact h
theorem gS{P:Program}{md:Region.Mode}{ops hd:Array Oper}{W:World}{sp:Nat->Option (Obj × (Nat->Value))}{n:Nat}{g:Nat}{Q1:Act->(Nat->Option Nat)->Prop}{Q':Exit->Act->World->Prop}(hhd: ∀i,i<n->hd[i]? =ops[i]?)(hsz:hd.size=n)(hn:n<ops.size)(hb:backB md ops n=true)(hs:Region.sinkB md ops n=true)(hc:Region.chainB md ops n=true)
  (hL: ∀a S w,Has W sp S w->Q1 a S->wpAny P md ops Q' g (finA ops.size n) a w):
  ∀(fuel:Nat) (listed lh:Array Bool) (a:Act) (S:Nat->Option Nat) (w:World),Has W sp S w->HeadInv md ops n listed->lh.size=n->(∀i,i<n->lh.getD i true=listed.getD i true)->
   wpAnyF P md hd W sp Q1 fuel lh a S->wpAny P md ops Q' (fuel+g) listed a w:=by
 intro fuel
 induction fuel with
 | zero=>
  intro listed lh a S w hC inv hl he h
  have hls:n<=listed.size:=by rw[inv.size];omega
  rcases eD (by omega) hb hls with all | ⟨i,hi,hr⟩
  ·rw[Nat.zero_add,oM hn inv all]
   exact hL a S w hC h.2
  ·have:=(fE hhd hb hl hls he hi).2 hr
   rw[h.1]at this
   cases this
 | succ fuel ih=>
  intro listed lh a S w hC inv hl he h
  have hls:n<=listed.size:=by rw[inv.size];omega
  rcases eD (by omega) hb hls with all | ⟨i0,hi0,hr0⟩
  ·have no:Region.ready md hd lh=[]:=by
    rw[List.eq_nil_iff_forall_not_mem]
    intro i hi
    obtain⟨u,o,ho,_⟩:=mem_ready.1 hi
    have lt:i<n:=by rw[<- hsz];exact(Array.getElem?_eq_some_iff.1 ho).1
    rw[he i lt,all i lt]at u
    cases u
   rw[Nat.add_comm (fuel+1) g,oM hn inv all]
   exact jD g (fuel+1) _ a w (hL a S w hC (h.1 no))
  ·rw[show fuel+1+g=(fuel+g)+1 by omega]
   refine⟨fun h0=>(by rw[h0]at hr0;cases hr0),fun i hi=> ?_⟩
   have lt:i<n:=by
    by_cases c:i<n
    ·exact c
    ·exact absurd hi (tail_waits hs hc hn inv _ i0 rfl hi0 (mem_ready.1 hr0).1 i (by omega))
   have hq:=sQ hhd hb lt (h.2 i ((fE hhd hb hl hls he lt).2 hi))
   refine kK hC (fun a' S' w' hC' h'=>ih _ _ a' S' w' hC' (inv.set hi lt) (by simp[hl]) (fun j hj=> ?_) h') hq
   by_cases e:i=j
   ·subst e
    simp[hl,lt,show i<listed.size by omega]
   ·rw[getD_set_ne true e,getD_set_ne true e,he j hj]
theorem kO{P:Program}{id:Nat}{Q:Exit->Act->World->Prop}{a:Act}{w:World}{l:List Oper}(n:Nat)(sp:Nat->Option (Obj × (Nat->Value)))(hm:P.follows .mixedOrders=true)(hB:Region.lexB .any (l.take n).toArray=true)(hT:tailB l.toArray n=true)
  (h:wpFree P (l.take n).toArray w.drew sp (fun a' S=> ∀w',Has w.drew sp S w'->wpList P l.toArray Q (l.drop n) a' w') (l.take n) 0 a (fun _=>none)):(Code.region id l.toArray true).wp P Q a w:=by
 simp only[tailB,Bool.and_eq_true,decide_eq_true_eq]at hT
 obtain⟨⟨⟨⟨hn,hb⟩,hs⟩,hc⟩,hq⟩:=hT
 have hn':n<l.length:=by simpa using hn
 have htl:(l.take n).toArray.size=n:=by simp;omega
 have hdl:(l.drop n).length=l.toArray.size - n:=by simp
 refine wp_region_any hm ?_
 simp only[Region.lexB,Bool.and_eq_true]at hB
 have H:=eG (P:=P) (W:=w.drew) (sp:=sp) (md:=.any) hB.1 (l.take n) 0 (Array.replicate (l.take n).toArray.size false) a (fun _=>none) (by simp) ⟨fun _ _=>rfl,w.drew.heap.size,Nat.le_refl _,fun i c e=>by cases e⟩ (by simpa using hB.2) h
 have inv0:HeadInv .any l.toArray n (Array.replicate l.toArray.size false):=
  ⟨by simp,fun j oj _ hl=>(by rw[getD_replicate_false]at hl;cases hl),fun t _ ht=>getD_in (by simpa using ht) (getD_replicate_false _ _)⟩
 have:=gS (P:=P) (Q':=Q) (g:=l.toArray.size - n) (hd:=(l.take n).toArray) (ops:=l.toArray) (fun i hi=>by simp[hi]) htl hn hb hs hc
  (fun a' S' w' hC' h'=>by
   have:=wpAny_of_seq (P:=P) (md:=.any) (ops:=l.toArray) (Q':=Q) (l.drop n) n (finA l.toArray.size n) a' w' (fun j=>by simp) (by rw[hdl];exact hq) (h' w' hC')
   rwa [hdl]at this)
  (l.take n).length _ _ a (fun _=>none) w.drew ⟨Ab.refl _,fun i b e=>by cases e⟩ inv0 (by simpa using htl) (fun i hi=>by
   rw[getD_in (listed:=Array.replicate l.toArray.size false) (by simp;omega) (getD_replicate_false _ _)]
   exact getD_in (by rw[Array.size_replicate];omega) (getD_replicate_false _ _)) H
 have e:(l.take n).length+(l.toArray.size - n)=l.toArray.size:=by simp;omega
 rw[e]at this
 exact this
section
variable {P:Program} {ops:Array Oper} {W:World} {sp:Nat->Option (Obj × (Nat->Value))} {Q:Act->(Nat->Option Nat)->Prop} {o:Oper} {rest:List Oper} {k:Nat} {a:Act} {S:Nat->Option Nat}
theorem dP{U:Type}{F:U->World}(HF:Hid (∀w',Ab W w'-> ∃u,w'=F u))(hs:sp k=none)(hp:plainB o.op=true)(h:wpQuiet P ops (fun w'=> ∃u,w'=F u) (fun a'=>wpFree P ops W sp Q rest (k+1) a' S) [o] a):wpFree P ops W sp Q (o :: rest) k a S:=by
 simp only[wpFree,hs]
 simp only[wpQuiet]at h
 by_cases c:Region.wanted o (yielded ops a.tmps)=true
 ·rw[if_pos c]at h
  obtain⟨v,h1,h2⟩:=h
  refine⟨v,.inl ⟨c,fun w hw=> ?_⟩,h2⟩
  have q:=h1 w (HF.out w hw)
  unfold Oper.quietAt at q
  cases e:(execOp a.eval o).run P w with
  | ok n w'=>
   obtain⟨x,rfl⟩:=pR hp e
   rw[e]at q
   obtain⟨q1,q2⟩:=q
   rw[q1,q2]
  | halt x w'=>rw[e]at q;exact absurd q (by simp[Oper.quietUpon])
 ·rw[if_neg c]at h
  exact⟨undef,.inr ⟨by simpa using c,rfl⟩,h⟩
theorem dW{ob:Obj}{mk:Nat->Value}(hs:sp k=some (ob,mk))(hw:Region.wanted o (yielded ops a.tmps)=true)(hr: ∀w,Ab W w->LayR P w ob mk ((execOp a.eval o).run P w))
  (h: ∀b,Fresh W S b->wpFree P ops W sp Q rest (k+1) (a.put o.dst (mk b)) (putL S k b)):wpFree P ops W sp Q (o :: rest) k a S:=by
 simp only[wpFree,hs]
 exact⟨⟨hw,hr⟩,h⟩
theorem jL{ob:Obj}{mk:Nat->Value}(h: ∀w,Ab W w->(execOp a.eval o).run P w=.ok (.value (mk w.heap.size)) (w.alloc ob)): ∀w,Ab W w->LayR P w ob mk ((execOp a.eval o).run P w):=fun w hw=>by
 rw[h w hw]
 exact⟨w.heap.size,rfl,bl1 _ _,Nat.le_refl _,heap_alloc_new _ _⟩
theorem lV(h:Q a S):wpFree P ops W sp Q [] k a S:=h
end
theorem Has.at{W:World}{sp:Nat->Option (Obj × (Nat->Value))}{S:Nat->Option Nat}{w:World}(h:Has W sp S w){i b:Nat}{ob:Obj}{mk:Nat->Value}(e:S i=some b)(s:sp i=some (ob,mk)):w.heap[b]? =some ob/\W.heap.size<=b:=by
 obtain⟨h1,o,m,h2,h3⟩:=h.2 i b e
 rw[s]at h2
 injection h2 with h2
 injection h2 with h2
 subst h2
 exact⟨h3,h1⟩
end Cf
end
section
open Go.RowKit Go.Deep
namespace Rn
open Sh
theorem infoR:(Tryz.prog.info? 72).map (fun i=>(i.zero,i.size,i.bytes))=some (some (.agg #[.int .i64 0,.int .i64 0,.int .i64 0,.int .i64 0]),4,32):=by kernel_rfl
theorem Ew: ∃i,Tryz.prog.info? 72=some i/\i.zero=some (.agg #[.int .i64 0,.int .i64 0,.int .i64 0,.int .i64 0])/\i.size=4/\i.bytes=32:=by
 have h:=infoR
 cases e:Tryz.prog.info? 72 with
 | none=>rw[e]at h;cases h
 | some i=>
  rw[e]at h
  simp at h
  exact⟨i,rfl,h.1,h.2.1,h.2.2⟩
end Rn
end
section
open Go.RowKit Go.Deep
namespace Rn
open Sh
def rf4(r:Int × Int × Int × Int)(j:Nat):Int:=if j=0 then r.1 else if j=1 then r.2.1 else if j=2 then r.2.2.1 else r.2.2.2
def RAt(w:World)(g m:Nat)(R:Nat->Int × Int × Int × Int):Prop:=w.rowIs g 72 (m*4) (fun i=>.int .i64 (rf4 (R (i/4)) (i%4)))
theorem RAt.c{w:World}{g m k j:Nat}{R:Nat->Int × Int × Int × Int}(h:RAt w g m R)(hk:k<m)(hj:j<4):w.cell? ⟨g,k*4+j,none⟩=some (.int .i64 (rf4 (R k) j)):=by
 have e:=World.rowIs.cell h (i:=k*4+j) (by omega)
 rw[e]
 have h1:(k*4+j)%4=j:=by omega
 have h2:(k*4+j)/4=k:=by omega
 simp only[h1,h2]
theorem RAt.rn{w:World}{g m n:Nat}{R:Nat->Int × Int × Int × Int}(h:RAt w g m R)(hn:n<=m)(h4: ∀k,k<n->W4 (R k)):IsRn w (some ⟨g,0,none⟩) n R:=fun k hk=>⟨h4 k hk,g,0,rfl,World.rowIs.lt h,by
 rw[Nat.zero_add]
 exact⟨RAt.c (j:=0) h (by omega) (by omega),RAt.c (j:=1) h (by omega) (by omega),RAt.c (j:=2) h (by omega) (by omega),RAt.c (j:=3) h (by omega) (by omega)⟩⟩
theorem RAt.to{w w':World}{g m:Nat}{R:Nat->Int × Int × Int × Int}(h:RAt w g m R)(a:Ab w w'):RAt w' g m R:=Sh.cW h a
theorem made_r(w:World)(m:Nat):RAt (w.alloc (.cells (madeCells #[.int .i64 0,.int .i64 0,.int .i64 0,.int .i64 0] (m*4)) 72)) w.heap.size m (fun _=>(0,0,0,0)):=by
 refine⟨_,heap_alloc_new _ _,size_madeCells _ _,fun i hi=> ?_⟩
 have e: ∀j,j<4->(#[Value.int .i64 0,.int .i64 0,.int .i64 0,.int .i64 0]:Array Value)[j]! =.int .i64 0:=fun j hj=>by
  match j,hj with
  | 0,_=>rfl
  | 1,_=>rfl
  | 2,_=>rfl
  | 3,_=>rfl
 unfold madeCells
 rw[Array.getElem?_map,Array.getElem?_range,if_pos hi]
 simp only[Option.map_some]
 rw[show(#[Value.int .i64 0,.int .i64 0,.int .i64 0,.int .i64 0]:Array Value).size=4 from rfl,e (i%4) (by omega)]
 simp[rf4]
theorem IsRn.congr18{w:World}{p:Option Addr}{n:Nat}{R Q:Nat->Int × Int × Int × Int}(h:IsRn w p n R)(e: ∀k,k<n->R k=Q k):IsRn w p n Q:=fun k hk=>by rw[<- e k hk];exact h k hk
end Rn
end
section
open Go.RowKit Tf Cu Go.Deep
attribute [local go_sem] aK aL aP aQ aR aV aW aF
namespace Ss
theorem Gj{P:Program}{a:Act}{o:Oper}{x:Operand}{f:FuncId}{fn:Func}{ats:Array TypeId}{v:Value}(ho:o.op=.call {callee:=.value (.func f),args:= #[x],argTypes:=ats})(hx:a.eval x=v)(hf:P.funcs[f]? =some fn)(hn:(fn.name== "runtime.NumGoroutine")=false)(hb:fn.body.isNone=false)(w:World):(execOp a.eval o).run P w=.ok (.enter f #[v]) w:=by
 have h1:fn.name≠ "runtime.NumGoroutine" :=by simpa using hn
 have ef:a.eval (.func f)=.func (.func f) #[] #[]:=rfl
 have e:execOp a.eval o=callFunc f #[v]:=by
  unfold execOp
  simp[ho,resolve,Deferred.ofValue,invoke,ef,hx]
 obtain⟨c,hc⟩: ∃c,fn.body=some c:=by
  cases h:fn.body with
  | none=>simp[h]at hb
  | some c=>exact⟨c,rfl⟩
 rw[e]
 simp[callFunc,hf,h1,hc]
end Ss
end
end Go.Proofs.YtaphajlpbgcfjaaGreatDoor
