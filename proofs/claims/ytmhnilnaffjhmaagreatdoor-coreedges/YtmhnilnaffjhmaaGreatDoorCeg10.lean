/-
  Some of the texts of this proof, one behind the other.
-/
import Derived.Deep.QuietTactic
import Derived.Laws.CopyOwn
import Derived.Laws.IdiomCopy
import Derived.Deep.RegionHeld3
import Derived.Test.YtmhnilnaffjhmaaGreatDoorCeg09
set_option maxRecDepth 100000
set_option maxHeartbeats 400000000
namespace Go.Proofs.YtmhnilnaffjhmaaGreatDoor
open _root_.Go.Proofs.Tryz
section
open Go.RowKit Tf
attribute [local go_sem] aJ aK aN aO aP aQ aV
theorem oH{P:Program}(w:World)(ts:Array TypeId)(t:TypeId){a b:Nat}(ha:a<=9218868437227405312)(hb:b<=9218868437227405312):
  (Builtin.min_ ts t #[.float .f64 a,.float .f64 b]).run P w=.ok (.float .f64 (min a b)) w:=by
 have h:FloatKind.f64.format.order a b=_:=yI ha hb
 by_cases c:a<b
 ·rw[if_pos c]at h
  simp[Builtin.min_,Builtin.min2,h]
  omega
 ·rw[if_neg c]at h
  by_cases d:b<a
  ·rw[if_pos d]at h
   simp[Builtin.min_,Builtin.min2,h]
   omega
  ·rw[if_neg d]at h
   have e:a=b:=by omega
   subst e
   simp[Builtin.min_,Builtin.min2,h]
theorem E5{P:Program}(w:World)(ts:Array TypeId)(t:TypeId){a b:Nat}(ha:a<=9218868437227405312)(hb:b<=9218868437227405312):
  (Builtin.max_ ts t #[.float .f64 a,.float .f64 b]).run P w=.ok (.float .f64 (max a b)) w:=by
 have h:FloatKind.f64.format.order a b=_:=yI ha hb
 by_cases c:a<b
 ·rw[if_pos c]at h
  simp[Builtin.max_,Builtin.max2,h]
  omega
 ·rw[if_neg c]at h
  by_cases d:b<a
  ·rw[if_pos d]at h
   simp[Builtin.max_,Builtin.max2,h]
   omega
  ·rw[if_neg d]at h
   have e:a=b:=by omega
   subst e
   simp[Builtin.max_,Builtin.max2,h]
theorem plain_at(a b:Nat)(w:World):Calls prog 190 #[.float .f64 a,.float .f64 b] w fun e w'=>e=.returned (.float .f64 0)/\w'=w:=by
 go_enter func190,ntmps190
 go_wp2
 go_ret
 exact⟨rfl,rfl⟩
theorem E7(a b:Nat)(w:World)(ha:a<=9218868437227405312)(hb:b<=9218868437227405312):Calls prog 191 #[.float .f64 a,.float .f64 b] w fun e w'=>e=.returned (.float .f64 (min a b))/\w'=w:=by
 have h: ∀ts t,(Builtin.min_ ts t #[.float .f64 a,.float .f64 b]).run prog w=.ok (.float .f64 (min a b)) w:=fun ts t=>oH w ts t ha hb
 generalize e:min a b=m at h ⊢
 clear e ha hb
 go_enter func191,ntmps191
 go_wp2
 go_ret
 exact⟨rfl,rfl⟩
theorem yT(a b:Nat)(w:World)(ha:ps a=true)(hb:ps b=true):Calls prog 192 #[.float .f64 a,.float .f64 b] w fun e w'=>e=.returned (.float .f64 (sbee a b))/\w'=w:=by
 obtain⟨a0,a1⟩:=bV.1 ha
 obtain⟨b0,b1⟩:=bV.1 hb
 have fa:=(gV a1).1
 have fb:=(gV b1).1
 have h1: ∀t,(binOp .mul t (.float .f64 4611686018427387904) (.float .f64 a)).run prog w=.ok (.float .f64 (mlB 4611686018427387904 a)) w:=fun t=>run_float_arith w .mul t .f64 _ _ _ (vW (by decide) a1 (by decide) a0)
 have h2: ∀t,(binOp .mul t (.float .f64 4611686018427387904) (.float .f64 b)).run prog w=.ok (.float .f64 (mlB 4611686018427387904 b)) w:=fun t=>run_float_arith w .mul t .f64 _ _ _ (vW (by decide) b1 (by decide) b0)
 have h3: ∀ts t,(Builtin.min_ ts t #[.float .f64 (mlB 4611686018427387904 a),.float .f64 b]).run prog w=.ok (.float .f64 (min (mlB 4611686018427387904 a) b)) w:=fun ts t=>oH w ts t fa b1
 have h4: ∀ts t,(Builtin.min_ ts t #[.float .f64 a,.float .f64 (mlB 4611686018427387904 b)]).run prog w=.ok (.float .f64 (min a (mlB 4611686018427387904 b))) w:=fun ts t=>oH w ts t a1 fb
 have h5: ∀ts t,(Builtin.max_ ts t #[.float .f64 (min (mlB 4611686018427387904 a) b),.float .f64 (min a (mlB 4611686018427387904 b))]).run prog w=.ok (.float .f64 (sbee a b)) w:=fun ts t=>E5 w ts t (by omega) (by omega)
 generalize mlB 4611686018427387904 a=p at*
 generalize mlB 4611686018427387904 b=q at*
 generalize min p b=u at*
 generalize min a q=v at*
 generalize sbee a b=s at*
 clear a0 a1 b0 b1 fa fb ha hb
 go_enter func192,ntmps192
 go_wp2
 go_ret
 exact⟨rfl,rfl⟩
theorem leer_at(a b:Nat)(w:World)(ha:ps a=true)(hb:ps b=true):Calls prog 193 #[.float .f64 a,.float .f64 b] w fun e w'=> ∃r,e=.returned (.float .f64 r)/\(∃n,w'=w.drewN n)/\IsC r (lr a b):=by
 obtain⟨a0,a1⟩:=bV.1 ha
 obtain⟨b0,b1⟩:=bV.1 hb
 have fa:=gV a1
 have L:=leer_nn a1 b1 a0 b0
 have h1: ∀t,(binOp .mul t (.float .f64 4611686018427387904) (.float .f64 a)).run prog w=.ok (.float .f64 (mlB 4611686018427387904 a)) w:=fun t=>run_float_arith w .mul t .f64 _ _ _ (vW (by decide) a1 (by decide) a0)
 have h2: ∀t,(binOp .mul t (.float .f64 (mlB 4611686018427387904 a)) (.float .f64 b)).run prog w=.ok (.float .f64 (mlB (mlB 4611686018427387904 a) b)) w:=fun t=>run_float_arith w .mul t .f64 _ _ _ (vW fa.1 b1 (by omega) b0)
 have h3: ∀t,(binOp .add t (.float .f64 a) (.float .f64 b)).run prog w=.ok (.float .f64 (plB a b)) w:=fun t=>run_float_arith w .add t .f64 _ _ _ (add_pp a1 b1)
 obtain⟨r,n,h4,hc⟩:=gJ (P:=prog) w (mlB (mlB 4611686018427387904 a) b) (plB a b)
 have hc:IsC r (leer a b):=hc
 obtain⟨k1,k2⟩:=lr_le_of hc L
 have HL:=lr_le a b
 by_cases c:leer a b<9218868437227405312
 ·have e:lr a b=leer a b:=by unfold lr;rw[if_pos c]
  rw[decide_eq_true c]at k1
  have HC:Hid (IsC r (lr a b)):=by rw[e];exact hc
  generalize mlB (mlB 4611686018427387904 a) b=q at*
  generalize mlB 4611686018427387904 a=p at*
  generalize plB a b=s at*
  clear e k2 c L fa a0 a1 b0 b1 ha hb HL
  clear hc
  go_enter func193,ntmps193
  go_wp2
  go_ret
  exact⟨r,rfl,⟨n,rfl⟩,HC.out⟩
 ·have e:lr a b=0:=by unfold lr;rw[if_neg c]
  rw[decide_eq_false c]at k1
  have HC:Hid (IsC 0 (lr a b)):=by rw[e];exact⟨by decide,by decide⟩
  generalize mlB (mlB 4611686018427387904 a) b=q at*
  generalize mlB 4611686018427387904 a=p at*
  generalize plB a b=s at*
  clear e k2 c L fa a0 a1 b0 b1 ha hb HL
  clear hc
  go_enter func193,ntmps193
  go_wp2
  go_ret
  exact⟨0,rfl,⟨n,rfl⟩,HC.out⟩
theorem sC{P:Program}{w:World}{a:Addr}{m:Mode}(f:Fn)(x y:Array Value):(store a (.func f x y) m).run P w=stored P w a (.func f x y) m:=run_store P w a _ m rfl
attribute [local go_sem] sC
theorem bT(w:World):Calls prog 165 #[] w fun e w'=>e=.returned (.agg #[.func (.func 190) #[] #[],.func (.func 191) #[] #[],.func (.func 192) #[] #[],.func (.func 193) #[] #[]])/\Below w.heap.size w w':=by
 go_enter func165,ntmps165
 go_wp2
 refine bodyPost_ret ?_ rfl ⟨rfl,?_⟩
 ·exact results_cell_row results165 _ _ w.heap.size _ _ (0,0) _ rfl (heap_alloc_new w _) underlying212 rfl (by kernel_rfl)
 ·exact bl1 w _
theorem cV(k:Int)(w:World):Calls prog 143 #[.int .i64 k] w fun e w'=>e=.returned (.bool (decide (0<=k/\k<=3)))/\Below w.heap.size w w':=by
 have L:=hid (bT w)
 by_cases c:0<=k
 ·have e:decide (0<=k/\k<=3)=decide (k<4):=by by_cases d:k<4<;>simp[d]<;>omega
  rw[e]
  clear e
  go_enter func143,ntmps143
  go_wp2_with fail
  refine L.out.mono ?_
  rintro e w1 ⟨rfl,b1⟩
  go_wp2
  go_ret
  exact⟨rfl,b1⟩
 ·have e:decide (0<=k/\k<=3)=false:=decide_eq_false (by omega)
  rw[e]
  clear e
  go_enter func143,ntmps143
  go_wp2
  go_ret
  exact⟨rfl,Below.refl _ _⟩
end
section
open Go.RowKit Tf
attribute [local go_sem] aJ aK aN aO aP aQ aV
theorem lC{r x:Nat}(h:IsC r x)(hx:x<=9218868437227405312):canonB (negB r)=op x:=by
 obtain⟨h1,h2⟩:=h
 by_cases z:mg r=0
 ·have n:isN r=false:=cF.2 (by omega)
  have e:x=0:=by rw[<- h2];unfold canonB;rw[n,z];rfl
  subst e
  have m:mg (negB r)=0:=by rw[mg_negB];exact z
  have n2:isN (negB r)=false:=cF.2 (by omega)
  unfold canonB
  rw[n2,m]
  rfl
 ·have e:r=x:=by
   unfold canonB at h2
   rw[if_neg z]at h2
   split at h2
   ·rw[<- h2]at hx;unfold quiet at hx;omega
   ·exact h2
  subst e
  exact canon_op hx
theorem IsC.refl{x:Nat}(h:x<=9218868437227405312):IsC x x:=⟨by omega,yH h⟩
def Lim(f:Nat)(k:Int):Prop:= ∀a b w,ps a=true->ps b=true->Calls prog f #[.float .f64 a,.float .f64 b] w fun e w'=> ∃r,e=.returned (.float .f64 r)/\(∃n,w'=w.drewN n)/\IsC r (lm k a b)
theorem lim0:Lim 190 0:=by
 intro a b w ha hb
 refine(plain_at a b w).mono ?_
 rintro e w' ⟨rfl,rfl⟩
 exact⟨0,rfl,⟨0,rfl⟩,IsC.refl (by decide)⟩
theorem lim1:Lim 191 1:=by
 intro a b w ha hb
 have a1:=bV.1 ha
 have b1:=bV.1 hb
 refine(E7 a b w a1.2 b1.2).mono ?_
 rintro e w' ⟨rfl,rfl⟩
 exact⟨_,rfl,⟨0,rfl⟩,IsC.refl (lJ 1 a1.2 b1.2)⟩
theorem lim2:Lim 192 2:=by
 intro a b w ha hb
 have a1:=bV.1 ha
 have b1:=bV.1 hb
 refine(yT a b w ha hb).mono ?_
 rintro e w' ⟨rfl,rfl⟩
 exact⟨_,rfl,⟨0,rfl⟩,IsC.refl (lJ 2 a1.2 b1.2)⟩
theorem lim3:Lim 193 3:=by
 intro a b w ha hb
 refine(leer_at a b w ha hb).mono ?_
 rintro e w' ⟨r,rfl,n,h⟩
 exact⟨r,rfl,n,h⟩
theorem slope_p0(a b:Nat)(w:World)(ha:a<18446744073709551616)(hb:b<18446744073709551616)(pa:ps a=true)(pb:ps b=true):Calls prog 174 #[.int .i64 0,.float .f64 a,.float .f64 b] w fun e w'=>e=.returned (.float .f64 (lm 0 a b))/\Below w.heap.size w w':=by
 have V:=hid (cV 0 w)
 have L:=hid bT
 have IX: ∀w:World,(Instr.index 212 (.agg #[.func (.func 190) #[] #[],.func (.func 191) #[] #[],.func (.func 192) #[] #[],.func (.func 193) #[] #[]]) (.int .i64 0)).run prog w=.ok (.func (.func 190) #[] #[]) w:=fun _=>by kernel_rfl
 have G:=hid lim0
 have ga:fgt a 0=true:=by rw[cM ha];exact pa
 have gb:fgt b 0=true:=by rw[cM hb];exact pb
 have PA:=hid pa
 have PB:=hid pb
 clear pa pb ha hb
 go_enter func174,ntmps174
 go_wp2_with fail
 refine V.out.mono ?_
 rintro e w1 ⟨rfl,b1⟩
 have B1:=hid b1
 clear b1
 go_wp2_with fail
 refine(L.out _).mono ?_
 rintro e w2 ⟨rfl,b2⟩
 have B2:=hid b2
 clear b2
 go_wp2_with fail
 refine(G.out a b _ PA.out PB.out).mono ?_
 rintro e w3 ⟨r,rfl,⟨n,rfl⟩,hr⟩
 have C:=hid (bN r (w2.drewN n) hr.1)
 have HR:=hid hr.2
 clear hr
 go_wp2_with fail
 refine C.out.mono ?_
 rintro e w4 ⟨rfl,rfl⟩
 go_wp2
 go_ret
 exact⟨gY HR.out,Ab.drewN (Ab.trans B1.out B2.out) n⟩
theorem slope_m0(a b p q:Nat)(w:World)(ga:flt a 0=true)(gb:flt b 0=true)(ga2:fgt a 0=false)(na:Op.negFloat .f64 a=p)(nb:Op.negFloat .f64 b=q)(P:Hid (ps p=true))(Q:Hid (ps q=true)):Calls prog 174 #[.int .i64 0,.float .f64 a,.float .f64 b] w fun e w'=>e=.returned (.float .f64 (op (lm 0 p q)))/\Below w.heap.size w w':=by
 have V:=hid (cV 0 w)
 have L:=hid bT
 have IX: ∀w:World,(Instr.index 212 (.agg #[.func (.func 190) #[] #[],.func (.func 191) #[] #[],.func (.func 192) #[] #[],.func (.func 193) #[] #[]]) (.int .i64 0)).run prog w=.ok (.func (.func 190) #[] #[]) w:=fun _=>by kernel_rfl
 have G:=hid lim0
 go_enter func174,ntmps174
 go_wp2_with fail
 refine V.out.mono ?_
 rintro e w1 ⟨rfl,b1⟩
 have B1:=hid b1
 clear b1
 go_wp2_with fail
 refine(L.out _).mono ?_
 rintro e w2 ⟨rfl,b2⟩
 have B2:=hid b2
 clear b2
 go_wp2_with fail
 refine(G.out p q _ P.out Q.out).mono ?_
 rintro e w3 ⟨r,rfl,⟨n,rfl⟩,hr⟩
 have E:canonB (Op.negFloat .f64 r)=op (lm 0 p q):=by rw[bF r hr.1];exact lC hr (lJ 0 (bV.1 P.out).2 (bV.1 Q.out).2)
 have C:=bN (Op.negFloat .f64 r) (w2.drewN n) (by rw[bF r hr.1];exact pR hr.1)
 rw[E]at C
 have C:=hid C
 clear hr E
 go_wp2_with fail
 refine C.out.mono ?_
 rintro e w4 ⟨rfl,rfl⟩
 go_wp2
 go_ret
 exact⟨rfl,Ab.drewN (Ab.trans B1.out B2.out) n⟩
theorem slope_n0(a b:Nat)(w:World)(ha:a<18446744073709551616)(hb:b<18446744073709551616)(pa:ns a=true)(pb:ns b=true):Calls prog 174 #[.int .i64 0,.float .f64 a,.float .f64 b] w fun e w'=>e=.returned (.float .f64 (op (lm 0 (a - 9223372036854775808) (b - 9223372036854775808))))/\Below w.heap.size w w':=by
 have a1:=gB.1 pa
 have b1:=gB.1 pb
 exact slope_m0 a b _ _ w (by rw[dX ha];exact pa) (by rw[dX hb];exact pb) (by rw[cM ha];exact ps_no.2 (by omega)) (by rw[bF a ha,jY a1.1]) (by rw[bF b hb,jY b1.1]) (bV.2 ⟨by omega,by omega⟩) (bV.2 ⟨by omega,by omega⟩)
theorem slope_z0(a b:Nat)(w:World)(ha:a<18446744073709551616)(hb:b<18446744073709551616)(pa:(ps a&&ps b)=false)(pb:(ns a&&ns b)=false):Calls prog 174 #[.int .i64 0,.float .f64 a,.float .f64 b] w fun e w'=>e=.returned (.float .f64 0)/\Below w.heap.size w w':=by
 have V:=hid (cV 0 w)
 have L:=hid bT
 have IX: ∀w:World,(Instr.index 212 (.agg #[.func (.func 190) #[] #[],.func (.func 191) #[] #[],.func (.func 192) #[] #[],.func (.func 193) #[] #[]]) (.int .i64 0)).run prog w=.ok (.func (.func 190) #[] #[]) w:=fun _=>by kernel_rfl
 rw[<- cM ha,<- cM hb]at pa
 rw[<- dX ha,<- dX hb]at pb
 clear ha hb
 cases g1:fgt a 0<;>cases g2:flt a 0<;>rw[g1]at pa<;>rw[g2]at pb<;>(try rw[Bool.true_and]at pa)<;>(try rw[Bool.true_and]at pb)<;>(
  go_enter func174,ntmps174
  go_wp2_with fail
  refine V.out.mono ?_
  rintro e w1 ⟨rfl,b1⟩
  have B1:=hid b1
  clear b1
  go_wp2_with fail
  refine(L.out _).mono ?_
  rintro e w2 ⟨rfl,b2⟩
  have B2:=hid b2
  clear b2
  go_wp2
  go_ret
  exact⟨rfl,Ab.trans B1.out B2.out⟩)
theorem slope_p1(a b:Nat)(w:World)(ha:a<18446744073709551616)(hb:b<18446744073709551616)(pa:ps a=true)(pb:ps b=true):Calls prog 174 #[.int .i64 1,.float .f64 a,.float .f64 b] w fun e w'=>e=.returned (.float .f64 (lm 1 a b))/\Below w.heap.size w w':=by
 have V:=hid (cV 1 w)
 have L:=hid bT
 have IX: ∀w:World,(Instr.index 212 (.agg #[.func (.func 190) #[] #[],.func (.func 191) #[] #[],.func (.func 192) #[] #[],.func (.func 193) #[] #[]]) (.int .i64 1)).run prog w=.ok (.func (.func 191) #[] #[]) w:=fun _=>by kernel_rfl
 have G:=hid lim1
 have ga:fgt a 0=true:=by rw[cM ha];exact pa
 have gb:fgt b 0=true:=by rw[cM hb];exact pb
 have PA:=hid pa
 have PB:=hid pb
 clear pa pb ha hb
 go_enter func174,ntmps174
 go_wp2_with fail
 refine V.out.mono ?_
 rintro e w1 ⟨rfl,b1⟩
 have B1:=hid b1
 clear b1
 go_wp2_with fail
 refine(L.out _).mono ?_
 rintro e w2 ⟨rfl,b2⟩
 have B2:=hid b2
 clear b2
 go_wp2_with fail
 refine(G.out a b _ PA.out PB.out).mono ?_
 rintro e w3 ⟨r,rfl,⟨n,rfl⟩,hr⟩
 have C:=hid (bN r (w2.drewN n) hr.1)
 have HR:=hid hr.2
 clear hr
 go_wp2_with fail
 refine C.out.mono ?_
 rintro e w4 ⟨rfl,rfl⟩
 go_wp2
 go_ret
 exact⟨gY HR.out,Ab.drewN (Ab.trans B1.out B2.out) n⟩
theorem slope_m1(a b p q:Nat)(w:World)(ga:flt a 0=true)(gb:flt b 0=true)(ga2:fgt a 0=false)(na:Op.negFloat .f64 a=p)(nb:Op.negFloat .f64 b=q)(P:Hid (ps p=true))(Q:Hid (ps q=true)):Calls prog 174 #[.int .i64 1,.float .f64 a,.float .f64 b] w fun e w'=>e=.returned (.float .f64 (op (lm 1 p q)))/\Below w.heap.size w w':=by
 have V:=hid (cV 1 w)
 have L:=hid bT
 have IX: ∀w:World,(Instr.index 212 (.agg #[.func (.func 190) #[] #[],.func (.func 191) #[] #[],.func (.func 192) #[] #[],.func (.func 193) #[] #[]]) (.int .i64 1)).run prog w=.ok (.func (.func 191) #[] #[]) w:=fun _=>by kernel_rfl
 have G:=hid lim1
 go_enter func174,ntmps174
 go_wp2_with fail
 refine V.out.mono ?_
 rintro e w1 ⟨rfl,b1⟩
 have B1:=hid b1
 clear b1
 go_wp2_with fail
 refine(L.out _).mono ?_
 rintro e w2 ⟨rfl,b2⟩
 have B2:=hid b2
 clear b2
 go_wp2_with fail
 refine(G.out p q _ P.out Q.out).mono ?_
 rintro e w3 ⟨r,rfl,⟨n,rfl⟩,hr⟩
 have E:canonB (Op.negFloat .f64 r)=op (lm 1 p q):=by rw[bF r hr.1];exact lC hr (lJ 1 (bV.1 P.out).2 (bV.1 Q.out).2)
 have C:=bN (Op.negFloat .f64 r) (w2.drewN n) (by rw[bF r hr.1];exact pR hr.1)
 rw[E]at C
 have C:=hid C
 clear hr E
 go_wp2_with fail
 refine C.out.mono ?_
 rintro e w4 ⟨rfl,rfl⟩
 go_wp2
 go_ret
 exact⟨rfl,Ab.drewN (Ab.trans B1.out B2.out) n⟩
theorem slope_n1(a b:Nat)(w:World)(ha:a<18446744073709551616)(hb:b<18446744073709551616)(pa:ns a=true)(pb:ns b=true):Calls prog 174 #[.int .i64 1,.float .f64 a,.float .f64 b] w fun e w'=>e=.returned (.float .f64 (op (lm 1 (a - 9223372036854775808) (b - 9223372036854775808))))/\Below w.heap.size w w':=by
 have a1:=gB.1 pa
 have b1:=gB.1 pb
 exact slope_m1 a b _ _ w (by rw[dX ha];exact pa) (by rw[dX hb];exact pb) (by rw[cM ha];exact ps_no.2 (by omega)) (by rw[bF a ha,jY a1.1]) (by rw[bF b hb,jY b1.1]) (bV.2 ⟨by omega,by omega⟩) (bV.2 ⟨by omega,by omega⟩)
theorem slope_z1(a b:Nat)(w:World)(ha:a<18446744073709551616)(hb:b<18446744073709551616)(pa:(ps a&&ps b)=false)(pb:(ns a&&ns b)=false):Calls prog 174 #[.int .i64 1,.float .f64 a,.float .f64 b] w fun e w'=>e=.returned (.float .f64 0)/\Below w.heap.size w w':=by
 have V:=hid (cV 1 w)
 have L:=hid bT
 have IX: ∀w:World,(Instr.index 212 (.agg #[.func (.func 190) #[] #[],.func (.func 191) #[] #[],.func (.func 192) #[] #[],.func (.func 193) #[] #[]]) (.int .i64 1)).run prog w=.ok (.func (.func 191) #[] #[]) w:=fun _=>by kernel_rfl
 rw[<- cM ha,<- cM hb]at pa
 rw[<- dX ha,<- dX hb]at pb
 clear ha hb
 cases g1:fgt a 0<;>cases g2:flt a 0<;>rw[g1]at pa<;>rw[g2]at pb<;>(try rw[Bool.true_and]at pa)<;>(try rw[Bool.true_and]at pb)<;>(
  go_enter func174,ntmps174
  go_wp2_with fail
  refine V.out.mono ?_
  rintro e w1 ⟨rfl,b1⟩
  have B1:=hid b1
  clear b1
  go_wp2_with fail
  refine(L.out _).mono ?_
  rintro e w2 ⟨rfl,b2⟩
  have B2:=hid b2
  clear b2
  go_wp2
  go_ret
  exact⟨rfl,Ab.trans B1.out B2.out⟩)
theorem slope_p2(a b:Nat)(w:World)(ha:a<18446744073709551616)(hb:b<18446744073709551616)(pa:ps a=true)(pb:ps b=true):Calls prog 174 #[.int .i64 2,.float .f64 a,.float .f64 b] w fun e w'=>e=.returned (.float .f64 (lm 2 a b))/\Below w.heap.size w w':=by
 have V:=hid (cV 2 w)
 have L:=hid bT
 have IX: ∀w:World,(Instr.index 212 (.agg #[.func (.func 190) #[] #[],.func (.func 191) #[] #[],.func (.func 192) #[] #[],.func (.func 193) #[] #[]]) (.int .i64 2)).run prog w=.ok (.func (.func 192) #[] #[]) w:=fun _=>by kernel_rfl
 have G:=hid lim2
 have ga:fgt a 0=true:=by rw[cM ha];exact pa
 have gb:fgt b 0=true:=by rw[cM hb];exact pb
 have PA:=hid pa
 have PB:=hid pb
 clear pa pb ha hb
 go_enter func174,ntmps174
 go_wp2_with fail
 refine V.out.mono ?_
 rintro e w1 ⟨rfl,b1⟩
 have B1:=hid b1
 clear b1
 go_wp2_with fail
 refine(L.out _).mono ?_
 rintro e w2 ⟨rfl,b2⟩
 have B2:=hid b2
 clear b2
 go_wp2_with fail
 refine(G.out a b _ PA.out PB.out).mono ?_
 rintro e w3 ⟨r,rfl,⟨n,rfl⟩,hr⟩
 have C:=hid (bN r (w2.drewN n) hr.1)
 have HR:=hid hr.2
 clear hr
 go_wp2_with fail
 refine C.out.mono ?_
 rintro e w4 ⟨rfl,rfl⟩
 go_wp2
 go_ret
 exact⟨gY HR.out,Ab.drewN (Ab.trans B1.out B2.out) n⟩
theorem slope_m2(a b p q:Nat)(w:World)(ga:flt a 0=true)(gb:flt b 0=true)(ga2:fgt a 0=false)(na:Op.negFloat .f64 a=p)(nb:Op.negFloat .f64 b=q)(P:Hid (ps p=true))(Q:Hid (ps q=true)):Calls prog 174 #[.int .i64 2,.float .f64 a,.float .f64 b] w fun e w'=>e=.returned (.float .f64 (op (lm 2 p q)))/\Below w.heap.size w w':=by
 have V:=hid (cV 2 w)
 have L:=hid bT
 have IX: ∀w:World,(Instr.index 212 (.agg #[.func (.func 190) #[] #[],.func (.func 191) #[] #[],.func (.func 192) #[] #[],.func (.func 193) #[] #[]]) (.int .i64 2)).run prog w=.ok (.func (.func 192) #[] #[]) w:=fun _=>by kernel_rfl
 have G:=hid lim2
 go_enter func174,ntmps174
 go_wp2_with fail
 refine V.out.mono ?_
 rintro e w1 ⟨rfl,b1⟩
 have B1:=hid b1
 clear b1
 go_wp2_with fail
 refine(L.out _).mono ?_
 rintro e w2 ⟨rfl,b2⟩
 have B2:=hid b2
 clear b2
 go_wp2_with fail
 refine(G.out p q _ P.out Q.out).mono ?_
 rintro e w3 ⟨r,rfl,⟨n,rfl⟩,hr⟩
 have E:canonB (Op.negFloat .f64 r)=op (lm 2 p q):=by rw[bF r hr.1];exact lC hr (lJ 2 (bV.1 P.out).2 (bV.1 Q.out).2)
 have C:=bN (Op.negFloat .f64 r) (w2.drewN n) (by rw[bF r hr.1];exact pR hr.1)
 rw[E]at C
 have C:=hid C
 clear hr E
 go_wp2_with fail
 refine C.out.mono ?_
 rintro e w4 ⟨rfl,rfl⟩
 go_wp2
 go_ret
 exact⟨rfl,Ab.drewN (Ab.trans B1.out B2.out) n⟩
theorem slope_n2(a b:Nat)(w:World)(ha:a<18446744073709551616)(hb:b<18446744073709551616)(pa:ns a=true)(pb:ns b=true):Calls prog 174 #[.int .i64 2,.float .f64 a,.float .f64 b] w fun e w'=>e=.returned (.float .f64 (op (lm 2 (a - 9223372036854775808) (b - 9223372036854775808))))/\Below w.heap.size w w':=by
 have a1:=gB.1 pa
 have b1:=gB.1 pb
 exact slope_m2 a b _ _ w (by rw[dX ha];exact pa) (by rw[dX hb];exact pb) (by rw[cM ha];exact ps_no.2 (by omega)) (by rw[bF a ha,jY a1.1]) (by rw[bF b hb,jY b1.1]) (bV.2 ⟨by omega,by omega⟩) (bV.2 ⟨by omega,by omega⟩)
theorem slope_z2(a b:Nat)(w:World)(ha:a<18446744073709551616)(hb:b<18446744073709551616)(pa:(ps a&&ps b)=false)(pb:(ns a&&ns b)=false):Calls prog 174 #[.int .i64 2,.float .f64 a,.float .f64 b] w fun e w'=>e=.returned (.float .f64 0)/\Below w.heap.size w w':=by
 have V:=hid (cV 2 w)
 have L:=hid bT
 have IX: ∀w:World,(Instr.index 212 (.agg #[.func (.func 190) #[] #[],.func (.func 191) #[] #[],.func (.func 192) #[] #[],.func (.func 193) #[] #[]]) (.int .i64 2)).run prog w=.ok (.func (.func 192) #[] #[]) w:=fun _=>by kernel_rfl
 rw[<- cM ha,<- cM hb]at pa
 rw[<- dX ha,<- dX hb]at pb
 clear ha hb
 cases g1:fgt a 0<;>cases g2:flt a 0<;>rw[g1]at pa<;>rw[g2]at pb<;>(try rw[Bool.true_and]at pa)<;>(try rw[Bool.true_and]at pb)<;>(
  go_enter func174,ntmps174
  go_wp2_with fail
  refine V.out.mono ?_
  rintro e w1 ⟨rfl,b1⟩
  have B1:=hid b1
  clear b1
  go_wp2_with fail
  refine(L.out _).mono ?_
  rintro e w2 ⟨rfl,b2⟩
  have B2:=hid b2
  clear b2
  go_wp2
  go_ret
  exact⟨rfl,Ab.trans B1.out B2.out⟩)
theorem slope_p3(a b:Nat)(w:World)(ha:a<18446744073709551616)(hb:b<18446744073709551616)(pa:ps a=true)(pb:ps b=true):Calls prog 174 #[.int .i64 3,.float .f64 a,.float .f64 b] w fun e w'=>e=.returned (.float .f64 (lm 3 a b))/\Below w.heap.size w w':=by
 have V:=hid (cV 3 w)
 have L:=hid bT
 have IX: ∀w:World,(Instr.index 212 (.agg #[.func (.func 190) #[] #[],.func (.func 191) #[] #[],.func (.func 192) #[] #[],.func (.func 193) #[] #[]]) (.int .i64 3)).run prog w=.ok (.func (.func 193) #[] #[]) w:=fun _=>by kernel_rfl
 have G:=hid lim3
 have ga:fgt a 0=true:=by rw[cM ha];exact pa
 have gb:fgt b 0=true:=by rw[cM hb];exact pb
 have PA:=hid pa
 have PB:=hid pb
 clear pa pb ha hb
 go_enter func174,ntmps174
 go_wp2_with fail
 refine V.out.mono ?_
 rintro e w1 ⟨rfl,b1⟩
 have B1:=hid b1
 clear b1
 go_wp2_with fail
 refine(L.out _).mono ?_
 rintro e w2 ⟨rfl,b2⟩
 have B2:=hid b2
 clear b2
 go_wp2_with fail
 refine(G.out a b _ PA.out PB.out).mono ?_
 rintro e w3 ⟨r,rfl,⟨n,rfl⟩,hr⟩
 have C:=hid (bN r (w2.drewN n) hr.1)
 have HR:=hid hr.2
 clear hr
 go_wp2_with fail
 refine C.out.mono ?_
 rintro e w4 ⟨rfl,rfl⟩
 go_wp2
 go_ret
 exact⟨gY HR.out,Ab.drewN (Ab.trans B1.out B2.out) n⟩
theorem slope_m3(a b p q:Nat)(w:World)(ga:flt a 0=true)(gb:flt b 0=true)(ga2:fgt a 0=false)(na:Op.negFloat .f64 a=p)(nb:Op.negFloat .f64 b=q)(P:Hid (ps p=true))(Q:Hid (ps q=true)):Calls prog 174 #[.int .i64 3,.float .f64 a,.float .f64 b] w fun e w'=>e=.returned (.float .f64 (op (lm 3 p q)))/\Below w.heap.size w w':=by
 have V:=hid (cV 3 w)
 have L:=hid bT
 have IX: ∀w:World,(Instr.index 212 (.agg #[.func (.func 190) #[] #[],.func (.func 191) #[] #[],.func (.func 192) #[] #[],.func (.func 193) #[] #[]]) (.int .i64 3)).run prog w=.ok (.func (.func 193) #[] #[]) w:=fun _=>by kernel_rfl
 have G:=hid lim3
 go_enter func174,ntmps174
 go_wp2_with fail
 refine V.out.mono ?_
 rintro e w1 ⟨rfl,b1⟩
 have B1:=hid b1
 clear b1
 go_wp2_with fail
 refine(L.out _).mono ?_
 rintro e w2 ⟨rfl,b2⟩
 have B2:=hid b2
 clear b2
 go_wp2_with fail
 refine(G.out p q _ P.out Q.out).mono ?_
 rintro e w3 ⟨r,rfl,⟨n,rfl⟩,hr⟩
 have E:canonB (Op.negFloat .f64 r)=op (lm 3 p q):=by rw[bF r hr.1];exact lC hr (lJ 3 (bV.1 P.out).2 (bV.1 Q.out).2)
 have C:=bN (Op.negFloat .f64 r) (w2.drewN n) (by rw[bF r hr.1];exact pR hr.1)
 rw[E]at C
 have C:=hid C
 clear hr E
 go_wp2_with fail
 refine C.out.mono ?_
 rintro e w4 ⟨rfl,rfl⟩
 go_wp2
 go_ret
 exact⟨rfl,Ab.drewN (Ab.trans B1.out B2.out) n⟩
theorem slope_n3(a b:Nat)(w:World)(ha:a<18446744073709551616)(hb:b<18446744073709551616)(pa:ns a=true)(pb:ns b=true):Calls prog 174 #[.int .i64 3,.float .f64 a,.float .f64 b] w fun e w'=>e=.returned (.float .f64 (op (lm 3 (a - 9223372036854775808) (b - 9223372036854775808))))/\Below w.heap.size w w':=by
 have a1:=gB.1 pa
 have b1:=gB.1 pb
 exact slope_m3 a b _ _ w (by rw[dX ha];exact pa) (by rw[dX hb];exact pb) (by rw[cM ha];exact ps_no.2 (by omega)) (by rw[bF a ha,jY a1.1]) (by rw[bF b hb,jY b1.1]) (bV.2 ⟨by omega,by omega⟩) (bV.2 ⟨by omega,by omega⟩)
theorem slope_z3(a b:Nat)(w:World)(ha:a<18446744073709551616)(hb:b<18446744073709551616)(pa:(ps a&&ps b)=false)(pb:(ns a&&ns b)=false):Calls prog 174 #[.int .i64 3,.float .f64 a,.float .f64 b] w fun e w'=>e=.returned (.float .f64 0)/\Below w.heap.size w w':=by
 have V:=hid (cV 3 w)
 have L:=hid bT
 have IX: ∀w:World,(Instr.index 212 (.agg #[.func (.func 190) #[] #[],.func (.func 191) #[] #[],.func (.func 192) #[] #[],.func (.func 193) #[] #[]]) (.int .i64 3)).run prog w=.ok (.func (.func 193) #[] #[]) w:=fun _=>by kernel_rfl
 rw[<- cM ha,<- cM hb]at pa
 rw[<- dX ha,<- dX hb]at pb
 clear ha hb
 cases g1:fgt a 0<;>cases g2:flt a 0<;>rw[g1]at pa<;>rw[g2]at pb<;>(try rw[Bool.true_and]at pa)<;>(try rw[Bool.true_and]at pb)<;>(
  go_enter func174,ntmps174
  go_wp2_with fail
  refine V.out.mono ?_
  rintro e w1 ⟨rfl,b1⟩
  have B1:=hid b1
  clear b1
  go_wp2_with fail
  refine(L.out _).mono ?_
  rintro e w2 ⟨rfl,b2⟩
  have B2:=hid b2
  clear b2
  go_wp2
  go_ret
  exact⟨rfl,Ab.trans B1.out B2.out⟩)
theorem slope_i(k:Int)(a b:Nat)(w:World)(hk:decide (0<=k/\k<=3)=false):Calls prog 174 #[.int .i64 k,.float .f64 a,.float .f64 b] w fun e w'=>e=.returned (.float .f64 0)/\Below w.heap.size w w':=by
 have V:=cV k w
 rw[hk]at V
 have V:=hid V
 clear hk
 go_enter func174,ntmps174
 go_wp2_with fail
 refine V.out.mono ?_
 rintro e w1 ⟨rfl,b1⟩
 have B1:=hid b1
 clear b1
 go_wp2
 go_ret
 exact⟨rfl,B1.out⟩
theorem yU(k:Int)(a b:Nat)(w:World)(ha:a<18446744073709551616)(hb:b<18446744073709551616):Calls prog 174 #[.int .i64 k,.float .f64 a,.float .f64 b] w fun e w'=>e=.returned (.float .f64 (slp k a b))/\Below w.heap.size w w':=by
 by_cases hk:0<=k/\k<=3
 ·have hk:k=0\/k=1\/k=2\/k=3:=by omega
  unfold slp
  cases p:(ps a&&ps b)
  ·cases n:(ns a&&ns b)
   ·rw[if_neg (by decide),if_neg (by decide)]
    rcases hk with rfl | rfl | rfl | rfl
    ·exact slope_z0 a b w ha hb p n
    ·exact slope_z1 a b w ha hb p n
    ·exact slope_z2 a b w ha hb p n
    ·exact slope_z3 a b w ha hb p n
   ·rw[if_neg (by decide),if_pos rfl]
    rw[Bool.and_eq_true]at n
    rcases hk with rfl | rfl | rfl | rfl
    ·exact slope_n0 a b w ha hb n.1 n.2
    ·exact slope_n1 a b w ha hb n.1 n.2
    ·exact slope_n2 a b w ha hb n.1 n.2
    ·exact slope_n3 a b w ha hb n.1 n.2
  ·rw[if_pos rfl]
   rw[Bool.and_eq_true]at p
   rcases hk with rfl | rfl | rfl | rfl
   ·exact slope_p0 a b w ha hb p.1 p.2
   ·exact slope_p1 a b w ha hb p.1 p.2
   ·exact slope_p2 a b w ha hb p.1 p.2
   ·exact slope_p3 a b w ha hb p.1 p.2
 ·have e:slp k a b=0:=by
   have h: ∀x y,lm k x y=0:=fun x y=>by
    unfold lm
    rw[if_neg (by omega),if_neg (by omega),if_neg (by omega)]
   unfold slp op
   rw[h,h]
   simp
  rw[e]
  exact slope_i k a b w (decide_eq_false hk)
end
section
open Go.RowKit Tf Cu Go.Deep
namespace Rv
theorem bX{w:World}{b:Nat}{o:Obj}(h:w.heap[b]? =some o):b<w.heap.size:=by
 rcases Nat.lt_or_ge b w.heap.size with h1 | h1
 ·exact h1
 ·rw[Array.getElem?_eq_none h1]at h;cases h
end Rv
end
section
open Go.RowKit Tf Cu Go.Deep
attribute [local go_sem] aJ aK aN aO aP aQ aV aD
namespace Ss
theorem own_sea{M:Nat}{v:Value}{nb nw nt ns:Nat}{B:Nat->Nat}{W T:Nat->Int}{S:Nat->Nat}{sky st:Int}{w:World}(h:OwnS M v nb nw nt ns B W T S sky st w)(hB: ∀i,i<nb->B i<18446744073709551616)(hW: ∀i,i<nw->Sh.W64 (W i))(hT: ∀i,i<nt->Sh.W64 (T i))(hS: ∀i,i<ns->S i<18446744073709551616):
  ∃p1 c1 p2 c2 p3 c3 p4 c4,v=.agg #[.slice p1 nb c1,.slice p2 nw c2,.slice p3 nt c3,.slice p4 ns c4,.int .i64 sky,.int .i64 st]/\IsFl w p1 nb B/\Sh.IsI w p2 nw W/\Sh.IsI w p3 nt T/\IsFl w p4 ns S/\Sh.Own M (.slice p2 nw c2) ((List.range nw).map W) w/\Sh.Own M (.slice p3 nt c3) ((List.range nt).map T) w/\OwnG M (.slice p1 nb c1) ((List.range nb).map B) w/\OwnG M (.slice p4 ns c4) ((List.range ns).map S) w/\Dj (.slice p1 nb c1) (.slice p4 ns c4):=by
 obtain⟨v1,v2,v3,v4,rfl,o1,o2,o3,o4,d1,-⟩:=h
 have fl: ∀(u:Value) (n:Nat) (f:Nat->Nat),(∀i,i<n->f i<18446744073709551616)->OwnG M u ((List.range n).map f) w-> ∃p c,u=.slice p n c/\IsFl w p n f:=fun u n f hf o=>by
  obtain⟨p,c,e,i⟩:=o.fl (fun x hx=>by obtain⟨j,hj,rfl⟩:=List.mem_map.1 hx;exact hf j (List.mem_range.1 hj))
  rw[List.length_map,List.length_range]at e i
  exact⟨p,c,e,fun k hk=>by have:=i k hk;simpa [List.getD,hk]using this⟩
 have ii: ∀(u:Value) (n:Nat) (f:Nat->Int),(∀i,i<n->Sh.W64 (f i))->Sh.Own M u ((List.range n).map f) w-> ∃p c,u=.slice p n c/\Sh.IsI w p n f:=fun u n f hf o=>by
  obtain⟨p,c,e,i⟩:=o.in (fun x hx=>by obtain⟨j,hj,rfl⟩:=List.mem_map.1 hx;exact hf j (List.mem_range.1 hj))
  rw[List.length_map,List.length_range]at e i
  exact⟨p,c,e,fun k hk=>by have:=i k hk;simpa [List.getD,hk]using this⟩
 obtain⟨p1,c1,rfl,i1⟩:=fl v1 nb B hB o1
 obtain⟨p2,c2,rfl,i2⟩:=ii v2 nw W hW o2
 obtain⟨p3,c3,rfl,i3⟩:=ii v3 nt T hT o3
 obtain⟨p4,c4,rfl,i4⟩:=fl v4 ns S hS o4
 exact⟨p1,c1,p2,c2,p3,c3,p4,c4,rfl,i1,i2,i3,i4,o2,o3,o1,o4,d1⟩
theorem gL{M:Nat}{t:TypeId}{v:Value}{n:Nat}{l:List Value}{w:World}(h:w.ownsRow M t 1 v n l): ∃p c,v=.slice p n c:=by
 rcases h.2 with⟨q,e⟩ | ⟨g,cap,cur,q,_⟩
 ·exact⟨none,0,by rw[q,e]⟩
 ·exact⟨_,cap,q⟩
end Ss
end
section
open Go.RowKit Tf Cu Go.Deep
namespace Ss
def OV(t:TypeId)(B:Nat)(v:Value)(l:List Value)(w:World):Prop:=w.ownsRow B t 1 v l.length l
theorem OV.blk{t:TypeId}{B:Nat}{v:Value}{l:List Value}{w:World}(h:OV t B v l w){k:Nat}(hk:v.ownBlock=some k):B<=k/\k<w.heap.size:=World.ownsRow.lt h k hk
theorem OV.blkeq{t:TypeId}{B:Nat}{v:Value}{l:List Value}{w w':World}(h:OV t B v l w)(e: ∀k,v.ownBlock=some k->w'.heap[k]? =w.heap[k]?):OV t B v l w':=by
 rcases h.2 with⟨q,e2⟩ | ⟨g,cap,cur,q,hb,hg,rest⟩
 ·exact⟨h.1,.inl ⟨q,e2⟩⟩
 ·exact⟨h.1,.inr ⟨g,cap,cur,q,hb,(e g (by rw[q];rfl)).trans hg,rest⟩⟩
theorem OV.to{t:TypeId}{B:Nat}{v:Value}{l:List Value}{w w':World}(h:OV t B v l w)(a:Ab w w'):OV t B v l w':=h.blkeq (fun k hk=>a.block k (h.blk hk).2)
end Ss
end
section
open Go.RowKit Tf Cu Go.Deep
attribute [local go_sem] aJ aK aN aO aP aQ aV aD
namespace Ss
theorem dj_ty{t t':TypeId}{M M':Nat}{v u:Value}{l l':List Value}{w:World}(h:OV t M v l w)(k:OV t' M' u l' w)(ne:t≠t'):Dj v u:=fun b h1 h2=>by
 rcases h.2 with⟨rfl,_⟩ | ⟨g,cap,cur,rfl,_,hg,_⟩
 ·cases h1
 ·rcases k.2 with⟨rfl,_⟩ | ⟨g',cap',cur',rfl,_,hg',_⟩
  ·cases h2
  ·simp only[Value.ownBlock,Option.some.injEq]at h1 h2
   subst h1
   subst h2
   rw[hg]at hg'
   injection hg' with e
   injection e with _ e2
   exact ne e2
theorem ovF{M n:Nat}{f:Nat->Nat}{v:Value}{w:World}(h:OwnG M v ((List.range n).map f) w):OV 35 M v (((List.range n).map f).map (Value.float .f64)) w:=by
 unfold OV
 rw[List.length_map]
 exact h
theorem ovI{M n:Nat}{f:Nat->Int}{v:Value}{w:World}(h:Sh.Own M v ((List.range n).map f) w):OV 2 M v (((List.range n).map f).map (Value.int .i64)) w:=by
 unfold OV
 rw[List.length_map]
 exact h
theorem own_k20{M:Nat}{v:Value}{lb lw lt ls:Nat}{B:Nat->Nat}{W T:Nat->Int}{S:Nat->Nat}{sky st:Int}{w:World}(h:OwnS M v lb lw lt ls B W T S sky st w)(hB: ∀i,i<lb->B i<18446744073709551616)(hW: ∀i,i<lw->Sh.W64 (W i))(hT: ∀i,i<lt->Sh.W64 (T i))(hS: ∀i,i<ls->S i<18446744073709551616):
  ∃p1 c1 p2 c2 p3 c3 p4 c4,v=.agg #[.slice p1 lb c1,.slice p2 lw c2,.slice p3 lt c3,.slice p4 ls c4,.int .i64 sky,.int .i64 st]/\(IsFl w p1 lb B/\Sh.IsI w p2 lw W/\Sh.IsI w p3 lt T/\IsFl w p4 ls S)/\(OV 35 M (.slice p1 lb c1) (((List.range lb).map B).map (Value.float .f64)) w/\OV 2 M (.slice p2 lw c2) (((List.range lw).map W).map (Value.int .i64)) w/\OV 2 M (.slice p3 lt c3) (((List.range lt).map T).map (Value.int .i64)) w/\OV 35 M (.slice p4 ls c4) (((List.range ls).map S).map (Value.float .f64)) w)/\(Dj (.slice p1 lb c1) (.slice p2 lw c2)/\Dj (.slice p1 lb c1) (.slice p3 lt c3)/\Dj (.slice p1 lb c1) (.slice p4 ls c4)/\Dj (.slice p2 lw c2) (.slice p3 lt c3)/\Dj (.slice p2 lw c2) (.slice p4 ls c4)/\Dj (.slice p3 lt c3) (.slice p4 ls c4)):=by
 obtain⟨p1,c1,p2,c2,p3,c3,p4,c4,rfl,i1,i2,i3,i4,o2,o3,o1,o4,d14⟩:=own_sea h hB hW hT hS
 have d23:Dj (.slice p2 lw c2) (.slice p3 lt c3):=by
  obtain⟨v1,v2,v3,v4,e,-,-,-,-,-,d⟩:=h
  simp only[Value.agg.injEq,Array.mk.injEq,List.cons.injEq]at e
  rw[e.2.1,e.2.2.1]
  exact d
 exact⟨p1,c1,p2,c2,p3,c3,p4,c4,rfl,⟨i1,i2,i3,i4⟩,⟨ovF o1,ovI o2,ovI o3,ovF o4⟩,dj_ty (ovF o1) (ovI o2) (by decide),dj_ty (ovF o1) (ovI o3) (by decide),d14,d23,dj_ty (ovI o2) (ovF o4) (by decide),dj_ty (ovI o3) (ovF o4) (by decide)⟩
end Ss
end
section
open Go.RowKit
namespace Cf
def Fresh(W:World)(S:Nat->Option Nat)(b:Nat):Prop:=W.heap.size<=b/\ ∀i c,S i=some c->c≠b
def putL(S:Nat->Option Nat)(i b:Nat):Nat->Option Nat:=fun k=>if k=i then some b else S k
def Has(W:World)(sp:Nat->Option (Obj × (Nat->Value)))(S:Nat->Option Nat)(w:World):Prop:=Ab W w/\ ∀i b,S i=some b->W.heap.size<=b/\ ∃o mk,sp i=some (o,mk)/\w.heap[b]? =some o
theorem oI(S:Nat->Option Nat){i j:Nat}(b c:Nat)(h:i≠j):putL (putL S i b) j c=putL (putL S j c) i b:=by
 funext k
 unfold putL
 by_cases e:k=j
 ·subst e;simp[Ne.symm h]
 ·by_cases e2:k=i
  ·subst e2;simp[e]
  ·simp[e,e2]
theorem Fresh.put{W:World}{S:Nat->Option Nat}{i b c:Nat}(h:Fresh W S c)(n:b≠c):Fresh W (putL S i b) c:=
 ⟨h.1,fun k d e=>by
  unfold putL at e
  by_cases q:k=i
  ·rw[if_pos q]at e;injection e with e;exact fun x=>n (e.trans x)
  ·rw[if_neg q]at e;exact h.2 k d e⟩
theorem Fresh.of_put{W:World}{S:Nat->Option Nat}{i b c:Nat}(h:Fresh W (putL S i b) c)(hi:S i=none):Fresh W S c/\b≠c:=by
 refine⟨⟨h.1,fun k d e=>h.2 k d ?_⟩,h.2 i b (by simp[putL])⟩
 unfold putL
 by_cases q:k=i
 ·subst q;rw[hi]at e;cases e
 ·rw[if_neg q];exact e
theorem Has.lt{W:World}{sp:Nat->Option (Obj × (Nat->Value))}{S:Nat->Option Nat}{w:World}(h:Has W sp S w){i b:Nat}(e:S i=some b):b<w.heap.size:=by
 obtain⟨_,o,mk,_,q⟩:=h.2 i b e
 exact lt_of_block q
theorem Has.lay{W:World}{sp:Nat->Option (Obj × (Nat->Value))}{S:Nat->Option Nat}{w w1:World}(h:Has W sp S w){i b:Nat}{o:Obj}{mk:Nat->Value}(e:sp i=some (o,mk))(a:Ab w w1)(hb:w.heap.size<=b)(ho:w1.heap[b]? =some o):Has W sp (putL S i b) w1:=
 ⟨h.1.trans a,fun k c q=>by
  unfold putL at q
  by_cases z:k=i
  ·subst z
   rw[if_pos rfl]at q
   injection q with q
   subst q
   exact⟨Nat.le_trans h.1.size hb,o,mk,e,ho⟩
  ·rw[if_neg z]at q
   obtain⟨h1,o',mk',h2,h3⟩:=h.2 k c q
   exact⟨h1,o',mk',h2,Ab.heap a h3⟩⟩
theorem Has.freshb{W:World}{sp:Nat->Option (Obj × (Nat->Value))}{S:Nat->Option Nat}{w:World}(h:Has W sp S w){b:Nat}(hb:w.heap.size<=b):Fresh W S b:=
 ⟨Nat.le_trans h.1.size hb,fun i c e=>by have:=h.lt e;omega⟩
section
variable {P:Program} {ops:Array Oper} {md:Region.Mode} {W:World} {sp:Nat->Option (Obj × (Nat->Value))}
def YF(P:Program)(ops:Array Oper)(W:World)(o:Oper)(v:Value)(a:Act):Prop:=
 (Region.wanted o (yielded ops a.tmps)=true/\ ∀w,Ab W w->(execOp a.eval o).run P w=.ok (.value v) w)\/(Region.wanted o (yielded ops a.tmps)=false/\v=undef)
def LayR(P:Program)(w:World)(ob:Obj)(mk:Nat->Value):Result Next->Prop
 | .ok (.value u) w1=> ∃b,u=mk b/\Ab w w1/\w.heap.size<=b/\w1.heap[b]? =some ob
 | .ok (.enter f args) w1=>w1=w/\Calls P f args w (fun e w2=> ∃b,e=.returned (mk b)/\Ab w w2/\w.heap.size<=b/\w2.heap[b]? =some ob)
 | _=>False
def LF(P:Program)(ops:Array Oper)(W:World)(o:Oper)(ob:Obj)(mk:Nat->Value)(a:Act):Prop:=
 Region.wanted o (yielded ops a.tmps)=true/\ ∀w,Ab W w->LayR P w ob mk ((execOp a.eval o).run P w)
theorem YF.same{o:Oper}{v:Value}{a a':Act}(h:YF P ops W o v a)(he:execOp a'.eval o=execOp a.eval o)(hw:Region.wanted o (yielded ops a'.tmps)=Region.wanted o (yielded ops a.tmps)):YF P ops W o v a':=by
 unfold YF at*
 rw[he,hw]
 exact h
theorem LF.same{o:Oper}{ob:Obj}{mk:Nat->Value}{a a':Act}(h:LF P ops W o ob mk a)(he:execOp a'.eval o=execOp a.eval o)(hw:Region.wanted o (yielded ops a'.tmps)=Region.wanted o (yielded ops a.tmps)):LF P ops W o ob mk a':=by
 unfold LF at*
 rw[he,hw]
 exact h
theorem YF.one{o:Oper}{v u:Value}{a:Act}(h:YF P ops W o v a)(k:YF P ops W o u a):v=u:=by
 rcases h with⟨w1,h⟩ | ⟨w1,rfl⟩
 ·rcases k with⟨_,k⟩ | ⟨w2,_⟩
  ·have:=(h W (Ab.refl W)).symm.trans (k W (Ab.refl W))
   injection this with e
   injection e
  ·rw[w1]at w2;cases w2
 ·rcases k with⟨w2,_⟩ | ⟨_,rfl⟩
  ·rw[w1]at w2;cases w2
  ·rfl
def fOp(P:Program)(ops:Array Oper)(W:World)(sp:Nat->Option (Obj × (Nat->Value)))(i:Nat)(K:Act->(Nat->Option Nat)->Prop)(a:Act)(S:Nat->Option Nat):Prop:=
 match ops[i]? with
 | none=>K a S
 | some o=>
  match sp i with
  | none=> ∃v,YF P ops W o v a/\K (a.put o.dst v) S
  | some (ob,mk)=>LF P ops W o ob mk a/\ ∀b,Fresh W S b->K (a.put o.dst (mk b)) (putL S i b)
theorem kD{i:Nat}{K K':Act->(Nat->Option Nat)->Prop}{a:Act}{S:Nat->Option Nat}(h: ∀a S,K a S->K' a S)(hh:fOp P ops W sp i K a S):fOp P ops W sp i K' a S:=by
 unfold fOp at*
 cases ho:ops[i]? with
 | none=>simp only[ho]at hh ⊢;exact h _ _ hh
 | some o=>
  cases hs:sp i with
  | none=>
   simp only[ho,hs]at hh ⊢
   obtain⟨v,h1,h2⟩:=hh
   exact⟨v,h1,h _ _ h2⟩
  | some x=>
   simp only[ho,hs]at hh ⊢
   exact⟨hh.1,fun b hb=>h _ _ (hh.2 b hb)⟩
def wpAnyF(P:Program)(md:Region.Mode)(ops:Array Oper)(W:World)(sp:Nat->Option (Obj × (Nat->Value)))(Q:Act->(Nat->Option Nat)->Prop):Nat->Array Bool->Act->(Nat->Option Nat)->Prop
 | 0,listed,a,S=>Region.ready md ops listed=[]/\Q a S
 | fuel+1,listed,a,S=>
  (Region.ready md ops listed=[]->Q a S)/\
  ∀i ∈ Region.ready md ops listed,fOp P ops W sp i (wpAnyF P md ops W sp Q fuel (listed.setIfInBounds i true)) a S
def Tidy(W:World)(listed:Array Bool)(S:Nat->Option Nat):Prop:=(∀k,listed.getD k true=false->S k=none)/\ ∃n,W.heap.size<=n/\ ∀i c,S i=some c->c<n
theorem Tidy.fresh{listed:Array Bool}{S:Nat->Option Nat}(h:Tidy W listed S): ∃b,Fresh W S b:=by
 obtain⟨_,n,h1,h2⟩:=h
 exact⟨n,h1,fun i c e=>by have:=h2 i c e;omega⟩
theorem Tidy.set{listed:Array Bool}{S:Nat->Option Nat}(h:Tidy W listed S)(j:Nat):Tidy W (listed.setIfInBounds j true) S:=
 ⟨fun k hk=>by
  by_cases e:j=k
  ·subst e
   by_cases l:j<listed.size
   ·simp[l]at hk
   ·exact h.1 j (by rw[Array.setIfInBounds_eq_of_size_le (by omega)]at hk;exact hk)
  ·rw[getD_set_ne true e]at hk;exact h.1 k hk,h.2⟩
theorem Tidy.lay{listed:Array Bool}{S:Nat->Option Nat}(h:Tidy W listed S){j:Nat}(hj:listed.getD j true=false)(b:Nat):Tidy W (listed.setIfInBounds j true) (putL S j b):=by
 obtain⟨h1,n,h2,h3⟩:=h
 refine⟨fun k hk=> ?_,max n (b+1),by omega,fun i c e=> ?_⟩
 ·by_cases e:j=k
  ·subst e
   by_cases l:j<listed.size
   ·simp[l]at hk
   ·simp[l]at hj
  ·rw[getD_set_ne true e]at hk
   unfold putL
   rw[if_neg (Ne.symm e)]
   exact h1 k hk
 ·unfold putL at e
  by_cases q:i=j
  ·rw[if_pos q]at e;injection e with e;omega
  ·rw[if_neg q]at e;have:=h3 i c e;omega
theorem sD{j:Nat}{oi oj:Oper}{v:Value}(hj:ops[j]? =some oj)(hap:oi.apart ops oj=true)(hsi: ∀cs b,oi.op≠ .select cs b)(hsj: ∀cs b,oj.op≠ .select cs b)
  {K:Act->(Nat->Option Nat)->Prop} {a:Act} {S:Nat->Option Nat} (hy:YF P ops W oi v a) (h:fOp P ops W sp j K (a.put oi.dst v) S):
  fOp P ops W sp j (fun a' S'=>YF P ops W oi v a'/\K (a'.put oi.dst v) S') a S:=by
 obtain⟨h1,h2,h3⟩:=Oper.apart_spec hap
 have keep: ∀u,YF P ops W oi v (a.put oj.dst u):=fun u=>hy.same (execOp_put oi hsi a oj.dst u h3) (wanted_put oi a oj.dst u h3)
 unfold fOp at*
 cases hs:sp j with
 | none=>
  simp only[hj,hs]at h ⊢
  obtain⟨u,hu,hk⟩:=h
  exact⟨u,hu.same (execOp_put oj hsj a oi.dst v h1).symm (wanted_put oj a oi.dst v h1).symm,keep u,by rw[<- Act.put_comm a v u h2];exact hk⟩
 | some x=>
  simp only[hj,hs]at h ⊢
  exact⟨h.1.same (execOp_put oj hsj a oi.dst v h1).symm (wanted_put oj a oi.dst v h1).symm,fun b hb=>⟨keep _,by rw[<- Act.put_comm a v _ h2];exact h.2 b hb⟩⟩
theorem sE{i j:Nat}{oi oj:Oper}{ob:Obj}{mk:Nat->Value}(hij:i≠j)(hj:ops[j]? =some oj)(hap:oi.apart ops oj=true)(hsi: ∀cs b,oi.op≠ .select cs b)(hsj: ∀cs b,oj.op≠ .select cs b)
  {K:Act->(Nat->Option Nat)->Prop} {a:Act} {S:Nat->Option Nat} (hf: ∃b,Fresh W S b) (hSj:S j=none) (hy:LF P ops W oi ob mk a) (h: ∀b,Fresh W S b->fOp P ops W sp j K (a.put oi.dst (mk b)) (putL S i b)):
  fOp P ops W sp j (fun a' S'=>LF P ops W oi ob mk a'/\ ∀b,Fresh W S' b->K (a'.put oi.dst (mk b)) (putL S' i b)) a S:=by
 obtain⟨h1,h2,h3⟩:=Oper.apart_spec hap
 have keep: ∀u,LF P ops W oi ob mk (a.put oj.dst u):=fun u=>hy.same (execOp_put oi hsi a oj.dst u h3) (wanted_put oi a oj.dst u h3)
 obtain⟨b0,hb0⟩:=hf
 unfold fOp at*
 cases hs:sp j with
 | none=>
  simp only[hj,hs]at h ⊢
  obtain⟨u,hu,_⟩:=h b0 hb0
  have hu':YF P ops W oj u a:=hu.same (execOp_put oj hsj a oi.dst _ h1).symm (wanted_put oj a oi.dst _ h1).symm
  refine⟨u,hu',keep u,fun b hb=> ?_⟩
  obtain⟨u2,hu2,hk⟩:=h b hb
  have e:u2=u:=YF.one (hu2.same (execOp_put oj hsj a oi.dst _ h1).symm (wanted_put oj a oi.dst _ h1).symm) hu'
  subst e
  rw[<- Act.put_comm a (mk b) u2 h2]
  exact hk
 | some x=>
  simp only[hj,hs]at h ⊢
  refine⟨(h b0 hb0).1.same (execOp_put oj hsj a oi.dst _ h1).symm (wanted_put oj a oi.dst _ h1).symm,fun c hc=>⟨keep _,fun b hb=> ?_⟩⟩
  obtain⟨q1,q2⟩:=hb.of_put hSj
  have:=(h b q1).2 c (hc.put (Ne.symm q2))
  rw[oI S b c hij,Act.put_comm a (mk b) _ h2]at this
  exact this
theorem firstY{Q:Act->(Nat->Option Nat)->Prop}{i:Nat}{oi:Oper}{v:Value}(hi:ops[i]? =some oi)(hsp:sp i=none)(hsel: ∀(j:Nat) (o:Oper) cs b,ops[j]? =some o->o.op≠ .select cs b):
  ∀(fuel:Nat) (listed:Array Bool) (a:Act) (S:Nat->Option Nat),
   (∀j oj,ops[j]? =some oj->j≠i->listed.getD j true=false->(∀e ∈ oj.after,Region.binds md e=true->e.on≠i)->oi.apart ops oj=true)->
   i ∈ Region.ready md ops listed->YF P ops W oi v a->
   wpAnyF P md ops W sp Q fuel (listed.setIfInBounds i true) (a.put oi.dst v) S->wpAnyF P md ops W sp Q (fuel+1) listed a S:=by
 have go: ∀(K:Act->(Nat->Option Nat)->Prop) (a:Act) (S:Nat->Option Nat),YF P ops W oi v a->K (a.put oi.dst v) S->fOp P ops W sp i K a S:=fun K a S hy h=>by
  unfold fOp;simp only[hi,hsp];exact⟨v,hy,h⟩
 intro fuel
 induction fuel with
 | zero=>
  intro listed a S _ hr hy H
  refine⟨fun h=>(by rw[h]at hr;cases hr),fun j hj=> ?_⟩
  by_cases hji:j=i
  ·subst hji;exact go _ _ _ hy H
  ·have:=ready_mono hj hji
   rw[H.1]at this
   cases this
 | succ fuel ih=>
  intro listed a S hfree hr hy H
  refine⟨fun h=>(by rw[h]at hr;cases hr),fun j hj=> ?_⟩
  by_cases hji:j=i
  ·subst hji;exact go _ _ _ hy H
  ·have h1:=H.2 j (ready_mono hj hji)
   obtain⟨hjun,oj,hoj,hall⟩:=mem_ready.1 hj
   have hnot: ∀e ∈ oj.after,Region.binds md e=true->e.on≠i:=fun e he hb heq=>by
    have h1:=hall e he hb
    have h0:=(mem_ready.1 hr).1
    rw[heq]at h1
    rcases Nat.lt_or_ge i listed.size with h' | h'
    ·simp[h']at h0 h1;rw[h0]at h1;cases h1
    ·simp[Array.getElem?_eq_none h']at h1
   have h2:=sD hoj (hfree j oj hoj hji hjun hnot) (fun cs b=>hsel i oi cs b hi) (fun cs b=>hsel j oj cs b hoj) hy h1
   have hfree': ∀k ok,ops[k]? =some ok->k≠i->(listed.setIfInBounds j true).getD k true=false->
     (∀e ∈ ok.after,Region.binds md e=true->e.on≠i)->oi.apart ops ok=true:=fun k ok hk hki hun hno=>by
    refine hfree k ok hk hki ?_ hno
    by_cases hjk:j=k
    ·subst hjk;exact hjun
    ·rw[getD_set_ne true hjk]at hun;exact hun
   refine kD (fun a' S' h3=>ih (listed.setIfInBounds j true) a' S' hfree' (ready_mono hr (Ne.symm hji)) h3.1 ?_) h2
   rw[Array.setIfInBounds_comm _ _ hji]
   exact h3.2
theorem firstL{Q:Act->(Nat->Option Nat)->Prop}{i:Nat}{oi:Oper}{ob:Obj}{mk:Nat->Value}(hi:ops[i]? =some oi)(hsp:sp i=some (ob,mk))(hsel: ∀(j:Nat) (o:Oper) cs b,ops[j]? =some o->o.op≠ .select cs b):
  ∀(fuel:Nat) (listed:Array Bool) (a:Act) (S:Nat->Option Nat),Tidy W listed S->
   (∀j oj,ops[j]? =some oj->j≠i->listed.getD j true=false->(∀e ∈ oj.after,Region.binds md e=true->e.on≠i)->oi.apart ops oj=true)->
   i ∈ Region.ready md ops listed->LF P ops W oi ob mk a->
   (∀b,Fresh W S b->wpAnyF P md ops W sp Q fuel (listed.setIfInBounds i true) (a.put oi.dst (mk b)) (putL S i b))->wpAnyF P md ops W sp Q (fuel+1) listed a S:=by
 have go: ∀(K:Act->(Nat->Option Nat)->Prop) (a:Act) (S:Nat->Option Nat),LF P ops W oi ob mk a->(∀b,Fresh W S b->K (a.put oi.dst (mk b)) (putL S i b))->fOp P ops W sp i K a S:=fun K a S hy h=>by
  unfold fOp;simp only[hi,hsp];exact⟨hy,h⟩
 intro fuel
 induction fuel with
 | zero=>
  intro listed a S ty _ hr hy H
  refine⟨fun h=>(by rw[h]at hr;cases hr),fun j hj=> ?_⟩
  by_cases hji:j=i
  ·subst hji;exact go _ _ _ hy H
  ·obtain⟨b,hb⟩:=ty.fresh
   have:=ready_mono hj hji
   rw[(H b hb).1]at this
   cases this
 | succ fuel ih=>
  intro listed a S ty hfree hr hy H
  refine⟨fun h=>(by rw[h]at hr;cases hr),fun j hj=> ?_⟩
  by_cases hji:j=i
  ·subst hji;exact go _ _ _ hy H
  ·have h1:=fun b hb=>(H b hb).2 j (ready_mono hj hji)
   obtain⟨hjun,oj,hoj,hall⟩:=mem_ready.1 hj
   have hnot: ∀e ∈ oj.after,Region.binds md e=true->e.on≠i:=fun e he hb heq=>by
    have h1:=hall e he hb
    have h0:=(mem_ready.1 hr).1
    rw[heq]at h1
    rcases Nat.lt_or_ge i listed.size with h' | h'
    ·simp[h']at h0 h1;rw[h0]at h1;cases h1
    ·simp[Array.getElem?_eq_none h']at h1
   have hap:=hfree j oj hoj hji hjun hnot
   have hfree': ∀k ok,ops[k]? =some ok->k≠i->(listed.setIfInBounds j true).getD k true=false->
     (∀e ∈ ok.after,Region.binds md e=true->e.on≠i)->oi.apart ops ok=true:=fun k ok hk hki hun hno=>by
    refine hfree k ok hk hki ?_ hno
    by_cases hjk:j=k
    ·subst hjk;exact hjun
    ·rw[getD_set_ne true hjk]at hun;exact hun
   have h2:=sE (Ne.symm hji) hoj hap (fun cs b=>hsel i oi cs b hi) (fun cs b=>hsel j oj cs b hoj) ty.fresh (ty.1 j hjun) hy h1
   -- what j leaves is tidy
   have h4:fOp P ops W sp j (fun a' S'=>Tidy W (listed.setIfInBounds j true) S'/\LF P ops W oi ob mk a'/\ ∀b,Fresh W S' b->wpAnyF P md ops W sp Q fuel ((listed.setIfInBounds i true).setIfInBounds j true) (a'.put oi.dst (mk b)) (putL S' i b)) a S:=by
    unfold fOp at h2 ⊢
    cases hs:sp j with
    | none=>
     simp only[hoj,hs]at h2 ⊢
     obtain⟨u,hu,hk⟩:=h2
     exact⟨u,hu,ty.set j,hk⟩
    | some x=>
     simp only[hoj,hs]at h2 ⊢
     exact⟨h2.1,fun b hb=>⟨ty.lay hjun b,h2.2 b hb⟩⟩
   refine kD (fun a' S' h3=>ih (listed.setIfInBounds j true) a' S' h3.1 hfree' (ready_mono hr (Ne.symm hji)) h3.2.1 (fun b hb=> ?_)) h4
   rw[Array.setIfInBounds_comm _ _ hji]
   exact h3.2.2 b hb
def wpFree(P:Program)(ops:Array Oper)(W:World)(sp:Nat->Option (Obj × (Nat->Value)))(Q:Act->(Nat->Option Nat)->Prop):List Oper->Nat->Act->(Nat->Option Nat)->Prop
 | [],_,a,S=>Q a S
 | o :: rest,k,a,S=>
  match sp k with
  | none=> ∃v,YF P ops W o v a/\wpFree P ops W sp Q rest (k+1) (a.put o.dst v) S
  | some (ob,mk)=>LF P ops W o ob mk a/\ ∀b,Fresh W S b->wpFree P ops W sp Q rest (k+1) (a.put o.dst (mk b)) (putL S k b)
theorem eG{Q:Act->(Nat->Option Nat)->Prop}(hs:Region.noSelect ops=true): ∀(l:List Oper) (k:Nat) (listed:Array Bool) (a:Act) (S:Nat->Option Nat),(∀j,l[j]? =ops[k+j]?)->Tidy W listed S->
  Region.lexFrom md ops l.length k listed=true->wpFree P ops W sp Q l k a S->wpAnyF P md ops W sp Q l.length listed a S
 | [],_,_,_,_,_,_,hB,h=>⟨by simpa [Region.lexFrom]using hB,h⟩
 | o :: l,k,listed,a,S,hl,ty,hB,h=>by
  have h0:ops[k]? =some o:=by simpa using(hl 0).symm
  simp only[List.length_cons,Region.lexFrom,Bool.and_eq_true]at hB
  obtain⟨⟨hr,hf⟩,hB'⟩:=hB
  have hr':k ∈ Region.ready md ops listed:=by simpa using hr
  have hl': ∀j,l[j]? =ops[k+1+j]? :=fun j=>by have:=hl (j+1);simpa [Nat.add_assoc,Nat.add_comm 1 j]using this
  cases hsp:sp k with
  | none=>
   simp only[wpFree,hsp]at h
   obtain⟨v,hy,hK⟩:=h
   exact firstY h0 hsp (Region.noSelect_spec hs) l.length listed a S (Region.free_spec h0 hf) hr' hy
    (eG hs l (k+1) _ _ _ hl' (ty.set k) hB' hK)
  | some x=>
   obtain⟨ob,mk⟩:=x
   simp only[wpFree,hsp]at h
   exact firstL h0 hsp (Region.noSelect_spec hs) l.length listed a S ty (Region.free_spec h0 hf) hr' h.1
    (fun b hb=>eG hs l (k+1) _ _ _ hl' (ty.lay (mem_ready.1 hr').1 b) hB' (h.2 b hb))
theorem kE{i:Nat}{a:Act}{S:Nat->Option Nat}{K:Act->(Nat->Option Nat)->Prop}{K':Act->World->Prop}{Q':Exit->Act->World->Prop}{w:World}(hC:Has W sp S w)(h: ∀a S w',Has W sp S w'->K a S->K' a w')(hh:fOp P ops W sp i K a S):wpOp P ops Q' i K' a w:=by
 unfold fOp at hh
 unfold wpOp
 cases ho:ops[i]? with
 | none=>simp only[ho]at hh ⊢;exact h _ _ _ hC hh
 | some o=>
  cases hs:sp i with
  | none=>
   simp only[ho,hs]at hh ⊢
   obtain⟨v,hy,hk⟩:=hh
   rcases hy with⟨w1,hv⟩ | ⟨w1,rfl⟩
   ·rw[if_pos w1]
    refine .inl ?_
    unfold Oper.wp
    rw[hv w hC.1]
    exact h _ _ _ hC hk
   ·rw[if_neg (by rw[w1];exact Bool.false_ne_true)]
    exact h _ _ _ hC hk
  | some x=>
   obtain⟨ob,mk⟩:=x
   simp only[ho,hs]at hh ⊢
   obtain⟨⟨w1,hv⟩,hk⟩:=hh
   rw[if_pos w1]
   refine .inl ?_
   unfold Oper.wp
   have q:=hv w hC.1
   generalize(execOp a.eval o).run P w=r at q
   match r,q with
   | .ok (.value u) w2,⟨b,hu,ha,hb,ho2⟩=>
    subst hu
    exact h _ _ _ (hC.lay hs ha hb ho2) (hk b (hC.freshb hb))
   | .ok (.enter f args) w2,⟨e,hc⟩=>
    subst e
    refine Calls.mono hc ?_
    rintro e2 w3 ⟨b,rfl,ha,hb,ho2⟩
    exact h _ _ _ (hC.lay hs ha hb ho2) (hk b (hC.freshb hb))
end
theorem sF{P:Program}{md:Region.Mode}{ops hd:Array Oper}{W:World}{sp:Nat->Option (Obj × (Nat->Value))}{n:Nat}(hhd: ∀i,i<n->hd[i]? =ops[i]?)(hb:backB md ops n=true){i:Nat}(hi:i<n){K:Act->(Nat->Option Nat)->Prop}{a:Act}{S:Nat->Option Nat}(h:fOp P hd W sp i K a S):fOp P ops W sp i K a S:=by
 unfold fOp at*
 rw[hhd i hi]at h
 cases ho:ops[i]? with
 | none=>rw[ho]at h;exact h
 | some o=>
  have e:Region.wanted o (yielded hd a.tmps)=Region.wanted o (yielded ops a.tmps):=by
   unfold Region.wanted
   cases hg:o.guard with
   | none=>rfl
   | some jb=>
    obtain⟨j,b⟩:=jb
    have lt:=(iZ hb hi ho).2 j b hg
    show(yielded hd a.tmps j==some b)=(yielded ops a.tmps j==some b)
    unfold yielded
    rw[hhd j lt]
  simp only[ho]at h ⊢
  cases hs:sp i with
  | none=>
   simp only[hs]at h ⊢
   unfold YF at*
   rw[e]at h
   exact h
  | some x=>
   simp only[hs]at h ⊢
   unfold LF at*
   rw[e]at h
   exact h
theorem gW{P:Program}{md:Region.Mode}{ops hd:Array Oper}{W:World}{sp:Nat->Option (Obj × (Nat->Value))}{n:Nat}{g:Nat}{Q1:Act->(Nat->Option Nat)->Prop}{Q':Exit->Act->World->Prop}(hhd: ∀i,i<n->hd[i]? =ops[i]?)(hsz:hd.size=n)(hn:n<ops.size)(hb:backB md ops n=true)(hs:Region.sinkB md ops n=true)(hc:Region.chainB md ops n=true)
  (hL: ∀a S w,Has W sp S w->Q1 a S->wpAny P md ops Q' g (finA ops.size n) a w):
  ∀(fuel:Nat) (listed lh:Array Bool) (a:Act) (S:Nat->Option Nat) (w:World),Has W sp S w->HeadInv md ops n listed->lh.size=n->(∀i,i<n->lh.getD i true=listed.getD i true)->
   wpAnyF P md hd W sp Q1 fuel lh a S->wpAny P md ops Q' (fuel+g) listed a w:=by
 intro fuel
 induction fuel with
 | zero=>
  intro listed lh a S w hC inv hl he h
  have hls:n<=listed.size:=by rw[inv.size];omega
  rcases eF (by omega) hb hls with all | ⟨i,hi,hr⟩
  ·rw[Nat.zero_add,nZ hn inv all]
   exact hL a S w hC h.2
  ·have:=(fL hhd hb hl hls he hi).2 hr
   rw[h.1]at this
   cases this
 | succ fuel ih=>
  intro listed lh a S w hC inv hl he h
  have hls:n<=listed.size:=by rw[inv.size];omega
  rcases eF (by omega) hb hls with all | ⟨i0,hi0,hr0⟩
  ·have no:Region.ready md hd lh=[]:=by
    rw[List.eq_nil_iff_forall_not_mem]
    intro i hi
    obtain⟨u,o,ho,_⟩:=mem_ready.1 hi
    have lt:i<n:=by rw[<- hsz];exact(Array.getElem?_eq_some_iff.1 ho).1
    rw[he i lt,all i lt]at u
    cases u
   rw[Nat.add_comm (fuel+1) g,nZ hn inv all]
   exact jH g (fuel+1) _ a w (hL a S w hC (h.1 no))
  ·rw[show fuel+1+g=(fuel+g)+1 by omega]
   refine⟨fun h0=>(by rw[h0]at hr0;cases hr0),fun i hi=> ?_⟩
   have lt:i<n:=by
    by_cases c:i<n
    ·exact c
    ·exact absurd hi (tail_waits hs hc hn inv _ i0 rfl hi0 (mem_ready.1 hr0).1 i (by omega))
   have hq:=sF hhd hb lt (h.2 i ((fL hhd hb hl hls he lt).2 hi))
   refine kE hC (fun a' S' w' hC' h'=>ih _ _ a' S' w' hC' (inv.set hi lt) (by simp[hl]) (fun j hj=> ?_) h') hq
   by_cases e:i=j
   ·subst e
    simp[hl,lt,show i<listed.size by omega]
   ·rw[getD_set_ne true e,getD_set_ne true e,he j hj]
theorem kF{P:Program}{id:Nat}{Q:Exit->Act->World->Prop}{a:Act}{w:World}{l:List Oper}(n:Nat)(sp:Nat->Option (Obj × (Nat->Value)))(hm:P.follows .mixedOrders=true)(hB:Region.lexB .any (l.take n).toArray=true)(hT:tailB l.toArray n=true)
  (h:wpFree P (l.take n).toArray w.drew sp (fun a' S=> ∀w',Has w.drew sp S w'->wpList P l.toArray Q (l.drop n) a' w') (l.take n) 0 a (fun _=>none)):(Code.region id l.toArray true).wp P Q a w:=by
 simp only[tailB,Bool.and_eq_true,decide_eq_true_eq]at hT
 obtain⟨⟨⟨⟨hn,hb⟩,hs⟩,hc⟩,hq⟩:=hT
 have hn':n<l.length:=by simpa using hn
 have htl:(l.take n).toArray.size=n:=by simp;omega
 have hdl:(l.drop n).length=l.toArray.size - n:=by simp
 refine wp_region_any hm ?_
 simp only[Region.lexB,Bool.and_eq_true]at hB
 have H:=eG (P:=P) (W:=w.drew) (sp:=sp) (md:=.any) hB.1 (l.take n) 0 (Array.replicate (l.take n).toArray.size false) a (fun _=>none) (by simp) ⟨fun _ _=>rfl,w.drew.heap.size,Nat.le_refl _,fun i c e=>by cases e⟩ (by simpa using hB.2) h
 have inv0:HeadInv .any l.toArray n (Array.replicate l.toArray.size false):=
  ⟨by simp,fun j oj _ hl=>(by rw[getD_replicate_false]at hl;cases hl),fun t _ ht=>getD_in (by simpa using ht) (getD_replicate_false _ _)⟩
 have:=gW (P:=P) (Q':=Q) (g:=l.toArray.size - n) (hd:=(l.take n).toArray) (ops:=l.toArray) (fun i hi=>by simp[hi]) htl hn hb hs hc
  (fun a' S' w' hC' h'=>by
   have:=wpAny_of_seq (P:=P) (md:=.any) (ops:=l.toArray) (Q':=Q) (l.drop n) n (finA l.toArray.size n) a' w' (fun j=>by simp) (by rw[hdl];exact hq) (h' w' hC')
   rwa [hdl]at this)
  (l.take n).length _ _ a (fun _=>none) w.drew ⟨Ab.refl _,fun i b e=>by cases e⟩ inv0 (by simpa using htl) (fun i hi=>by
   rw[getD_in (listed:=Array.replicate l.toArray.size false) (by simp;omega) (getD_replicate_false _ _)]
   exact getD_in (by rw[Array.size_replicate];omega) (getD_replicate_false _ _)) H
 have e:(l.take n).length+(l.toArray.size - n)=l.toArray.size:=by simp;omega
 rw[e]at this
 exact this
section
variable {P:Program} {ops:Array Oper} {W:World} {sp:Nat->Option (Obj × (Nat->Value))} {Q:Act->(Nat->Option Nat)->Prop} {o:Oper} {rest:List Oper} {k:Nat} {a:Act} {S:Nat->Option Nat}
theorem dF{U:Type}{F:U->World}(HF:Hid (∀w',Ab W w'-> ∃u,w'=F u))(hs:sp k=none)(hp:plainB o.op=true)(h:wpQuiet P ops (fun w'=> ∃u,w'=F u) (fun a'=>wpFree P ops W sp Q rest (k+1) a' S) [o] a):wpFree P ops W sp Q (o :: rest) k a S:=by
 simp only[wpFree,hs]
 simp only[wpQuiet]at h
 by_cases c:Region.wanted o (yielded ops a.tmps)=true
 ·rw[if_pos c]at h
  obtain⟨v,h1,h2⟩:=h
  refine⟨v,.inl ⟨c,fun w hw=> ?_⟩,h2⟩
  have q:=h1 w (HF.out w hw)
  unfold Oper.quietAt at q
  cases e:(execOp a.eval o).run P w with
  | ok n w'=>
   obtain⟨x,rfl⟩:=pC hp e
   rw[e]at q
   obtain⟨q1,q2⟩:=q
   rw[q1,q2]
  | halt x w'=>rw[e]at q;exact absurd q (by simp[Oper.quietUpon])
 ·rw[if_neg c]at h
  exact⟨undef,.inr ⟨by simpa using c,rfl⟩,h⟩
theorem dP{ob:Obj}{mk:Nat->Value}(hs:sp k=some (ob,mk))(hw:Region.wanted o (yielded ops a.tmps)=true)(hr: ∀w,Ab W w->LayR P w ob mk ((execOp a.eval o).run P w))
  (h: ∀b,Fresh W S b->wpFree P ops W sp Q rest (k+1) (a.put o.dst (mk b)) (putL S k b)):wpFree P ops W sp Q (o :: rest) k a S:=by
 simp only[wpFree,hs]
 exact⟨⟨hw,hr⟩,h⟩
theorem jK{ob:Obj}{mk:Nat->Value}(h: ∀w,Ab W w->(execOp a.eval o).run P w=.ok (.value (mk w.heap.size)) (w.alloc ob)): ∀w,Ab W w->LayR P w ob mk ((execOp a.eval o).run P w):=fun w hw=>by
 rw[h w hw]
 exact⟨w.heap.size,rfl,bl1 _ _,Nat.le_refl _,heap_alloc_new _ _⟩
theorem lS(h:Q a S):wpFree P ops W sp Q [] k a S:=h
end
theorem Has.at{W:World}{sp:Nat->Option (Obj × (Nat->Value))}{S:Nat->Option Nat}{w:World}(h:Has W sp S w){i b:Nat}{ob:Obj}{mk:Nat->Value}(e:S i=some b)(s:sp i=some (ob,mk)):w.heap[b]? =some ob/\W.heap.size<=b:=by
 obtain⟨h1,o,m,h2,h3⟩:=h.2 i b e
 rw[s]at h2
 injection h2 with h2
 injection h2 with h2
 subst h2
 exact⟨h3,h1⟩
end Cf
end
section
open Go.RowKit Tf Cu Go.Deep
attribute [local go_sem] aJ aK aN aO aP aQ aV aD
namespace Ss
theorem E8{P:Program}{a:Act}{o:Oper}{x:Operand}{f:FuncId}{fn:Func}{ats:Array TypeId}{v:Value}(ho:o.op=.call {callee:=.value (.func f),args:= #[x],argTypes:=ats})(hx:a.eval x=v)(hf:P.funcs[f]? =some fn)(hn:(fn.name== "runtime.NumGoroutine")=false)(hb:fn.body.isNone=false)(w:World):(execOp a.eval o).run P w=.ok (.enter f #[v]) w:=by
 have h1:fn.name≠ "runtime.NumGoroutine" :=by simpa using hn
 have ef:a.eval (.func f)=.func (.func f) #[] #[]:=rfl
 have e:execOp a.eval o=callFunc f #[v]:=by
  unfold execOp
  simp[ho,resolve,Deferred.ofValue,invoke,ef,hx]
 obtain⟨c,hc⟩: ∃c,fn.body=some c:=by
  cases h:fn.body with
  | none=>simp[h]at hb
  | some c=>exact⟨c,rfl⟩
 rw[e]
 simp[callFunc,hf,h1,hc]
end Ss
end
section
open Go.RowKit Tf Cu Go.Deep
attribute [local go_sem] aJ aK aN aO aP aQ aV aD
namespace Ss
def SeaIn(M g:Nat)(p1:Option Addr)(c1:Nat)(p2:Option Addr)(c2:Nat)(p3:Option Addr)(c3:Nat)(p4:Option Addr)(c4:Nat)(n1 n2 n3 n4:Nat)(A:Nat->Nat)(B C:Nat->Int)(D:Nat->Nat)(sk st:Int)(v:World):Prop:=
 v.heap[g]? =some (.cells #[.slice p1 n1 c1,.slice p2 n2 c2,.slice p3 n3 c3,.slice p4 n4 c4,.int .i64 sk,.int .i64 st] 48)/\(IsFl v p1 n1 A/\Sh.IsI v p2 n2 B/\Sh.IsI v p3 n3 C/\IsFl v p4 n4 D)/\(OV 35 M (.slice p1 n1 c1) (((List.range n1).map A).map (Value.float .f64)) v/\OV 2 M (.slice p2 n2 c2) (((List.range n2).map B).map (Value.int .i64)) v/\OV 2 M (.slice p3 n3 c3) (((List.range n3).map C).map (Value.int .i64)) v/\OV 35 M (.slice p4 n4 c4) (((List.range n4).map D).map (Value.float .f64)) v)/\(∀k,((Value.slice p1 n1 c1).ownBlock=some k\/(Value.slice p2 n2 c2).ownBlock=some k\/(Value.slice p3 n3 c3).ownBlock=some k\/(Value.slice p4 n4 c4).ownBlock=some k)->k<g)/\(Dj (.slice p1 n1 c1) (.slice p2 n2 c2)/\Dj (.slice p1 n1 c1) (.slice p3 n3 c3)/\Dj (.slice p1 n1 c1) (.slice p4 n4 c4)/\Dj (.slice p2 n2 c2) (.slice p3 n3 c3)/\Dj (.slice p2 n2 c2) (.slice p4 n4 c4)/\Dj (.slice p3 n3 c3) (.slice p4 n4 c4))
def Bnd(n1 n2 n3 n4:Nat)(A:Nat->Nat)(B C:Nat->Int)(D:Nat->Nat):Prop:=(∀i,i<n1->A i<18446744073709551616)/\(∀i,i<n2->Sh.W64 (B i))/\(∀i,i<n3->Sh.W64 (C i))/\(∀i,i<n4->D i<18446744073709551616)
theorem sea_new{M:Nat}{vv:Value}{n1 n2 n3 n4:Nat}{A:Nat->Nat}{B C:Nat->Int}{D:Nat->Nat}{sk st:Int}{u:World}(h:OwnS M vv n1 n2 n3 n4 A B C D sk st u)(hb:Bnd n1 n2 n3 n4 A B C D):
  ∃p1 c1 p2 c2 p3 c3 p4 c4,vv=.agg #[.slice p1 n1 c1,.slice p2 n2 c2,.slice p3 n3 c3,.slice p4 n4 c4,.int .i64 sk,.int .i64 st]/\SeaIn M u.heap.size p1 c1 p2 c2 p3 c3 p4 c4 n1 n2 n3 n4 A B C D sk st (u.alloc (.cells #[.slice p1 n1 c1,.slice p2 n2 c2,.slice p3 n3 c3,.slice p4 n4 c4,.int .i64 sk,.int .i64 st] 48)):=by
 obtain⟨p1,c1,p2,c2,p3,c3,p4,c4,e,⟨i1,i2,i3,i4⟩,⟨o1,o2,o3,o4⟩,dj⟩:=own_k20 h hb.1 hb.2.1 hb.2.2.1 hb.2.2.2
 have a: ∀o,Ab u (u.alloc o):=fun o=>bl1 _ _
 exact⟨p1,c1,p2,c2,p3,c3,p4,c4,e,heap_alloc_new _ _,⟨i1.below (a _),i2.below (a _),i3.below (a _),i4.below (a _)⟩,⟨o1.to (a _),o2.to (a _),o3.to (a _),o4.to (a _)⟩,fun k q=>by
  rcases q with q | q | q | q
  ·exact(o1.blk q).2
  ·exact(o2.blk q).2
  ·exact(o3.blk q).2
  ·exact(o4.blk q).2,dj⟩
theorem chk_zero{side:Int}{lb lw lt ls:Nat}{B:Nat->Nat}{W T:Nat->Int}{S:Nat->Nat}{sky st:Int}(h1:1<=side/\side<=32)(hl:lb=6*side.toNat*side.toNat/\lw=6*side.toNat*side.toNat/\lt=6*side.toNat*side.toNat/\ls=2*(6*side.toNat*side.toNat))(h:okN (6*side.toNat*side.toNat) B W T S sky st):chk side lb lw lt ls B W T S sky st=(0,0):=by
 unfold chk
 rw[if_pos h1]
 exact chN_zero ⟨hl,h⟩
end Ss
end
end Go.Proofs.YtmhnilnaffjhmaaGreatDoor
