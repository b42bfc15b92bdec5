/-
  Some of the texts of this proof, one behind the other.
-/
import Derived.Deep.Draws
import Derived.Test.YtmhnilnaffjhmaaGreatDoorCeg03
set_option maxRecDepth 100000
set_option maxHeartbeats 400000000
namespace Go.Proofs.YtmhnilnaffjhmaaGreatDoor
open _root_.Go.Proofs.Tryz
section
open Go.RowKit Tf
attribute [local go_sem] aJ aK aN aO aP aQ aV aD
theorem sbB_q{a b:Nat}(hb:b<18446744073709551616):sbB (qB a) (qB b)=sbB a b:=addB_q (qB_lt hb) hb (qB_qB a) (qB_qB b)
theorem Abx.drewN{W w:World}{g n:Nat}{T:TypeId}(h:Abx W g n T w)(k:Nat):Abx W g n T (w.drewN k):=h
theorem W3rows(w:World)(A B C:Obj):(((w.alloc A).alloc B).alloc C).heap[w.heap.size]? =some A/\(((w.alloc A).alloc B).alloc C).heap[w.heap.size+1]? =some B/\(((w.alloc A).alloc B).alloc C).heap[w.heap.size+1+1]? =some C:=by
 refine⟨?_,?_,dH _ _ _ _⟩
 ·rw[Below.heap_alloc _ _ _ (by simp;omega)];exact heap_alloc2_old _ _ _
 ·rw[Below.heap_alloc _ _ _ (by simp)];exact heap_alloc2_new _ _ _
theorem mN(x y z u v t:Nat)(w:World)(hx:x<18446744073709551616)(hy:y<18446744073709551616)(hz:z<18446744073709551616)(hu:u<18446744073709551616)(hv:v<18446744073709551616)(ht:t<18446744073709551616):
  Calls prog 40 #[.agg #[.float .f64 x,.float .f64 y,.float .f64 z],.agg #[.float .f64 u,.float .f64 v,.float .f64 t]] w fun e w'=>e=.returned (.agg #[.float .f64 (sbB x u),.float .f64 (sbB y v),.float .f64 (sbB z t)])/\Below w.heap.size w w':=by
 obtain⟨r1,n1,k1,q1⟩:=mM (P:=prog) (((w.alloc (.cells #[.float .f64 x,.float .f64 y,.float .f64 z] 79)).alloc (.cells #[.float .f64 u,.float .f64 v,.float .f64 t] 79)).alloc (.cells #[.float .f64 0,.float .f64 0,.float .f64 0] 79)) x _ u _ (IsQ.self hx) (IsQ.self hu)
 obtain⟨r2,n2,k2,q2⟩:=mM (P:=prog) ((((w.alloc (.cells #[.float .f64 x,.float .f64 y,.float .f64 z] 79)).alloc (.cells #[.float .f64 u,.float .f64 v,.float .f64 t] 79)).alloc (.cells #[.float .f64 0,.float .f64 0,.float .f64 0] 79)).drewN n1) y _ v _ (IsQ.self hy) (IsQ.self hv)
 obtain⟨r3,n3,k3,q3⟩:=mM (P:=prog) ((((w.alloc (.cells #[.float .f64 x,.float .f64 y,.float .f64 z] 79)).alloc (.cells #[.float .f64 u,.float .f64 v,.float .f64 t] 79)).alloc (.cells #[.float .f64 0,.float .f64 0,.float .f64 0] 79)).drewN (n1+n2)) z _ t _ (IsQ.self hz) (IsQ.self ht)
 rw[World.drewN_drewN]at k2 k3
 rw[sbB_q hu]at q1
 rw[sbB_q hv]at q2
 rw[sbB_q ht]at q3
 have CN:=hid (fun w=>nU r1 r2 r3 _ _ _ w q1 q2 q3)
 have A0:=hid (bl3 w (.cells #[.float .f64 x,.float .f64 y,.float .f64 z] 79) (.cells #[.float .f64 u,.float .f64 v,.float .f64 t] 79) (.cells #[.float .f64 0,.float .f64 0,.float .f64 0] 79))
 have R0:=hid (W3rows w (.cells #[.float .f64 x,.float .f64 y,.float .f64 z] 79) (.cells #[.float .f64 u,.float .f64 v,.float .f64 t] 79) (.cells #[.float .f64 0,.float .f64 0,.float .f64 0] 79))
 clear q1 q2 q3 hx hy hz hu hv ht
 go_enter func40,ntmps40
 go_wp2_with fail
 refine(CN.out _).mono ?_
 rintro e w4 ⟨rfl,b4⟩
 have A4:Hid (Ab w w4):=Ab.call (Ab.drewN A0.out _) b4
 have r0:w4.heap[w.heap.size+1+1]? =some (.cells #[.float .f64 0,.float .f64 0,.float .f64 0] 79):=Ab.heap b4 R0.out.2.2
 obtain⟨⟨o0,o1,o2⟩,o3,o4,o5⟩:=rowfacts r0
 have R4:=hid r0
 clear r0 b4 A0 R0 k1 k2 k3
 go_wp2
 refine bodyPost_ret ?_ rfl ⟨rfl,?_⟩
 ·exact results_cell_row results40 _ _ (w.heap.size+1+1) _ _ (0,0) _ rfl (lF R4.out) underlying79 rfl (by kernel_rfl)
 ·exact((Ab.setk A4.out (by omega) _).setk (by omega) _).setk (by omega) _
theorem cross_at(x y z u v t:Nat)(w:World)(hx:x<18446744073709551616)(hy:y<18446744073709551616)(hz:z<18446744073709551616)(hu:u<18446744073709551616)(hv:v<18446744073709551616)(ht:t<18446744073709551616):
  Calls prog 39 #[.agg #[.float .f64 x,.float .f64 y,.float .f64 z],.agg #[.float .f64 u,.float .f64 v,.float .f64 t]] w fun e w'=>e=.returned (.agg #[.float .f64 (sbB (mlB y t) (mlB z v)),.float .f64 (sbB (mlB z u) (mlB x t)),.float .f64 (sbB (mlB x v) (mlB y u))])/\Below w.heap.size w w':=by
 obtain⟨c0,hc0⟩:=aB (sbB (mlB y t) (mlB z v))
 obtain⟨c1,hc1⟩:=aB (sbB (mlB z u) (mlB x t))
 obtain⟨c2,hc2⟩:=aB (sbB (mlB x v) (mlB y u))
 rw[hc0,hc1,hc2]
 have T0:Hid (∀u0,Calls prog 68 #[.float .f64 y,.float .f64 z,.float .f64 v,.float .f64 t] u0 fun e w'=> ∃r n,e=.returned (.float .f64 r)/\w'=u0.drewN n/\Hid (IsC r c0)):=fun u0=>by rw[<- hc0];exact vJ y z v t u0 hy hz hv ht
 have T1:Hid (∀u0,Calls prog 68 #[.float .f64 z,.float .f64 x,.float .f64 t,.float .f64 u] u0 fun e w'=> ∃r n,e=.returned (.float .f64 r)/\w'=u0.drewN n/\Hid (IsC r c1)):=fun u0=>by rw[<- hc1];exact vJ z x t u u0 hz hx ht hu
 have T2:Hid (∀u0,Calls prog 68 #[.float .f64 x,.float .f64 y,.float .f64 u,.float .f64 v] u0 fun e w'=> ∃r n,e=.returned (.float .f64 r)/\w'=u0.drewN n/\Hid (IsC r c2)):=fun u0=>by rw[<- hc2];exact vJ x y u v u0 hx hy hu hv
 have CN:=hid (fun r1 r2 r3 w (q1:IsC r1 c0) (q2:IsC r2 c1) (q3:IsC r3 c2)=>nU r1 r2 r3 _ _ _ w q1 q2 q3)
 have A0:=hid (bl3 w (.cells #[.float .f64 x,.float .f64 y,.float .f64 z] 79) (.cells #[.float .f64 u,.float .f64 v,.float .f64 t] 79) (.cells #[.float .f64 0,.float .f64 0,.float .f64 0] 79))
 have R0:=hid (W3rows w (.cells #[.float .f64 x,.float .f64 y,.float .f64 z] 79) (.cells #[.float .f64 u,.float .f64 v,.float .f64 t] 79) (.cells #[.float .f64 0,.float .f64 0,.float .f64 0] 79))
 clear hx hy hz hu hv ht hc0 hc1 hc2
 go_enter func39,ntmps39
 go_upto_region 1 with fail
 generalize hW:World.alloc _ _=W
 have AW:Hid (Ab w W):=by rw[<- hW];exact A0.out
 have ra:W.heap[w.heap.size]? =some (.cells #[.float .f64 x,.float .f64 y,.float .f64 z] 79):=by rw[<- hW];exact R0.out.1
 have rb:W.heap[w.heap.size+1]? =some (.cells #[.float .f64 u,.float .f64 v,.float .f64 t] 79):=by rw[<- hW];exact R0.out.2.1
 have rc:W.heap[w.heap.size+1+1]? =some (.cells #[.float .f64 0,.float .f64 0,.float .f64 0] 79):=by rw[<- hW];exact R0.out.2.2
 have KS:Hid (∀w',Abx W (w.heap.size+1+1) 3 79 w'->Abx W (w.heap.size+1+1) 3 79 w'/\w'.cell? ⟨w.heap.size,0,none⟩=some (.float .f64 x)/\w'.cell? ⟨w.heap.size,1,none⟩=some (.float .f64 y)/\w'.cell? ⟨w.heap.size,2,none⟩=some (.float .f64 z)/\w'.cell? ⟨w.heap.size+1,0,none⟩=some (.float .f64 u)/\w'.cell? ⟨w.heap.size+1,1,none⟩=some (.float .f64 v)/\w'.cell? ⟨w.heap.size+1,2,none⟩=some (.float .f64 t)/\w'.frozen? ⟨w.heap.size+1+1,0,none⟩=false/\w'.frozen? ⟨w.heap.size+1+1,1,none⟩=false/\w'.frozen? ⟨w.heap.size+1+1,2,none⟩=false/\w'.cell? ⟨w.heap.size+1+1,0,none⟩=some (rv w' (w.heap.size+1+1) 0)/\w'.cell? ⟨w.heap.size+1+1,1,none⟩=some (rv w' (w.heap.size+1+1) 1)/\w'.cell? ⟨w.heap.size+1+1,2,none⟩=some (rv w' (w.heap.size+1+1) 2)):=by
  intro w' hw
  obtain⟨-,p3,p4,p5⟩:=rowfacts (hw.heap (by omega) ra)
  obtain⟨-,p6,p7,p8⟩:=rowfacts (hw.heap (by omega) rb)
  exact⟨hw,p3,p4,p5,p6,p7,p8,hw.free 0,hw.free 1,hw.free 2,hw.some (by omega),hw.some (by omega),hw.some (by omega)⟩
 have A1:Abx W (w.heap.size+1+1) 3 79 W:=(Ab.refl W).x rfl rc
 clear ra rb rc hW A0 R0
 go_region_held3 (fun w'=>Abx W (w.heap.size+1+1) 3 79 w'/\w'.cell? ⟨w.heap.size,0,none⟩=some (.float .f64 x)/\w'.cell? ⟨w.heap.size,1,none⟩=some (.float .f64 y)/\w'.cell? ⟨w.heap.size,2,none⟩=some (.float .f64 z)/\w'.cell? ⟨w.heap.size+1,0,none⟩=some (.float .f64 u)/\w'.cell? ⟨w.heap.size+1,1,none⟩=some (.float .f64 v)/\w'.cell? ⟨w.heap.size+1,2,none⟩=some (.float .f64 t)/\w'.frozen? ⟨w.heap.size+1+1,0,none⟩=false/\w'.frozen? ⟨w.heap.size+1+1,1,none⟩=false/\w'.frozen? ⟨w.heap.size+1+1,2,none⟩=false/\w'.cell? ⟨w.heap.size+1+1,0,none⟩=some (rv w' (w.heap.size+1+1) 0)/\w'.cell? ⟨w.heap.size+1+1,1,none⟩=some (rv w' (w.heap.size+1+1) 1)/\w'.cell? ⟨w.heap.size+1+1,2,none⟩=some (rv w' (w.heap.size+1+1) 2)) ((refine KS.out _ ?_;(with_reducible (repeat(first | assumption | apply Abx.drew | apply Abx.drewN | apply Abx.set | (refine Abx.call ?_ (by assumption)))));done)) (first
  | (go_at_call 68;have hh:=q2.out;refine(T2.out _).mono ?_;rintro e w3 ⟨r3,n3,rfl,rfl,q3⟩)
  | (go_at_call 68;have hh:=q1.out;refine(T1.out _).mono ?_;rintro e w2 ⟨r2,n2,rfl,rfl,q2⟩)
  | (go_at_call 68;refine(T0.out _).mono ?_;rintro e w1 ⟨r1,n1,rfl,rfl,q1⟩)
  | (go_at_call 67;refine(CN.out _ _ _ _ q1.out q2.out q3.out).mono ?_;rintro e w4 ⟨rfl,b4⟩))
 have A2:Abx W (w.heap.size+1+1) 3 79 w4:=Abx.call (A1.drewN _) b4
 clear KS A1 b4
 go_wp2
 refine bodyPost_ret ?_ rfl ⟨rfl,?_⟩
 ·exact results_cell_row results39 _ _ (w.heap.size+1+1) _ _ (0,0) _ rfl (set3 A2) underlying79 rfl (by kernel_rfl)
 ·exact(((A2.set 0 _).set 1 _).set 2 _).ab AW.out (by omega)
theorem nV(x y z:Nat)(w:World)(hx:x<18446744073709551616)(hy:y<18446744073709551616)(hz:z<18446744073709551616):
  Calls prog 38 #[.agg #[.float .f64 x,.float .f64 y,.float .f64 z]] w fun e w'=>e=.returned (.float .f64 (lnB x y z))/\Below w.heap.size w w':=by
 obtain⟨T,hT⟩:=aB (thB (sqB x) (sqB y) (sqB z))
 obtain⟨l,hl⟩:=aB (lnB x y z)
 have hlT:rtB T=l:=by rw[<- hT,<- hl];rfl
 rw[hl]
 have TH:Hid (∀r1 r2 r3 u0,IsQ r1 (sqB x)->IsQ r2 (sqB y)->IsQ r3 (sqB z)->Calls prog 65 #[.float .f64 r1,.float .f64 r2,.float .f64 r3] u0 fun e w'=>e=.returned (.float .f64 T)/\Below u0.heap.size u0 w'):=fun r1 r2 r3 u0 q1 q2 q3=>by
  rw[<- hT,<- q1.2,<- q2.2,<- q3.2,<- thB_q]
  exact three_at r1 r2 r3 u0 q1.1 q2.1 q3.1
 have T0:Hid (∀u0,Calls prog 66 #[.float .f64 x] u0 fun e w'=> ∃r n,e=.returned (.float .f64 r)/\w'=u0.drewN n/\Hid (IsQ r (sqB x))):=fun u0=>nS x u0 hx
 have T1:Hid (∀u0,Calls prog 66 #[.float .f64 y] u0 fun e w'=> ∃r n,e=.returned (.float .f64 r)/\w'=u0.drewN n/\Hid (IsQ r (sqB y))):=fun u0=>nS y u0 hy
 have T2:Hid (∀u0,Calls prog 66 #[.float .f64 z] u0 fun e w'=> ∃r n,e=.returned (.float .f64 r)/\w'=u0.drewN n/\Hid (IsQ r (sqB z))):=fun u0=>nS z u0 hz
 have SQ:Hid (∀u0,Calls prog 64 #[.float .f64 T] u0 fun e w'=> ∃r n,e=.returned (.float .f64 r)/\w'=u0.drewN n/\Hid (IsC r l)):=fun u0=>by rw[<- hlT];exact sqrt_at T u0
 have CN:Hid (∀r u0,IsC r l->Calls prog 63 #[.float .f64 r] u0 fun e w'=>e=.returned (.float .f64 l)/\w'=u0):=fun r u0 q=>by rw[<- q.2];exact bN r u0 q.1
 have A0:=hid (bl1 w (.cells #[.float .f64 x,.float .f64 y,.float .f64 z] 79))
 have R0:=hid (heap_alloc_new w (.cells #[.float .f64 x,.float .f64 y,.float .f64 z] 79))
 clear hx hy hz hT hl hlT
 go_enter func38,ntmps38
 go_upto_region 1 with fail
 generalize hW:World.alloc _ _=W
 have AW:Hid (Ab w W):=by rw[<- hW];exact A0.out
 have ra:W.heap[w.heap.size]? =some (.cells #[.float .f64 x,.float .f64 y,.float .f64 z] 79):=by rw[<- hW];exact R0.out
 have KS:Hid (∀w',Ab W w'->Ab W w'/\w'.cell? ⟨w.heap.size,0,none⟩=some (.float .f64 x)/\w'.cell? ⟨w.heap.size,1,none⟩=some (.float .f64 y)/\w'.cell? ⟨w.heap.size,2,none⟩=some (.float .f64 z)):=by
  intro w' hw
  obtain⟨-,p3,p4,p5⟩:=rowfacts (hw.heap ra)
  exact⟨hw,p3,p4,p5⟩
 have A1:Ab W W:=Ab.refl W
 clear ra hW A0 R0
 go_region_held3 (fun w'=>Ab W w'/\w'.cell? ⟨w.heap.size,0,none⟩=some (.float .f64 x)/\w'.cell? ⟨w.heap.size,1,none⟩=some (.float .f64 y)/\w'.cell? ⟨w.heap.size,2,none⟩=some (.float .f64 z)) ((refine KS.out _ ?_;(with_reducible (repeat(first | assumption | apply Ab.drew | apply Ab.drewN | (refine Ab.call ?_ (by assumption)))));done)) (first
  | (go_at_call 66;have hh:=q2.out;refine(T2.out _).mono ?_;rintro e w3 ⟨r3,n3,rfl,rfl,q3⟩)
  | (go_at_call 66;have hh:=q1.out;refine(T1.out _).mono ?_;rintro e w2 ⟨r2,n2,rfl,rfl,q2⟩)
  | (go_at_call 66;refine(T0.out _).mono ?_;rintro e w1 ⟨r1,n1,rfl,rfl,q1⟩)
  | (go_at_call 65;refine(TH.out _ _ _ _ q1.out q2.out q3.out).mono ?_;rintro e w4 ⟨rfl,b4⟩)
  | (go_at_call 64;refine(SQ.out _).mono ?_;rintro e w5 ⟨r5,n5,rfl,rfl,q5⟩)
  | (go_at_call 63;refine(CN.out _ _ q5.out).mono ?_;rintro e w6 ⟨rfl,rfl⟩))
 have A2:Hid (Ab w w4):=Ab.call (Ab.drewN AW.out _) b4
 clear KS A1 b4
 go_wp2
 go_ret
 exact⟨rfl,Ab.drewN A2.out _⟩
theorem rC(x y z u v t:Nat)(w:World)(hx:x<18446744073709551616)(hy:y<18446744073709551616)(hz:z<18446744073709551616)(hu:u<18446744073709551616)(hv:v<18446744073709551616)(ht:t<18446744073709551616):
  Calls prog 35 #[.agg #[.float .f64 x,.float .f64 y,.float .f64 z],.agg #[.float .f64 u,.float .f64 v,.float .f64 t]] w fun e w'=>e=.returned (.float .f64 (lnB (sbB x u) (sbB y v) (sbB z t)))/\Below w.heap.size w w':=by
 have MI:=hid (fun w=>mN x y z u v t w hx hy hz hu hv ht)
 have LN:=hid (fun w=>nV _ _ _ w (bO hx hu) (bO hy hv) (bO hz ht))
 have A0:=hid (bl2 w (.cells #[.float .f64 x,.float .f64 y,.float .f64 z] 79) (.cells #[.float .f64 u,.float .f64 v,.float .f64 t] 79))
 clear hx hy hz hu hv ht
 go_enter func35,ntmps35
 go_wp2_with fail
 refine(MI.out _).mono ?_
 rintro e w1 ⟨rfl,b1⟩
 go_wp2_with fail
 refine(LN.out _).mono ?_
 rintro e w2 ⟨rfl,b2⟩
 have A2:Hid (Ab w w2):=(Ab.call A0.out b1).call b2
 clear b1 b2 A0
 go_wp2
 go_ret
 exact⟨rfl,A2.out⟩
end
section
open Go.RowKit Tf
attribute [local go_sem] aJ aK aN aO aP aQ aV aD
def lvB(l:Nat):Bool:=fgt l 0&& !fgt l 9218868437227405311
def unB(l x:Nat):Nat:=if lvB l=true then dvB x l else 0
theorem Am(l x:Nat):unB l x<18446744073709551616:=by
 unfold unB
 split
 ·unfold dvB
  split
  ·next r h=>exact eB (div_lt h)
  ·decide
 ·decide
theorem isInf_at(x:Nat)(w:World):
  Calls prog 137 #[.float .f64 x,.int .i64 1] w fun e w'=>e=.returned (.bool (fgt x 9218868437227405311))/\w'=w:=by
 go_enter func137,ntmps137
 go_wp2
 go_ret
 exact⟨rfl,rfl⟩
theorem unit_at(x y z:Nat)(w:World)(hx:x<18446744073709551616)(hy:y<18446744073709551616)(hz:z<18446744073709551616):
  Calls prog 99 #[.agg #[.float .f64 x,.float .f64 y,.float .f64 z]] w fun e w'=>e=.returned (.agg #[.float .f64 (unB (lnB x y z) x),.float .f64 (unB (lnB x y z) y),.float .f64 (unB (lnB x y z) z)])/\Below w.heap.size w w':=by
 have LN:=hid (fun w=>nV x y z w hx hy hz)
 obtain⟨l,hl⟩:=aB (lnB x y z)
 rw[hl]
 rw[hl]at LN
 have IF:=hid (fun w=>isInf_at l w)
 have A0:=hid (bl2 w (.cells #[.float .f64 x,.float .f64 y,.float .f64 z] 79) (.cells #[.float .f64 0,.float .f64 0,.float .f64 0] 79))
 have R0:=hid (And.intro (heap_alloc2_old w (.cells #[.float .f64 x,.float .f64 y,.float .f64 z] 79) (.cells #[.float .f64 0,.float .f64 0,.float .f64 0] 79)) (heap_alloc2_new w (.cells #[.float .f64 x,.float .f64 y,.float .f64 z] 79) (.cells #[.float .f64 0,.float .f64 0,.float .f64 0] 79)))
 clear hx hy hz hl
 obtain⟨p1,hp1⟩:=aB (fgt l 0)
 obtain⟨p2,hp2⟩:=aB (fgt l 9218868437227405311)
 rw[hp2]at IF
 cases p1 with
 | false=>
  have hu: ∀k,unB l k=0:=fun k=>by simp[unB,lvB,hp1]
  rw[hu,hu,hu]
  clear hu
  go_enter func99,ntmps99
  go_wp2_with fail
  refine(LN.out _).mono ?_
  rintro e w1 ⟨rfl,b1⟩
  have r0:w1.heap[w.heap.size+1]? =some (.cells #[.float .f64 0,.float .f64 0,.float .f64 0] 79):=Ab.heap b1 R0.out.2
  have A1:Hid (Ab w w1):=Ab.call A0.out b1
  obtain⟨⟨o0,o1,o2⟩,o3,o4,o5⟩:=rowfacts r0
  have R1:=hid r0
  clear r0 b1 A0 R0
  go_wp2
  refine bodyPost_ret ?_ rfl ⟨rfl,?_⟩
  ·exact results_cell_row results99 _ _ (w.heap.size+1) _ _ (0,0) _ rfl (lF R1.out) underlying79 rfl (by kernel_rfl)
  ·exact((Ab.setk A1.out (by omega) _).setk (by omega) _).setk (by omega) _
 | true=>
  cases p2 with
  | true=>
   have hu: ∀k,unB l k=0:=fun k=>by simp[unB,lvB,hp2]
   rw[hu,hu,hu]
   clear hu hp2
   go_enter func99,ntmps99
   go_wp2_with fail
   refine(LN.out _).mono ?_
   rintro e w1 ⟨rfl,b1⟩
   have r0:w1.heap[w.heap.size+1]? =some (.cells #[.float .f64 0,.float .f64 0,.float .f64 0] 79):=Ab.heap b1 R0.out.2
   have A1:Hid (Ab w w1):=Ab.call A0.out b1
   obtain⟨⟨o0,o1,o2⟩,o3,o4,o5⟩:=rowfacts r0
   have R1:=hid r0
   clear r0 b1 A0 R0
   go_wp2_with fail
   refine(IF.out _).mono ?_
   rintro e w1 ⟨rfl,rfl⟩
   go_wp2
   refine bodyPost_ret ?_ rfl ⟨rfl,?_⟩
   ·exact results_cell_row results99 _ _ (w.heap.size+1) _ _ (0,0) _ rfl (lF R1.out) underlying79 rfl (by kernel_rfl)
   ·exact((Ab.setk A1.out (by omega) _).setk (by omega) _).setk (by omega) _
  | false=>
   have hu: ∀k,unB l k=dvB k l:=fun k=>by simp[unB,lvB,hp1,hp2]
   rw[hu,hu,hu]
   clear hu hp2
   go_enter func99,ntmps99
   go_wp2_with fail
   refine(LN.out _).mono ?_
   rintro e w1 ⟨rfl,b1⟩
   have r0:w1.heap[w.heap.size+1]? =some (.cells #[.float .f64 0,.float .f64 0,.float .f64 0] 79):=Ab.heap b1 R0.out.2
   have ra:w1.heap[w.heap.size]? =some (.cells #[.float .f64 x,.float .f64 y,.float .f64 z] 79):=Ab.heap b1 R0.out.1
   have A1:Hid (Ab w w1):=Ab.call A0.out b1
   obtain⟨-,a0,a1,a2⟩:=rowfacts ra
   have R1:=hid r0
   obtain⟨r1,n1,k1,q1⟩:=gJ (P:=prog) w1 x l
   obtain⟨r2,n2,k2,q2⟩:=gJ (P:=prog) (w1.drewN n1) y l
   obtain⟨r3,n3,k3,q3⟩:=gJ (P:=prog) (w1.drewN (n1+n2)) z l
   rw[World.drewN_drewN]at k2 k3
   have CN:=hid (fun w=>nU r1 r2 r3 _ _ _ w q1 q2 q3)
   clear r0 ra b1 A0 R0 q1 q2 q3
   go_wp2_with fail
   refine(IF.out _).mono ?_
   rintro e w1 ⟨rfl,rfl⟩
   go_wp2_with fail
   refine(CN.out _).mono ?_
   rintro e w4 ⟨rfl,b4⟩
   have A4:Hid (Ab w w4):=Ab.call (Ab.drewN A1.out _) b4
   have r4:w4.heap[w.heap.size+1]? =some (.cells #[.float .f64 0,.float .f64 0,.float .f64 0] 79):=Ab.heap b4 R1.out
   obtain⟨⟨o0,o1,o2⟩,o3,o4,o5⟩:=rowfacts r4
   have R4:=hid r4
   clear r4 b4 A1 R1 k1 k2 k3 a0 a1 a2
   go_wp2
   refine bodyPost_ret ?_ rfl ⟨rfl,?_⟩
   ·exact results_cell_row results99 _ _ (w.heap.size+1) _ _ (0,0) _ rfl (lF R4.out) underlying79 rfl (by kernel_rfl)
   ·exact((Ab.setk A4.out (by omega) _).setk (by omega) _).setk (by omega) _
end
section
open Go.RowKit Tf
attribute [local go_sem] aJ aK aN aO aP aQ aV aD
open Ieee in
theorem rtB_ng(x:Nat):ng (rtB x)=false:=by
 have key: ∀r,double.sqrt x=some r->ng (canonB r)=false:=by
  intro r h
  unfold Format.sqrt at h
  cases e:double.read x with
  | nan s f=>rw[e]at h;simp[Datum.root]at h
  | infinity s=>
   rw[e]at h
   cases s
   ·simp[Datum.root,Format.write]at h;subst h;decide
   ·simp[Datum.root]at h
  | number s m i=>
   rw[e]at h
   unfold Datum.root at h
   dsimp only at h
   by_cases hm:m=0
   ·rw[if_pos hm]at h
    simp only[Option.map_some,Option.some.injEq,Format.write,Format.nearest,hm,if_true]at h
    subst h
    cases s<;>decide
   ·rw[if_neg hm]at h
    cases s
    ·simp only[Bool.false_eq_true,if_false,Option.map_some,Option.some.injEq,Format.write]at h
     subst h
     have hw: ∀a b,double.nearest false a b<=9218868437227405312:=by
      intro a b
      unfold Format.nearest
      split
      ·rw[dW];simp
      ·rw[dW,bW];simp only[Bool.false_eq_true,if_false];exact Nat.min_le_right _ _
     generalize hq:double.nearest false _ _=q
     have hle:q<=9218868437227405312:=by rw[<- hq];exact hw _ _
     unfold canonB
     split
     ·decide
     ·split
      ·decide
      ·exact bK (by omega)
    ·simp at h
 cases h:double.sqrt x with
 | none=>rw[jU h];decide
 | some r=>rw[iP h];exact key r h
theorem rtB_lt(x:Nat):rtB x<18446744073709551616:=by
 cases h:Ieee.double.sqrt x with
 | none=>rw[jU h];decide
 | some r=>rw[iP h];exact eB (sqrt_lt h)
theorem xQ{l:Nat}(hl:l<18446744073709551616)(hn:ng l=false):lvB l=(classB l==1||classB l==2):=by
 unfold lvB
 rw[eT l 0 hl (by decide),eT l _ hl (by decide)]
 have e1:rk 0=0:=by decide
 have e2:rk 9218868437227405311=9218868437227405311:=by decide
 have e3:isN 0=false:=by decide
 have e4:isN 9218868437227405311=false:=by decide
 have e5:rk l=(mg l:Int):=by unfold rk;rw[hn];rfl
 rw[e1,e2,e3,e4,e5]
 unfold classB isN
 by_cases a:mg l=0
 ·simp[a]
 ·rw[if_neg a]
  by_cases b:mg l<4503599627370496
  ·rw[if_pos b]
   have: ¬9218868437227405312<mg l:=by omega
   simp[this];omega
  ·rw[if_neg b]
   by_cases c:mg l<9218868437227405312
   ·rw[if_pos c]
    have: ¬9218868437227405312<mg l:=by omega
    simp[this];omega
   ·rw[if_neg c]
    by_cases d:mg l=9218868437227405312
    ·rw[if_pos d];simp[d]
    ·rw[if_neg d]
     have:9218868437227405312<mg l:=by omega
     simp[this]
end
section
open Tf Ieee
theorem xR{d r V:Nat}(h:mv r*2 ^ d<=V):r<=rung 52 d V:=pO (by omega) h
end
section
open Tf Ieee
theorem kV{a b:Nat}(ha:a<9218868437227405312)(hb:b<9218868437227405312):plB a b=min (rung 52 0 (mv a+mv b)) 9218868437227405312:=by
 have ma:mg a=a:=aZ (by omega)
 have mb:mg b=b:=aZ (by omega)
 have na:ng a=false:=bK (by omega)
 have nb:ng b=false:=bK (by omega)
 have ea:sv a=(mv a:Int):=by unfold sv;rw[na,ma];rfl
 have eb:sv b=(mv b:Int):=by unfold sv;rw[nb,mb];rfl
 rw[iM (xC a b (by omega) (by omega) (by omega) (by omega)),na,ea,eb]
 unfold rn
 have: ¬((mv a:Int)+(mv b:Int)<0):=by omega
 rw[decide_eq_false this]
 simp only[Bool.false_and,ite_self,Bool.false_eq_true,if_false]
 rw[show((mv a:Int)+(mv b:Int)).natAbs=mv a+mv b by omega]
theorem plB_nn{a b:Nat}(ha:a<=9218868437227405312)(hb:b<=9218868437227405312):plB a b<=9218868437227405312/\a<=plB a b/\b<=plB a b:=by
 by_cases ca:a=9218868437227405312
 ·by_cases cb:b=9218868437227405312
  ·subst ca;subst cb;decide
  ·have e:=nL a b (by omega) (by rw[ca];decide) (by rw[aZ (by omega)];omega)
   rw[iM e,bK (by omega)]
   show 9218868437227405312<=_/\_<=9218868437227405312/\_<=9218868437227405312
   omega
 ·by_cases cb:b=9218868437227405312
  ·have e:=iA a b (by omega) (by rw[aZ (by omega)];omega) (by rw[cb];decide)
   rw[iM e,bK (by omega)]
   show 9218868437227405312<=_/\_<=9218868437227405312/\_<=9218868437227405312
   omega
  ·rw[kV (by omega) (by omega)]
   have h1:a<=rung 52 0 (mv a+mv b):=xR (by rw[Nat.pow_zero,Nat.mul_one];omega)
   have h2:b<=rung 52 0 (mv a+mv b):=xR (by rw[Nat.pow_zero,Nat.mul_one];omega)
   omega
end
section
open Tf Ieee
theorem mv_ONE:mv 4607182418800017408=2 ^ K:=gH
end
section
open Tf Ieee Cu
def cn(x:Nat):Nat:=canonB (negB x)
theorem cn_lt{x:Nat}(h:x<18446744073709551616):cn x<18446744073709551616:=eB (bC h)
theorem bH{x:Nat}(_:x<18446744073709551616):(isN x=true/\canonB x=quiet)\/(mg x=0/\canonB x=0)\/(isN x=false/\mg x≠0/\canonB x=x):=by
 unfold canonB
 cases h:isN x
 ·by_cases c:mg x=0
  ·exact .inr (.inl ⟨c,by simp[c]⟩)
  ·exact .inr (.inr ⟨rfl,c,by simp[c]⟩)
 ·exact .inl ⟨rfl,by simp⟩
theorem mO{x:Nat}(hx:x<18446744073709551616):cn (canonB x)=cn x:=by
 have h1:=fV hx
 have h2:=eC hx
 rcases bH hx with⟨h,e⟩ | ⟨h,e⟩ | ⟨h,k,e⟩
 ·rw[e];unfold cn canonB;rw[h1,h,if_pos rfl];decide
 ·rw[e];unfold cn
  have:canonB (negB x)=0:=by
   rcases bH (bC hx)with⟨a,b⟩ | ⟨a,b⟩ | ⟨a,a',b⟩
   ·rw[h1]at a;unfold isN at a;rw[h]at a;simp at a
   ·exact b
   ·rw[h2]at a';exact absurd h a'
  rw[this];decide
 ·rw[e]
theorem mgc{x:Nat}(hx:x<18446744073709551616)(h:isN x=false):mg (canonB x)=mg x/\sv (canonB x)=sv x:=by
 rcases bH hx with⟨a,e⟩ | ⟨a,e⟩ | ⟨a,k,e⟩
 ·rw[h]at a;cases a
 ·rw[e]
  refine⟨by rw[a];decide,?_⟩
  unfold sv
  rw[a]
  have h0:mg 0=0:=by decide
  have h1:mv 0=0:=by decide
  rw[h0,h1];cases ng x<;>cases ng 0<;>rfl
 ·rw[e];exact⟨rfl,rfl⟩
theorem Er{x:Nat}(hx:x<18446744073709551616)(h:mg x=9218868437227405312):canonB x=x:=by
 rcases bH hx with⟨a,e⟩ | ⟨a,e⟩ | ⟨a,k,e⟩
 ·unfold isN at a;rw[h]at a;simp at a
 ·omega
 ·exact e
theorem Es{x:Nat}(h:isN x=true):isN (canonB x)=true:=by unfold canonB;rw[h,if_pos rfl];decide
theorem lN{a b:Nat}(ha:a<18446744073709551616)(hb:b<18446744073709551616):addB (canonB a) b=addB a b:=by
 rcases three a with h | h | h
 ·have hN:isN a=false:=by unfold isN;rw[decide_eq_false (by omega)]
  obtain⟨m,s⟩:=mgc ha hN
  rcases three b with k | k | k
  ·rw[dM a b ha hb h k,dM _ b (eB ha) hb (by rw[m];exact h) k,s]
  ·rw[bE (iA a b hb h k),bE (iA _ b hb (by rw[m];exact h) k)]
  ·rw[aX (bI a b (.inr k)),aX (bI _ b (.inr k))]
 ·rw[Er ha h]
 ·rw[aX (bI a b (.inl h)),aX (bI _ b (.inl (Es h)))]
theorem iR{a b:Nat}(ha:a<18446744073709551616)(hb:b<18446744073709551616):sbB (canonB a) (canonB b)=sbB a b:=by
 unfold sbB
 rw[lN ha (bC (eB hb)),nM _ _ ha (bC (eB hb)),<- lN (bC (eB hb)) ha]
 have e:canonB (negB (canonB b))=canonB (negB b):=mO hb
 rw[e,lN (bC hb) ha,nM _ _ (bC hb) ha]
theorem sbB_cn{a b:Nat}(ha:a<18446744073709551616)(hb:b<18446744073709551616):sbB (cn a) (cn b)=cn (sbB a b):=by
 unfold cn;rw[iR (bC ha) (bC hb),Ah ha hb]
theorem Ao{a b:Nat}(ha:a<18446744073709551616)(hb:b<18446744073709551616):sbB b a=cn (sbB a b):=sbB_anti ha hb
theorem xS(s:Bool)(m:Nat)(p:Int):double.nearest (!s) m p=negB (double.nearest s m p):=by
 have hw: ∀(s:Bool) r,r<9223372036854775808->double.word (!s) r=negB (double.word s r):=by
  intro s r hr
  rw[dW,dW]
  cases s
  ·simp only[Bool.not_false,if_true,Bool.false_eq_true,if_false]
   unfold negB;rw[bK hr];simp;omega
  ·simp only[Bool.not_true,if_true,Bool.false_eq_true,if_false]
   unfold negB;rw[qU (by omega)];simp
 unfold Format.nearest
 by_cases c:m=0
 ·rw[if_pos c,if_pos c];exact hw s 0 (by omega)
 ·rw[if_neg c,if_neg c]
  have hm: ∀x,min x double.infRung<9223372036854775808:=fun x=>by
   have:=Nat.min_le_right x double.infRung
   rw[bW]at this ⊢;omega
  exact hw s _ (hm _)
theorem Et(d:Datum)(h: ∀s t,d≠ .nan s t):double.write d.opposite=negB (double.write d):=by
 cases d with
 | number s m i=>exact xS s m i
 | infinity s=>cases s<;>decide+kernel
 | nan s t=>exact absurd rfl (h s t)
theorem CJ(d e:Datum):d.opposite.product e=(d.product e).map Datum.opposite/\(∀s t,d.product e≠some (.nan s t)):=by
 cases d<;>cases e<;>simp[Datum.opposite,Datum.product]<;>(try split)<;>simp[Datum.opposite]
theorem CK(p:Nat)(d e:Datum):d.opposite.quotient p e=(d.quotient p e).map Datum.opposite/\(∀s t,d.quotient p e≠some (.nan s t)):=by
 cases d<;>cases e<;>simp[Datum.opposite,Datum.quotient]<;>(try split)<;>(try split)<;>simp[Datum.opposite]
theorem CU{o:Option Datum}(h: ∀s t,o≠some (.nan s t)):(o.map Datum.opposite).map double.write=(o.map double.write).map negB:=by
 cases o with
 | none=>rfl
 | some d=>simp only[Option.map_some];rw[Et d (fun s t e=>h s t (by rw[e]))]
theorem xT{a b r:Nat}(h:double.div a b=some r):r<18446744073709551616:=by
 have hr: ∃d,double.write d=r:=by
  have h':((double.read a).quotient 54 (double.read b)).map double.write=some r:=h
  rw[Option.map_eq_some_iff]at h'
  obtain⟨d,_,e⟩:=h'
  exact⟨d,e⟩
 obtain⟨d,e⟩:=hr
 have hw: ∀(s:Bool) q,q<9223372036854775808->double.word s q<18446744073709551616:=by
  intro s q hq;rw[dW];split<;>omega
 have hb:double.binade=4503599627370496:=d_bin
 have hi:double.infRung=9218868437227405312:=bW
 rw[<- e]
 cases d with
 | number s m i=>
  unfold Format.write Format.nearest
  dsimp only
  split
  ·exact hw _ _ (by omega)
  ·exact hw _ _ (Nat.lt_of_le_of_lt (Nat.min_le_right _ _) (by rw[hi];omega))
 | infinity s=>exact hw _ _ (by rw[hi];omega)
 | nan s t=>
  refine hw _ _ ?_
  have:=Nat.mod_lt t (show 0<double.binade by rw[hb];omega)
  rw[hi];rw[hb]at this ⊢;omega
theorem Ap{a b:Nat}(ha:a<18446744073709551616):dvB (negB a) b=cn (dvB a b):=by
 have key:double.div (negB a) b=(double.div a b).map negB:=by
  show((double.read (negB a)).quotient 54 (double.read b)).map double.write=(((double.read a).quotient 54 (double.read b)).map double.write).map negB
  rw[jT a ha,(CK 54 _ _).1]
  exact CU (CK 54 _ _).2
 cases h:double.div a b with
 | none=>rw[h]at key;rw[gS h,gS key];decide
 | some r=>rw[h]at key;rw[eV h,eV key,mO (xT h)];rfl
theorem rD(b:Nat)(h1:mg b≠0)(h2:mg b<9218868437227405312)(z:Nat)(hz:mg z=0):dvB z b=0:=by
 obtain⟨m,a,e,k⟩:=cE double b (by rw[cW,bW];exact h2)
 have hm:m≠0:=by
  intro h0
  rw[h0,Nat.zero_mul,cW]at k
  have k2:mv (mg b)=0:=k.symm
  refine h1 ?_
  unfold mv mag at k2
  split at k2
  ·exact k2
  ·exact absurd k2 (Nat.mul_ne_zero (by have:=Nat.two_pow_pos 52;omega) (by have:=Nat.two_pow_pos (mg b/2 ^ 52 - 1);omega))
 have hd: ∃s p,double.div z b=some (double.nearest s 0 p):=by
  have hq: ∃s p,(double.read z).quotient 54 (double.read b)=some (.number s 0 p):=by
   rw[e,Eh hz]
   unfold Datum.quotient
   dsimp only
   rw[if_neg hm]
   simp
  obtain⟨s,p,hq⟩:=hq
  refine⟨s,p,?_⟩
  show((double.read z).quotient 54 (double.read b)).map double.write=_
  rw[hq];rfl
 obtain⟨s,p,e⟩:=hd
 rw[eV e]
 unfold Format.nearest
 rw[if_pos rfl]
 cases s<;>decide+kernel
theorem mul_key{a b:Nat}(ha:a<18446744073709551616):double.mul (negB a) b=(double.mul a b).map negB:=by
 show((double.read (negB a)).product (double.read b)).map double.write=(((double.read a).product (double.read b)).map double.write).map negB
 rw[jT a ha,(CJ _ _).1]
 exact CU (CJ _ _).2
theorem mlB_neg{a b:Nat}(ha:a<18446744073709551616)(_:b<18446744073709551616):canonB (mlB (negB a) b)=cn (mlB a b):=by
 have key:=mul_key (b:=b) ha
 cases h:double.mul a b with
 | none=>rw[h]at key;rw[eA h,eA key];decide
 | some r=>rw[h]at key;rw[cZ h,cZ key];rfl
theorem kW{a b:Nat}(ha:a<18446744073709551616)(hb:b<18446744073709551616):canonB (mlB (canonB a) b)=canonB (mlB a b):=by
 rcases bH ha with⟨h,e⟩ | ⟨h,e⟩ | ⟨h,k,e⟩
 ·rw[e,eA (fM a b (.inl h)),eA (fM quiet b (.inl (by decide)))]
 ·rw[e]
  cases hn:ng a
  ·have:a=0:=by have:=dZ hn;rw[aZ this]at h;exact h
   rw[this]
  ·have h2:a=negB 0:=by
    have:=eU hn;unfold mg at h;show a=(if ng 0 then _ else _);rw[show ng 0=false by decide];simp;omega
   rw[h2,mlB_neg (by omega) hb]
   -- a nought times b,both ways
   have hz: ∀r,double.mul 0 b=some r->mg r=0:=by
    intro r hr
    rcases three b with k | k | k
    ·rw[tL 0 b (by omega) hb (by decide) k]at hr
     have h0:mv (mg 0)=0:=by decide
     rw[h0,Nat.zero_mul]at hr
     have h1:min (rung 52 1074 0) 9218868437227405312=0:=by decide+kernel
     rw[h1]at hr
     cases hr
     cases(ng 0 ^^ ng b)<;>decide
    ·rw[vE 0 b (by omega) hb (by decide) k,if_pos (by decide)]at hr;cases hr
    ·rw[fM 0 b (.inr k)]at hr;cases hr
   cases hm:double.mul 0 b with
   | none=>rw[eA hm];decide
   | some r=>
    rw[cZ hm]
    have hr:=iO hm (by omega) hb
    have h0:=hz r hm
    rcases bH hr.1 with⟨a',b'⟩ | ⟨a',b'⟩ | ⟨a',k',b'⟩
    ·rw[hr.2]at a';cases a'
    ·rw[b',<- mO hr.1,b'];decide
    ·exact absurd h0 k'
 ·rw[e]
theorem pT{x y z:Nat}(hx:x<18446744073709551616):lnB (cn x) y z=lnB x y z:=lnB_cn hx
theorem C0{x y z:Nat}(hx:x<18446744073709551616)(hy:y<18446744073709551616):lnB x (cn y) z=lnB x y z:=by
 rw[vF hx (cn_lt hy),pT hy,vF hy hx]
theorem lnB_cn3{x y z:Nat}(hx:x<18446744073709551616)(hy:y<18446744073709551616)(hz:z<18446744073709551616):lnB x y (cn z)=lnB x y z:=by
 rw[vG hx hy (cn_lt hz),C0 hx hz,vG hx hz hy]
def fB(k:Int):Nat:=rn false (k*one)
def qo(n:Nat)(k:Int):Nat:=dvB (fB k) (fB n)
theorem fB_lt(k:Int):fB k<18446744073709551616:=rn_lt _ _
theorem vK(a b:Nat):dvB a b<18446744073709551616:=by
 unfold dvB
 cases h:double.div a b with
 | none=>decide
 | some r=>exact eB (xT h)
theorem lH(n:Nat)(k:Int):qo n k<18446744073709551616:=vK _ _
theorem fB_neg(k:Int):fB (-k)=cn (fB k):=by unfold fB cn;rw[Cx,Int.neg_mul]
theorem C5: ∀n:Nat,n<33->1<=n->mg (fB n)≠0/\mg (fB n)<9218868437227405312:=by decide+kernel
theorem rE{n:Nat}(h1:1<=n)(h2:n<=32)(k:Int):qo n (-k)=cn (qo n k):=by
 obtain⟨b1,b2⟩:=C5 n (by omega) h1
 unfold qo
 rw[fB_neg]
 have hx:=fB_lt k
 unfold cn
 rcases bH (bC hx)with⟨h,e⟩ | ⟨h,e⟩ | ⟨h,k',e⟩
 ·rw[fV hx]at h
  have:isN (fB k)=false:=Aa _ _
  rw[this]at h;cases h
 ·rw[e,rD _ b1 b2 0 (by decide),rD _ b1 b2 (fB k) (by rw[<- eC hx];exact h)];decide
 ·rw[e,Ap hx];rfl
theorem qo_one: ∀n:Nat,n<33->1<=n->qo n n=4607182418800017408:=by decide+kernel
def pL(n:Nat)(v:P3):Nat:=lnB (qo n v.1) (qo n v.2.1) (qo n v.2.2)
def px(n:Nat)(v:P3):Nat:=unB (pL n v) (qo n v.1)
def py(n:Nat)(v:P3):Nat:=unB (pL n v) (qo n v.2.1)
def pz(n:Nat)(v:P3):Nat:=unB (pL n v) (qo n v.2.2)
theorem lv_fin{l:Nat}(hl:l<18446744073709551616)(hn:ng l=false)(h:lvB l=true):mg l≠0/\mg l<9218868437227405312:=by
 rw[xQ hl hn]at h
 unfold classB at h
 refine⟨fun c=> ?_,?_⟩
 ·rw[if_pos c]at h;revert h;decide
 ·rcases Nat.lt_or_ge (mg l) 9218868437227405312 with k | k
  ·exact k
  ·rw[if_neg (by omega),if_neg (by omega),if_neg (by omega)]at h
   split at h<;>exact absurd h (by decide)
theorem pU{y l:Nat}(hy:isN y=true):dvB y l=quiet:=by
 refine gS ?_
 rw[bJ]at hy
 have ei:=bW
 show((double.read y).quotient 54 (double.read l)).map double.write=none
 rw[dY double y gG (by rw[cW];omega)]
 cases double.read l<;>rfl
theorem unB_cn(l x:Nat)(hl:l<18446744073709551616)(hn:ng l=false)(hx:x<18446744073709551616):unB l (cn x)=cn (unB l x):=by
 unfold unB
 by_cases c:lvB l=true
 ·rw[if_pos c,if_pos c]
  unfold cn
  rcases bH (bC hx)with⟨h,e⟩ | ⟨h,e⟩ | ⟨h,k',e⟩
  ·have hxn:isN x=true:=by rw[<- fV hx];exact h
   rw[e,pU (y:=quiet) (by decide),pU hxn];decide
  ·have hz:mg x=0:=by rw[<- eC hx];exact h
   have hl2:=lv_fin hl hn c
   rw[e,rD l hl2.1 hl2.2 0 (by decide),rD l hl2.1 hl2.2 x hz];decide
  ·rw[e,Ap hx];rfl
 ·rw[if_neg c,if_neg c];decide
theorem pL_lt(n:Nat)(v:P3):pL n v<18446744073709551616:=rtB_lt _
theorem pL_ng(n:Nat)(v:P3):ng (pL n v)=false:=rtB_ng _
theorem dV(n:Nat)(v:P3):px n v<18446744073709551616:=Am _ _
theorem eI(n:Nat)(v:P3):py n v<18446744073709551616:=Am _ _
theorem eJ(n:Nat)(v:P3):pz n v<18446744073709551616:=Am _ _
def op8(k:Nat)(v:P3):P3:=match k with | 0=>(v.2.1,v.1,v.2.2) | 1=>(v.1,v.2.2,v.2.1) | _=>(-v.1,v.2.1,v.2.2)
theorem xU(P:Nat->Prop)(h0:P 0)(h1:P 1)(h2: ∀k,P (k+2)): ∀k,P k:=by
 intro k
 match k with
 | 0=>exact h0
 | 1=>exact h1
 | k+2=>exact h2 k
theorem pL_op{n:Nat}(h1:1<=n)(h2:n<=32)(v:P3): ∀k,pL n (op8 k v)=pL n v:=by
 refine xU _ ?_ ?_ (fun k=> ?_)
 ·exact vF (lH _ _) (lH _ _)
 ·exact vG (lH _ _) (lH _ _) (lH _ _)
 ·show lnB (qo n (-v.1)) _ _=_
  rw[rE h1 h2,pT (lH _ _)];rfl
theorem p_op0{n:Nat}(h1:1<=n)(h2:n<=32)(v:P3):px n (op8 0 v)=py n v/\py n (op8 0 v)=px n v/\pz n (op8 0 v)=pz n v:=by
 have h:=pL_op h1 h2 v 0
 unfold px py pz;rw[h];exact⟨rfl,rfl,rfl⟩
theorem p_op1{n:Nat}(h1:1<=n)(h2:n<=32)(v:P3):px n (op8 1 v)=px n v/\py n (op8 1 v)=pz n v/\pz n (op8 1 v)=py n v:=by
 have h:=pL_op h1 h2 v 1
 unfold px py pz;rw[h];exact⟨rfl,rfl,rfl⟩
theorem p_op2{n:Nat}(h1:1<=n)(h2:n<=32)(v:P3)(k:Nat):px n (op8 (k+2) v)=cn (px n v)/\py n (op8 (k+2) v)=py n v/\pz n (op8 (k+2) v)=pz n v:=by
 have h:=pL_op h1 h2 v (k+2)
 unfold px py pz
 rw[h]
 refine⟨?_,rfl,rfl⟩
 show unB _ (qo n (-v.1))=_
 rw[rE h1 h2,unB_cn _ _ (pL_lt _ _) (pL_ng _ _) (lH _ _)]
def gp(n:Nat)(u v:P3):Nat:=lnB (sbB (px n u) (px n v)) (sbB (py n u) (py n v)) (sbB (pz n u) (pz n v))
theorem tR{n:Nat}(h1:1<=n)(h2:n<=32)(u v:P3): ∀k,gp n (op8 k u) (op8 k v)=gp n u v:=by
 have bx:=bO (dV n u) (dV n v)
 have hy:=bO (eI n u) (eI n v)
 have hz:=bO (eJ n u) (eJ n v)
 refine xU _ ?_ ?_ (fun k=> ?_)
 ·obtain⟨a,b,c⟩:=p_op0 h1 h2 u
  obtain⟨d,e,f⟩:=p_op0 h1 h2 v
  unfold gp;rw[a,b,c,d,e,f];exact vF hy bx
 ·obtain⟨a,b,c⟩:=p_op1 h1 h2 u
  obtain⟨d,e,f⟩:=p_op1 h1 h2 v
  unfold gp;rw[a,b,c,d,e,f];exact vG bx hz hy
 ·obtain⟨a,b,c⟩:=p_op2 h1 h2 u k
  obtain⟨d,e,f⟩:=p_op2 h1 h2 v k
  unfold gp;rw[a,b,c,d,e,f,sbB_cn (dV _ _) (dV _ _),pT bx]
theorem mP(n:Nat)(u v:P3):gp n v u=gp n u v:=by
 unfold gp
 rw[Ao (dV n u) (dV n v),Ao (eI n u) (eI n v),Ao (eJ n u) (eJ n v)]
 have bx:=bO (dV n u) (dV n v)
 have hy:=bO (eI n u) (eI n v)
 have hz:=bO (eJ n u) (eJ n v)
 rw[pT bx,C0 bx hy,lnB_cn3 bx hy hz]
def cl(x y z u v t:Nat):Nat:=lnB (sbB (mlB y t) (mlB z v)) (sbB (mlB z u) (mlB x t)) (sbB (mlB x v) (mlB y u))
def ar(n:Nat)(p q r s:P3):Nat:=cl (sbB (px n r) (px n p)) (sbB (py n r) (py n p)) (sbB (pz n r) (pz n p)) (sbB (px n s) (px n q)) (sbB (py n s) (py n q)) (sbB (pz n s) (pz n q))
def rops(t:Nat):List Nat:=[[],[0,2,1,0,2,0,1,0],[0,2,0,1],[1,0,2,0],[1,0,2,0,1,0],[2,0],[0,1],[2,1,0,2,1,0],[2,1,0,2,0,1],[2,0,2,0],[2,1],[2,0,2,1,0,2,1,0],[0,2],[2,0,2,1,0,2,0,1],[2,0,2,1],[0,2,1,0,2,0],[1,0],[2,0,1,0],[2,0,2,0,1,0],[0,2,1,0],[0,2,1,0,2,1],[1,0,2,1],[2,1,0,2],[2,0,2,1,0,2]].getD t []
theorem ro_ops(t:Nat)(ht:t<24)(v:P3):ro t v=(rops t).foldr op8 v:=by
 obtain⟨a,b,c⟩:=v
 have hl:t=0\/t=1\/t=2\/t=3\/t=4\/t=5\/t=6\/t=7\/t=8\/t=9\/t=10\/t=11\/t=12\/t=13\/t=14\/t=15\/t=16\/t=17\/t=18\/t=19\/t=20\/t=21\/t=22\/t=23:=by omega
 rcases hl with rfl | rfl | rfl | rfl | rfl | rfl | rfl | rfl | rfl | rfl | rfl | rfl | rfl | rfl | rfl | rfl | rfl | rfl | rfl | rfl | rfl | rfl | rfl | rfl<;>simp[ro,rX,rY,rZ,cC,prp,cx,pl,sc,rops,op8]
theorem gp_ro{n:Nat}(h1:1<=n)(h2:n<=32)(t:Nat)(ht:t<24)(u v:P3):gp n (ro t u) (ro t v)=gp n u v:=by
 rw[ro_ops t ht,ro_ops t ht]
 generalize rops t=l
 induction l with
 | nil=>rfl
 | cons k l ih=>simp only[List.foldr_cons];rw[tR h1 h2,ih]
end
section
open Tf Ieee Cu
theorem jE{n M c s t k:Nat}(hn:1<=n)(hM:6*n*n=M)(hc:c<M)(hs:s<4)(ht:t<24)(hk:k<M):
  (tnC n t c<M/\tnS n t c<4/\bsC n c s<M/\bsS n c s<4/\tnS n t (bsC n c s)<4)/\bsC n (tnC n t c) ((s+tnS n t c)%4)=tnC n t (bsC n c s)/\bsS n (tnC n t c) ((s+tnS n t c)%4)=(bsS n c s+tnS n t (bsC n c s))%4/\(tnC n t k=tnC n t c ↔ k=c)/\tnC n 0 c=c/\tnS n 0 c=0:=by
 subst hM
 obtain⟨f,a,b,hf,ha,hb,rfl⟩:=tG hn hc hs
 obtain⟨t1,t2⟩:=wT t ht f hf
 obtain⟨f1,f2⟩:=qI f hf s hs
 obtain⟨u1,u2⟩:=wT t ht _ f1
 obtain⟨b1,b2⟩:=lX (f:=f) hs ha hb
 obtain⟨c1,c2⟩:=wW ht hf hs ha hb
 obtain⟨z1,z2⟩:=tf_zero f hf
 obtain⟨d1,d2⟩:=wW (t:=0) (by omega) hf hs ha hb
 have hq:(s+tq t f)%4<4:=by omega
 have hzero:tnC n 0 (Pn n f s a b)=Pn n f s a b/\tnS n 0 (Pn n f s a b)=0:=by
  rw[d1,d2,z1,z2,Nat.add_zero,Nat.mod_eq_of_lt hs];exact⟨rfl,rfl⟩
 have hinj:tnC n t k=tnC n t (Pn n f s a b) ↔ k=Pn n f s a b:=by
  obtain⟨f',a',b',hf',ha',hb',rfl⟩:=tG hn hk hs
  obtain⟨g1,g2⟩:=wW ht hf' hs ha' hb'
  refine⟨fun e=> ?_,fun e=>by rw[e]⟩
  rw[g1,c1]at e
  have e1:=(nD (f:=tf t f') (show(s+tq t f')%4<4 by omega) ha' hb').1
  have e2:=(nD (f:=tf t f) hq ha hb).1
  rw[e,e2]at e1
  have ef:=tf_inj t ht f hf f' hf' e1
  subst ef
  obtain⟨_,h1,h2⟩:=Pn_inj hq ha' hb' ha hb e
  rw[h1,h2]
 obtain⟨v1,v2⟩:=nf_tf t ht f hf s hs
 by_cases h:a+1<n
 ·rw[if_pos h]at b1 b2
  obtain⟨e1,e2⟩:=wW (t:=t) (f:=f) (s:=s) (b:=b) ht hf hs h hb
  obtain⟨g1,g2⟩:=lX (f:=tf t f) hq ha hb
  rw[if_pos h]at g1 g2
  rw[b1,b2,e1,e2,c1,c2,g1,g2]
  refine⟨⟨tF t1 ha hb,t2,tF hf h hb,by omega,t2⟩,rfl,by omega,?_,hzero⟩
  rw[<- c1];exact hinj
 ·rw[if_neg h]at b1 b2
  have h0:0<n:=by omega
  obtain⟨e1,e2⟩:=wW (t:=t) ht f1 f2 h0 hb
  obtain⟨g1,g2⟩:=lX (f:=tf t f) hq ha hb
  rw[if_neg h,v1,v2]at g1
  rw[if_neg h,v2]at g2
  rw[b1,b2,e1,e2,c1,c2,g1,g2]
  refine⟨⟨tF t1 ha hb,t2,tF f1 h0 hb,by omega,u2⟩,rfl,by omega,?_,hzero⟩
  rw[<- c1];exact hinj
def cr(n f i j:Nat):P3:=pl (sc n (cC f)) (pl (sc (2*i - n) (cR f)) (sc (2*j - n) (cU f)))
def e1(n f s i j:Nat):P3:=match s with | 0=>cr n f (i+1) j | 1=>cr n f i (j+1) | 2=>cr n f i j | _=>cr n f i j
def e2(n f s i j:Nat):P3:=match s with | 0=>cr n f (i+1) (j+1) | 1=>cr n f (i+1) (j+1) | 2=>cr n f i (j+1) | _=>cr n f (i+1) j
def Ep(n f s i j:Nat):P3:=pl (pl (md n f i j) (wy f s)) (wy f ((s+1)%4))
def Em(n f s i j:Nat):P3:=pl (pl (md n f i j) (wy f s)) (sc (-1) (wy f ((s+1)%4)))
theorem e_cases{n f s i j:Nat}(hf:f<6)(hs:s<4):(e1 n f s i j=Ep n f s i j/\e2 n f s i j=Em n f s i j)\/(e1 n f s i j=Em n f s i j/\e2 n f s i j=Ep n f s i j):=by
 rcases Cu.four hs with rfl | rfl | rfl | rfl
 ·right
  rcases six hf with rfl | rfl | rfl | rfl | rfl | rfl<;>simp only[e1,e2,Ep,Em,cr,md,pl,sc,cC,cR,cU,wy,Nat.reduceAdd,Nat.reduceMod,Prod.mk.injEq]<;>omega
 ·left
  rcases six hf with rfl | rfl | rfl | rfl | rfl | rfl<;>simp only[e1,e2,Ep,Em,cr,md,pl,sc,cC,cR,cU,wy,Nat.reduceAdd,Nat.reduceMod,Prod.mk.injEq]<;>omega
 ·left
  rcases six hf with rfl | rfl | rfl | rfl | rfl | rfl<;>simp only[e1,e2,Ep,Em,cr,md,pl,sc,cC,cR,cU,wy,Nat.reduceAdd,Nat.reduceMod,Prod.mk.injEq]<;>omega
 ·right
  rcases six hf with rfl | rfl | rfl | rfl | rfl | rfl<;>simp only[e1,e2,Ep,Em,cr,md,pl,sc,cC,cR,cU,wy,Nat.reduceAdd,Nat.reduceMod,Prod.mk.injEq]<;>omega
def MD(n c:Nat):P3:=md n (cf n c) (ci n c) (cj n c)
def C1(n c s:Nat):P3:=e1 n (cf n c) s (ci n c) (cj n c)
def C2(n c s:Nat):P3:=e2 n (cf n c) s (ci n c) (cj n c)
def EP(n c s:Nat):P3:=Ep n (cf n c) s (ci n c) (cj n c)
def EM(n c s:Nat):P3:=Em n (cf n c) s (ci n c) (cj n c)
def LnC(n c s:Nat):Nat:=gp n (C1 n c s) (C2 n c s)
def GpC(n c s:Nat):Nat:=gp n (MD n c) (MD n (bsC n c s))
def ArC(n c:Nat):Nat:=ar n (cr n (cf n c) (ci n c) (cj n c)) (cr n (cf n c) (ci n c+1) (cj n c)) (cr n (cf n c) (ci n c+1) (cj n c+1)) (cr n (cf n c) (ci n c) (cj n c+1))
theorem vL{n c s:Nat}(hn:1<=n)(hc:c<6*n*n)(hs:s<4):LnC n c s=gp n (EP n c s) (EM n c s):=by
 have hf:=(eK hn hc).1
 unfold LnC C1 C2 EP EM
 rcases e_cases (n:=n) (i:=ci n c) (j:=cj n c) hf hs with⟨a,b⟩ | ⟨a,b⟩
 ·rw[a,b]
 ·rw[a,b,mP]
theorem rF{n f s a b:Nat}(hf:f<6)(hs:s<4)(ha:a<n)(hb:b<n):MD n (Pn n f s a b)=ms n f s a b/\cf n (Pn n f s a b)=f:=by
 have h:=oQ (s:=s) ha hb
 obtain⟨h1,h2,h3⟩:=uU (f:=f) h.1 h.2
 unfold MD Pn
 rw[h1,h2,h3,tE hf hs ha hb]
 exact⟨rfl,rfl⟩
theorem tS(n c s:Nat):EP n c s=pl (pl (MD n c) (wy (cf n c) s)) (wy (cf n c) ((s+1)%4)):=rfl
theorem tT(n c s:Nat):EM n c s=pl (pl (MD n c) (wy (cf n c) s)) (sc (-1) (wy (cf n c) ((s+1)%4))):=rfl
theorem alg1(m w v:P3):pl (pl (pl (pl m w) w) (sc (-1) w)) (sc (-1) v)=pl (pl m w) (sc (-1) v):=by simp only[pl,sc,Prod.mk.injEq];omega
theorem alg2(m w v:P3):pl (pl (pl (pl m w) w) (sc (-1) w)) (sc (-1) (sc (-1) v))=pl (pl m w) v:=by simp only[pl,sc,Prod.mk.injEq];omega
theorem alg3(m w c v:P3):pl (pl (pl (pl m w) (sc (-1) c)) c) (sc (-1) v)=pl (pl m w) (sc (-1) v):=by simp only[pl,sc,Prod.mk.injEq];omega
theorem alg4(m w c v:P3):pl (pl (pl (pl m w) (sc (-1) c)) c) (sc (-1) (sc (-1) v))=pl (pl m w) v:=by simp only[pl,sc,Prod.mk.injEq];omega
theorem oX{n c s:Nat}(hn:1<=n)(hc:c<6*n*n)(hs:s<4):EP n (bsC n c s) (bsS n c s)=EM n c s/\EM n (bsC n c s) (bsS n c s)=EP n c s:=by
 obtain⟨f,a,b,hf,ha,hb,rfl⟩:=tG hn hc hs
 obtain⟨b1,b2⟩:=lX (f:=f) hs ha hb
 obtain⟨m1,m2⟩:=rF hf hs ha hb
 have hw:=(lW f hf s hs).1
 by_cases h:a+1<n
 ·rw[if_pos h]at b1 b2
  obtain⟨m3,m4⟩:=rF hf hs h hb
  have hw':=(lW f hf ((s+1)%4) (by omega)).1
  rw[tS,tT,tS,tT,b1,b2,m1,m2,m3,m4,(Cc hf hs).2.symm,<- hw,show((s+2)%4+1)%4=((s+1)%4+2)%4 by omega,<- hw']
  exact⟨alg1 _ _ _,alg2 _ _ _⟩
 ·rw[if_neg h]at b1 b2
  obtain⟨f1,f2⟩:=qI f hf s hs
  obtain⟨m3,m4⟩:=rF (b:=b) f1 f2 (show 0<n by omega) hb
  have hC:=(lW f hf s hs).2
  have hw':=(lW (nf f s) f1 ((ns f s+1)%4) (by omega)).1
  have hon:=(wy_on f hf s hs).2.2
  rw[tS,tT,tS,tT,b1,b2,m1,m2,m3,m4,(Cd (b:=b) hf hs (show a+1=n by omega)).symm,<- hC,show((ns f s+2)%4+1)%4=((ns f s+1)%4+2)%4 by omega,<- hw',hon]
  exact⟨alg3 _ _ _ _,alg4 _ _ _ _⟩
theorem Aq{n c s:Nat}(hn:1<=n)(hc:c<6*n*n)(hs:s<4)(hc':bsC n c s<6*n*n)(hs':bsS n c s<4):LnC n (bsC n c s) (bsS n c s)=LnC n c s:=by
 rw[vL hn hc hs,vL hn hc' hs',(oX hn hc hs).1,(oX hn hc hs).2,mP]
theorem ro_pl(t:Nat)(p q:P3):ro t (pl p q)=pl (ro t p) (ro t q):=by
 simp only[ro,pl,sc,Prod.mk.injEq]
 refine⟨?_,?_,?_⟩<;>simp only[Int.add_mul]<;>omega
theorem ro_sc(t:Nat)(k:Int)(p:P3):ro t (sc k p)=sc k (ro t p):=by
 simp only[ro,pl,sc,Prod.mk.injEq]
 refine⟨?_,?_,?_⟩<;>simp only[Int.mul_add,Int.mul_assoc]
theorem ro_wy: ∀t<24,∀f<6,∀s<4,ro t (wy f s)=wy (tf t f) ((s+tq t f)%4):=by decide+kernel
theorem rG{n t c:Nat}(hn:1<=n)(hc:c<6*n*n)(ht:t<24):cf n (tnC n t c)=tf t (cf n c)/\MD n (tnC n t c)=ro t (MD n c):=by
 obtain⟨h1,h2,h3,_⟩:=eK hn hc
 obtain⟨t1,t2⟩:=wT t ht _ h1
 unfold tnC
 obtain⟨m1,m2⟩:=rF t1 t2 h2 h3
 refine⟨m2,?_⟩
 rw[m1]
 unfold MD
 rw[ro_md ht h1 h2 h3,tE t1 t2 h2 h3]
theorem tU{n t c s:Nat}(hn:1<=n)(hc:c<6*n*n)(hs:s<4)(ht:t<24):EP n (tnC n t c) ((s+tnS n t c)%4)=ro t (EP n c s)/\EM n (tnC n t c) ((s+tnS n t c)%4)=ro t (EM n c s):=by
 have h1:=(eK hn hc).1
 obtain⟨d1,d2⟩:=rG hn hc ht
 have w1:=ro_wy t ht _ h1 s hs
 have w2:=ro_wy t ht _ h1 ((s+1)%4) (by omega)
 rw[tS,tT,tS,tT,d1,d2]
 simp only[ro_pl,ro_sc,w1,w2]
 unfold tnS
 rw[show((s+tq t (cf n c))%4+1)%4=((s+1)%4+tq t (cf n c))%4 by omega]
 exact⟨rfl,rfl⟩
theorem len_turn{n t c s:Nat}(hn:1<=n)(h32:n<=32)(hc:c<6*n*n)(hs:s<4)(ht:t<24)(hc':tnC n t c<6*n*n):LnC n (tnC n t c) ((s+tnS n t c)%4)=LnC n c s:=by
 rw[vL hn hc hs,vL hn hc' (by omega),(tU hn hc hs ht).1,(tU hn hc hs ht).2,gp_ro hn h32 t ht]
theorem gap_turn{n t c s:Nat}(hn:1<=n)(h32:n<=32)(hc:c<6*n*n)(hs:s<4)(ht:t<24):GpC n (tnC n t c) ((s+tnS n t c)%4)=GpC n c s:=by
 obtain⟨h1,h2,-⟩:=jE (k:=c) hn rfl hc hs ht hc
 unfold GpC
 rw[h2,(rG hn hc ht).2,(rG hn h1.2.2.1 ht).2,gp_ro hn h32 t ht]
end
section
open Tf
def cq(way:Ieee.Toward)(x:Nat):Int:=if ng x then -((cutq way (ng x) (mv (mg x)) one:Nat):Int)else((cutq way (ng x) (mv (mg x)) one:Nat):Int)
def cOk(way:Ieee.Toward)(x:Nat):Bool:=fin x&&decide (-9223372036854775808<=cq way x)&&decide (cq way x<9223372036854775808)
def cI(way:Ieee.Toward)(x:Nat):Int:=if cOk way x then cq way x else 0
def itV(way:Ieee.Toward)(x:Nat):Nat:=Ieee.double.write ((Ieee.double.read x).integral way)
def wOk(y:Nat):Bool:=(fgt y 14114281232179134464||feq y 14114281232179134464)&&flt y 4890909195324358656
def wI(y:Nat):Int:=if wOk y then(if ng y then -((mv (mg y)/one:Nat):Int)else((mv (mg y)/one:Nat):Int))else 0
theorem vM:mv 4890909195324358656=2 ^ 63*one:=fS 63 _ (by decide)
theorem nX(y:Nat)(hy:y<18446744073709551616):wOk y=(!isN y&&decide (-4890909195324358656<=rk y)&&decide (rk y<4890909195324358656)):=by
 unfold wOk
 rw[eT y _ hy (by decide),gQ y _ hy (by decide),lM y _ hy (by decide)]
 have n1:isN 14114281232179134464=false:=by decide
 have n2:isN 4890909195324358656=false:=by decide
 have r1:rk 14114281232179134464= -4890909195324358656:=by decide
 have r2:rk 4890909195324358656=4890909195324358656:=by decide
 rw[n1,n2,r1,r2]
 cases isN y
 ·simp only[Bool.not_false,Bool.and_self,Bool.true_and]
  congr 1
  rw[<- Bool.decide_or]
  exact decide_eq_decide.2 (by omega)
 ·simp
theorem wOk_fin{y:Nat}(hy:y<18446744073709551616)(h:wOk y=true):mg y<=4890909195324358656/\(ng y=false->mg y<4890909195324358656):=by
 rw[nX y hy]at h
 simp only[Bool.and_eq_true,decide_eq_true_eq]at h
 obtain⟨⟨_,a⟩,b⟩:=h
 unfold rk at a b
 cases hn:ng y<;>rw[hn]at a b<;>simp only[Bool.false_eq_true,if_false,if_true]at a b
 ·exact⟨by omega,fun _=>by omega⟩
 ·exact⟨by omega,fun h=>by cases h⟩
theorem wI_conv{y:Nat}(hy:y<18446744073709551616)(h:wOk y=true):floatToIntVal .f64 y .i64=some (wI y):=by
 obtain⟨a,b⟩:=wOk_fin hy h
 unfold floatToIntVal
 have e:(FloatKind.f64.decode y).toInt .zero=some (if ng y then -((mv (mg y)/one:Nat):Int)else((mv (mg y)/one:Nat):Int)):=toInt_d y hy (by omega)
 rw[e]
 have hw:wI y=(if ng y then -((mv (mg y)/one:Nat):Int)else((mv (mg y)/one:Nat):Int)):=by unfold wI;rw[h];rfl
 rw[<- hw]
 have hle:mv (mg y)/one<=2 ^ 63:=by
  have h1:=mv_le.2 a
  rw[vM]at h1
  have h2:=Nat.div_le_div_right (c:=one) h1
  rwa [Nat.mul_div_cancel _ gI]at h2
 have hlt:ng y=false->mv (mg y)/one<2 ^ 63:=by
  intro h'
  rw[Nat.div_lt_iff_lt_mul gI,<- vM]
  exact mv_lt.2 (b h')
 have hb:IntKind.i64.min<=wI y/\wI y<=IntKind.i64.max:=by
  have m1:IntKind.i64.min= -9223372036854775808:=by decide
  have m2:IntKind.i64.max=9223372036854775807:=by decide
  rw[m1,m2,hw]
  generalize mv (mg y)/one=q at*
  cases hn:ng y
  ·have:=hlt hn
   simp only[Bool.false_eq_true,if_false];omega
  ·simp only[if_true];omega
 simp only[hb,and_self,if_true]
theorem Ar(way:Ieee.Toward)(x:Nat):itV way x<18446744073709551616:=Ieee.double.write_lt _
theorem pV(way:Ieee.Toward)(x:Nat)(hx:x<18446744073709551616)(fx:mg x<9218868437227405312):
  ng (itV way x)=ng x/\mg (itV way x)<9218868437227405312/\mv (mg (itV way x))=cutq way (ng x) (mv (mg x)) one*one:=by
 obtain⟨r,hr,e,hw⟩:=Ad way x hx fx
 have hw':itV way x=if ng x then 9223372036854775808+r else r:=hw
 rw[hw']
 cases hn:ng x
 ·simp only[Bool.false_eq_true,if_false]
  rw[bK (by omega),aZ (by omega)]
  exact⟨rfl,hr,by rw[hn]at e;exact e⟩
 ·simp only[if_true]
  rw[qU (by omega),mF (by omega) (by omega)]
  rw[show 9223372036854775808+r - 9223372036854775808=r by omega]
  exact⟨rfl,hr,by rw[hn]at e;exact e⟩
theorem sv_itV(way:Ieee.Toward)(x:Nat)(hx:x<18446744073709551616)(fx:mg x<9218868437227405312):sv (itV way x)=cq way x*one:=by
 obtain⟨a,_,c⟩:=pV way x hx fx
 unfold sv cq
 rw[a,c]
 cases ng x<;>simp[Int.neg_mul]
theorem C6(way:Ieee.Toward)(x:Nat)(hx:x<18446744073709551616)(fx:mg x=9218868437227405312):itV way x=x:=by
 have ei:=bW
 unfold itV
 rw[cQ Ieee.double x gG (by rw[cW];omega),fR x hx]
 simp only[Ieee.Datum.integral,Ieee.Format.write]
 rw[dW,bW]
 have hw:=jC x hx
 rw[fx]at hw
 exact hw.symm
theorem sv_p63:sv 4890909195324358656=9223372036854775808*(one:Int):=by
 unfold sv
 have h1:ng 4890909195324358656=false:=by decide
 have h2:mg 4890909195324358656=4890909195324358656:=by decide
 rw[h1,h2,vM]
 simp only[Bool.false_eq_true,if_false,Int.natCast_mul]
 rfl
theorem sv_n63:sv 14114281232179134464= -9223372036854775808*(one:Int):=by
 unfold sv
 have h1:ng 14114281232179134464=true:=by decide
 have h2:mg 14114281232179134464=4890909195324358656:=by decide
 rw[h1,h2,vM]
 simp only[if_true,Int.natCast_mul,<- Int.neg_mul]
 rfl
theorem onep:(0:Int)<(one:Int):=by exact_mod_cast gI
theorem pW(way:Ieee.Toward)(x:Nat)(hx:x<18446744073709551616)(n:isN x=false):wOk (itV way x)=cOk way x:=by
 have hle:=cF.1 n
 by_cases fx:mg x<9218868437227405312
 ·obtain⟨a,b,c⟩:=pV way x hx fx
  have hn:isN (itV way x)=false:=cF.2 (by omega)
  rw[nX _ (Ar way x),hn]
  unfold cOk
  have hf:fin x=true:=by unfold fin;exact decide_eq_true fx
  rw[hf]
  have r1:rk 14114281232179134464= -4890909195324358656:=by decide
  have r2:rk 4890909195324358656=4890909195324358656:=by decide
  have s1:=kL (itV way x) 14114281232179134464
  have s2:=kL (itV way x) 4890909195324358656
  rw[r1,sv_itV way x hx fx,sv_n63,Int.mul_lt_mul_right onep]at s1
  rw[r2,sv_itV way x hx fx,sv_p63,Int.mul_lt_mul_right onep]at s2
  have t1:decide (-4890909195324358656<=rk (itV way x))=decide (-9223372036854775808<=cq way x):=decide_eq_decide.2 (by omega)
  have t2:decide (rk (itV way x)<4890909195324358656)=decide (cq way x<9223372036854775808):=decide_eq_decide.2 (by omega)
  rw[t1,t2];simp
 ·have e:mg x=9218868437227405312:=by omega
  rw[C6 way x hx e,nX x hx,n]
  unfold cOk
  have hf:fin x=false:=by unfold fin;exact decide_eq_false fx
  rw[hf]
  unfold rk;rw[e]
  cases ng x<;>simp
theorem wI_itV(way:Ieee.Toward)(x:Nat)(hx:x<18446744073709551616)(n:isN x=false):wI (itV way x)=cI way x:=by
 unfold wI cI
 rw[pW way x hx n]
 cases h:cOk way x
 ·rfl
 ·have fx:mg x<9218868437227405312:=by
   unfold cOk at h
   simp only[Bool.and_eq_true]at h
   have:=h.1.1
   unfold fin at this
   simpa using this
  obtain⟨a,b,c⟩:=pV way x hx fx
  rw[if_pos rfl,if_pos rfl,a,c,Nat.mul_div_cancel _ gI]
  rfl
theorem vN{y:Nat}(hy:y<18446744073709551616)(n:isN y=true):wOk y=false/\wI y=0:=by
 have h:wOk y=false:=by rw[nX y hy,n];rfl
 exact⟨h,by unfold wI;rw[h];rfl⟩
theorem C7(way:Ieee.Toward){x:Nat}(n:isN x=true):cOk way x=false/\cI way x=0:=by
 have h:cOk way x=false:=by
  unfold cOk fin
  have:=bJ.1 n
  rw[decide_eq_false (by omega)];rfl
 exact⟨h,by unfold cI;rw[h];rfl⟩
end
section
open Go.RowKit Tf
attribute [local go_sem] aJ aK aN aO aP aQ aV
def snan(w:World)(x:Nat):Nat:=
 if(Question.extern "math.Floor,Ceil,Trunc,RoundToEven.signallingNaN kept" 2).cut (w.tape w.drawn (Question.extern "math.Floor,Ceil,Trunc,RoundToEven.signallingNaN kept" 2))==1 then x
 else FloatKind.f64.encode (.nan (sg Ieee.double x) (FloatKind.f64.format.quiet (rg Ieee.double x - Ieee.double.infRung)))
theorem or_bit(t:Nat)(h:t<4503599627370496):Ieee.double.quiet t%4503599627370496=Ieee.double.quiet t/\0<Ieee.double.quiet t:=by
 have e:Ieee.double.quiet t=t ||| 2 ^ 51:=rfl
 rw[e]
 have h1:t ||| 2 ^ 51<2 ^ 52:=Nat.or_lt_two_pow (by omega) (by omega)
 have h2:2 ^ 51<=t ||| 2 ^ 51:=Nat.right_le_or
 omega
theorem xV(w:World)(x:Nat)(hx:x<18446744073709551616)(n:isN x=true):snan w x<18446744073709551616/\isN (snan w x)=true:=by
 have ei:=bW
 have hm:=qS x
 have hn:=bJ.1 n
 unfold snan
 split
 ·exact⟨hx,n⟩
 ·rw[cW,fR x hx,ei]
  obtain⟨q1,q2⟩:=or_bit (mg x - 9218868437227405312) (by omega)
  have e: ∀(b:Bool) (t:Nat),FloatKind.f64.encode (.nan b t)=if b then 9223372036854775808+(9218868437227405312+t%4503599627370496)else 9218868437227405312+t%4503599627370496:=by
   intro b t
   show Ieee.double.word b (Ieee.double.infRung+t%Ieee.double.binade)=_
   rw[dW,bW,d_bin]
  rw[e]
  change (if ng x=true then 9223372036854775808+(9218868437227405312+Ieee.double.quiet (mg x - 9218868437227405312)%4503599627370496)else 9218868437227405312+Ieee.double.quiet (mg x - 9218868437227405312)%4503599627370496)<_/\isN (if ng x=true then 9223372036854775808+(9218868437227405312+Ieee.double.quiet (mg x - 9218868437227405312)%4503599627370496)else 9218868437227405312+Ieee.double.quiet (mg x - 9218868437227405312)%4503599627370496)=true
  generalize Ieee.double.quiet (mg x - 9218868437227405312)=t at*
  have ht:t%4503599627370496<4503599627370496:=Nat.mod_lt _ (by decide)
  rw[bJ]
  cases ng x
  ·simp only[Bool.false_eq_true,if_false]
   refine⟨by omega,?_⟩
   rw[aZ (by omega)];omega
  ·simp only[if_true]
   refine⟨by omega,?_⟩
   rw[mF (by omega) (by omega)];omega
def qNaN(x:Nat):Bool:=FloatKind.f64.format.quiet (rg Ieee.double x - Ieee.double.infRung)==rg Ieee.double x - Ieee.double.infRung
theorem ext_num(nm:String)(way:Ieee.Toward)(x:Nat)(n:isN x=false):Extern.MathFloor.toIntegral nm way #[.float .f64 x]=pure (.float .f64 (itV way x)):=by
 have ei:=bW
 have h:=cF.1 n
 unfold itV
 by_cases c:mg x<9218868437227405312
 ·obtain⟨m,a,e,_⟩:=cE Ieee.double x (by rw[cW];omega)
  show(match Ieee.double.read x with | .nan _ _=>_ | _=>_)=_
  rw[e];rfl
 ·show(match Ieee.double.read x with | .nan _ _=>_ | _=>_)=_
  rw[cQ Ieee.double x gG (by rw[cW];omega)];rfl
theorem ext_nan(nm:String)(way:Ieee.Toward)(x:Nat)(n:isN x=true)(q:qNaN x=true):Extern.MathFloor.toIntegral nm way #[.float .f64 x]=pure (.float .f64 x):=by
 have ei:=bW
 have h:=bJ.1 n
 unfold qNaN at q
 show(match Ieee.double.read x with | .nan _ _=>_ | _=>_)=_
 rw[dY Ieee.double x gG (by rw[cW];omega)]
 dsimp only
 rw[if_pos (by simpa using q)]
theorem ext_snan(nm:String)(way:Ieee.Toward)(x:Nat)(n:isN x=true)(q:qNaN x=false)(P:Program)(w:World):(Extern.MathFloor.toIntegral nm way #[.float .f64 x]).run P w=.ok (.float .f64 (snan w x)) w.drew:=by
 have ei:=bW
 have h:=bJ.1 n
 unfold qNaN at q
 show Sem.run P (match Ieee.double.read x with | .nan _ _=>_ | _=>_) w=_
 rw[dY Ieee.double x gG (by rw[cW];omega)]
 dsimp only
 rw[if_neg (by simpa using q)]
 simp[Question.forced,snan]
theorem run_even(x:Nat)(w:World)(n:isN x=false):(callFunc 70 #[.float .f64 x]).run prog w=.ok (.value (.float .f64 (itV .even x))) w:=by
 rw[run_callFunc_extern (e:=Extern.MathFloor.toIntegral "math.RoundToEven" .even) func70 (by kernel_rfl) (by kernel_rfl) (by kernel_rfl) (by kernel_rfl),ext_num _ _ x n]
 rfl
theorem vO(x:Nat)(w:World)(n:isN x=true)(q:qNaN x=true):(callFunc 70 #[.float .f64 x]).run prog w=.ok (.value (.float .f64 x)) w:=by
 rw[run_callFunc_extern (e:=Extern.MathFloor.toIntegral "math.RoundToEven" .even) func70 (by kernel_rfl) (by kernel_rfl) (by kernel_rfl) (by kernel_rfl),ext_nan _ _ x n q]
 rfl
theorem sY(x:Nat)(w:World)(n:isN x=true)(q:qNaN x=false):(callFunc 70 #[.float .f64 x]).run prog w=.ok (.value (.float .f64 (snan w x))) w.drew:=by
 rw[run_callFunc_extern (e:=Extern.MathFloor.toIntegral "math.RoundToEven" .even) func70 (by kernel_rfl) (by kernel_rfl) (by kernel_rfl) (by kernel_rfl),ext_snan _ _ x n q]
 rfl
theorem rH(y:Nat)(i:Int)(ok:Bool)(w:World)(hy:y<18446744073709551616)(hi:wI y=i)(ho:wOk y=ok):
  Calls prog 69 #[.float .f64 y] w fun e w'=>e=.returned (.tuple #[.int .i64 i,.bool ok])/\w'=w:=by
 have hc:wOk y=true->floatToIntVal .f64 y .i64=some i:=by intro h;rw[wI_conv hy h,hi]
 have h0:wOk y=false->i=0:=by intro h;rw[<- hi];unfold wI;rw[h];rfl
 have hw:wOk y=((fgt y 14114281232179134464||feq y 14114281232179134464)&&flt y 4890909195324358656):=rfl
 clear hi
 cases hg:(fgt y 14114281232179134464||feq y 14114281232179134464)
 ·rw[hg]at hw
  have hw':wOk y=false:=hw
  obtain rfl:=h0 hw'
  obtain rfl:ok=false:=by rw[<- ho,hw']
  clear hw hw' h0 hc ho
  go_enter func69,ntmps69
  go_wp2
  go_ret2
  exact⟨rfl,rfl⟩
 ·cases hl:flt y 4890909195324358656
  ·rw[hg,hl]at hw
   have hw':wOk y=false:=hw
   obtain rfl:=h0 hw'
   obtain rfl:ok=false:=by rw[<- ho,hw']
   clear hw hw' h0 hc ho
   go_enter func69,ntmps69
   go_wp2
   go_ret2
   exact⟨rfl,rfl⟩
  ·rw[hg,hl]at hw
   have hw':wOk y=true:=hw
   obtain rfl:ok=true:=by rw[<- ho,hw']
   have hcv:=fun(w:World)=>run_convert_float_int (P:=prog) w 35 2 .f64 .i64 y i (by kernel_rfl) (by kernel_rfl) (hc hw')
   clear hw hw' h0 hc ho
   go_enter func69,ntmps69
   go_wp2
   go_ret2
   exact⟨rfl,rfl⟩
theorem iT(x:Nat)(i:Int)(ok:Bool)(w:World)(hx:x<18446744073709551616)(hi:cI .even x=i)(ho:cOk .even x=ok):
  Calls prog 41 #[.float .f64 x] w fun e w'=>e=.returned (.tuple #[.int .i64 i,.bool ok])/\ ∃n,w'=w.drewN n:=by
 cases n:isN x
 ·have r:=fun(w:World)=>run_even x w n
  have l:=Ar .even x
  have a:=wI_itV .even x hx n
  have b:=pW .even x hx n
  rw[hi]at a
  rw[ho]at b
  generalize itV .even x=y at*
  clear hi ho n
  go_enter func41,ntmps41
  go_wp2_with fail
  refine(rH y i ok _ l a b).mono ?_
  rintro e w' ⟨rfl,rfl⟩
  go_wp2
  go_ret2
  exact⟨rfl,0,rfl⟩
 ·obtain⟨h1,h2⟩:=C7 .even n
  rw[hi]at h2
  rw[ho]at h1
  subst h1 h2
  cases q:qNaN x
  ·have r:=fun(w:World)=>sY x w n q
   have l:=fun(w:World)=>(xV w x hx n).1
   have l2:=fun(w:World)=>vN (l w) (xV w x hx n).2
   clear hi ho n q
   go_enter func41,ntmps41
   go_wp2_with fail
   refine(rH _ 0 false _ (l _) (l2 _).2 (l2 _).1).mono ?_
   rintro e w' ⟨rfl,rfl⟩
   go_wp2
   go_ret2
   exact⟨rfl,1,rfl⟩
  ·have r:=fun(w:World)=>vO x w n q
   have l2:=vN hx n
   clear hi ho n q
   go_enter func41,ntmps41
   go_wp2_with fail
   refine(rH x 0 false _ hx l2.2 l2.1).mono ?_
   rintro e w' ⟨rfl,rfl⟩
   go_wp2
   go_ret2
   exact⟨rfl,0,rfl⟩
theorem fG(x:Nat)(w:World)(hx:x<18446744073709551616):
  Calls prog 177 #[.float .f64 x] w fun e w'=>e=.returned (.bool (isN x))/\w'=w:=by
 obtain⟨c,hc⟩:=aB (classB x)
 have h:(c==4)=isN x:=by
  rw[<- hc];unfold classB isN
  have:=qS x
  by_cases c0:mg x=0
  ·rw[if_pos c0,c0];rfl
  ·by_cases c1:mg x<4503599627370496
   ·rw[if_neg c0,if_pos c1,decide_eq_false (by omega)];rfl
   ·by_cases c2:mg x<9218868437227405312
    ·rw[if_neg c0,if_neg c1,if_pos c2,decide_eq_false (by omega)];rfl
    ·by_cases c3:mg x=9218868437227405312
     ·rw[if_neg c0,if_neg c1,if_neg c2,if_pos c3,decide_eq_false (by omega)];rfl
     ·rw[if_neg c0,if_neg c1,if_neg c2,if_neg c3,decide_eq_true (by omega)];rfl
 obtain⟨b,hb⟩:=aB (isN x)
 rw[hb]at h ⊢
 have C:Hid (∀w,Calls prog 194 #[.float .f64 x] w fun e w'=>e=.returned (.int .i64 c)/\w'=w):=by
  intro w;rw[<- hc];exact tN x w hx
 clear hc hb
 go_enter func177,ntmps177
 go_wp2_with fail
 refine(C.out _).mono ?_
 rintro e w' ⟨rfl,rfl⟩
 go_wp2
 go_ret
 exact⟨rfl,rfl⟩
theorem jX(n:Int)(w:World):
  Calls prog 20 #[.int .i64 n] w fun e w'=>e=.returned (.float .f64 (rn false (n*one)))/\w'=w:=by
 have hc:=fun(w:World)=>run_convert_int_float (P:=prog) w 2 35 .i64 .f64 n (by kernel_rfl) (by kernel_rfl)
 have e:floatOfInt .f64 n=rn false (n*one):=ofInt_d n
 rw[e]at hc
 generalize rn false (n*one)=y at*
 clear e
 go_enter func20,ntmps20
 go_wp2
 go_ret
 exact⟨rfl,rfl⟩
end
end Go.Proofs.YtmhnilnaffjhmaaGreatDoor
