/-
  Some of the texts of this proof, one behind the other.
-/
import Derived.ProofKit
import Derived.OpenShut
import Derived.WalkLawsBesides
import Derived.Stop.Joined
import Derived.Carry
import Derived.Lib.SmallJoins
import Derived.Deep.SlicePairs
import Derived.Deep.Slices
import Derived.SizedLaws
import Derived.Test.YtdeammhdedcjlaaKc08
set_option maxRecDepth 100000
set_option maxHeartbeats 400000000
namespace Go.Proofs.Ytdeammhdedcjlaa
open _root_.Go.Proofs.Try
section
open Go.RowKit Go.Deep Tf Cu
namespace Ti
def TilesAt(W0:World)(n m:Nat)(W:Nat->Int)(gl:Nat)(gs:Nat->Nat)(w:World):Prop:=
 Below W0.heap.size W0 w/\W0.heap.size<=gl/\w.rowIs gl 25 24 (tcv n m W gs)/\(∀j,j<6->gl<gs j/\w.rowIs (gs j) 22 m (fun k=>.int .u32 ((tb n W (j*m+k):Nat):Int)))/\ ∀i j,i<j->j<6->gs i<gs j
theorem tiles_ok(side:Int)(pb:Option Addr)(lb cb:Nat)(B:Nat->Nat)(pw:Option Addr)(lw cw:Nat)(W:Nat->Int)(pt:Option Addr)(lt ct:Nat)(T:Nat->Int)(ps:Option Addr)(ls cs:Nat)(S:Nat->Nat)(sky st:Int)(w:World)(i1:IsFl w pb lb B)(i2:Sh.IsI w pw lw W)(i3:Sh.IsI w pt lt T)(i4:IsFl w ps ls S)(h:(Ss.chk side lb lw lt ls B W T S sky st).2=0):
  Calls prog 12 #[.int .i64 side,.agg #[.slice pb lb cb,.slice pw lw cw,.slice pt lt ct,.slice ps ls cs,.int .i64 sky,.int .i64 st]] w fun e w'=> ∃gl gs,e=.returned (.tuple #[.slice (some ⟨gl,0,none⟩) 6 6,.int .i64 0])/\TilesAt w side.toNat (side.toNat*side.toNat) W gl gs w':=by
 obtain⟨n,rfl,hn,hl,h0⟩:=chk_sea h
 have m1:=cQ hn.1 hn.2
 obtain⟨b,o,rfl⟩:=i2.some0 (by omega)
 rw[Int.toNat_natCast]
 exact tiles_go n (n*n) pb lb cb b o lw cw W pt lt ct ps ls cs sky st _ w hn rfl hl i2 h0 (hid fun v a=>by
  have q:=Ss.check_at (n:Nat) pb lb cb B (some ⟨b,o,none⟩) lw cw W pt lt ct T ps ls cs S sky st v (i1.below a) (i2.below a) (i3.below a) (i4.below a)
  rw[h]at q
  exact q)
theorem f4_lt(i:Nat)(hi:i<4):f4 i<4294967296:=by
 have c:i=0\/i=1\/i=2\/i=3:=by omega
 rcases c with rfl | rfl | rfl | rfl<;>decide
theorem nV(w:World):Calls prog 18 #[] w fun e w'=> ∃g,e=.returned (.agg #[.int .i64 5,.int .u32 0,.int .u32 1073741824,.slice (some ⟨g,0,none⟩) 4 4])/\Below w.heap.size w w'/\w.heap.size<=g/\w'.rowIs g 22 4 (fun i=>.int .u32 ((f4 i:Nat):Int)):=by
 have BL: ∀v:World,(Instr.buildSlice 23 4 #[(0,.int .u32 1065353216),(1,.int .u32 1073741824),(2,.int .u32 0),(3,.int .u32 1065353216)]).run prog v=.ok (.slice (some ⟨v.heap.size,0,none⟩) 4 4) (v.alloc (.cells #[.int .u32 1065353216,.int .u32 1073741824,.int .u32 0,.int .u32 1065353216] 22)):=fun v=>by simp[go_sem,Instr.buildSlice,run_underlying underlying23]
 obtain⟨A0,R0⟩:=aD w (.cells #[.int .i64 0,.int .u32 0,.int .u32 0,.slice none 0 0] 25)
 go_enter func18,ntmps18
 go_upto_region 1 with fail
 generalize hW:World.alloc w _=V0 at*
 obtain⟨gr,hgr⟩:=aB w.heap.size
 have HG:Hid (w.heap.size<=gr):=by show _<=_;omega
 rw[hgr]at R0 ⊢
 clear hgr hW
 obtain⟨A1,R1⟩:=aD V0 (.cells #[.int .u32 1065353216,.int .u32 1073741824,.int .u32 0,.int .u32 1065353216] 22)
 have R2:=hid (A1.out.heap R0.out)
 have A2:=hid (A0.out.trans A1.out)
 have t0:=aA 0 R2.out
 have t1:=aA 1 R2.out
 have t2:=aA 2 R2.out
 have t3:=aA 3 R2.out
 have f0:=aC R2.out 0
 have f1:=aC R2.out 1
 have f2:=aC R2.out 2
 have f3:=aC R2.out 3
 have LZ:Hid (gr<V0.heap.size/\w.heap.size<=V0.heap.size):=⟨lt_of_block R0.out,A0.out.size⟩
 go_wp2_with fail
 (try simp only[Exit.inBlock,Exit.then])
 have ne:V0.heap.size≠gr:=by have:=LZ.out;omega
 have RW:(V0.alloc (.cells #[.int .u32 1065353216,.int .u32 1073741824,.int .u32 0,.int .u32 1065353216] 22)).rowIs V0.heap.size 22 4 (fun i=>.int .u32 ((f4 i:Nat):Int)):=⟨_,R1.out,rfl,fun i hi=>by
  have c:i=0\/i=1\/i=2\/i=3:=by omega
  rcases c with rfl | rfl | rfl | rfl<;>rfl⟩
 refine bodyPost_ret (v:=.agg #[.int .i64 5,.int .u32 0,.int .u32 1073741824,.slice (some ⟨V0.heap.size,0,none⟩) 4 4]) ?_ rfl ?_
 ·exact results_cell_row results18 _ _ gr _ _ (0,0) _ rfl (fM R2.out) underlying25 rfl (by kernel_rfl)
 ·exact⟨_,rfl,(((A2.out.setk HG.out _).setk HG.out _).setk HG.out _).setk HG.out _,LZ.out.2,(((RW.setOther (a:=⟨gr,0,none⟩) ne _).setOther (a:=⟨gr,1,none⟩) ne _).setOther (a:=⟨gr,2,none⟩) ne _).setOther (a:=⟨gr,3,none⟩) ne _⟩
theorem run_bs{P:Program}{a:Act}{o:Oper}{t:TypeId}{n:Nat}{ps:Array (Nat × Operand)}{vs:Array (Nat × Value)}{u:Value}{w w':World}(ho:o.op=.buildSlice t n ps)(hv:(ps.map fun(i,x)=>(i,a.eval x))=vs)(M:(Instr.buildSlice t n vs).run P w=.ok u w'):(execOp a.eval o).run P w=.ok (.value u) w':=by
 unfold execOp
 rw[ho]
 simp only[hv]
 exact Cx.run_val M
theorem pE{P:Program}{a:Act}{o:Oper}{x y:Operand}{f:FuncId}{fn:Func}{ats:Array TypeId}{v u:Value}(ho:o.op=.call {callee:=.value (.func f),args:= #[x,y],argTypes:=ats})(hx:a.eval x=v)(hy:a.eval y=u)(hf:P.funcs[f]? =some fn)(hn:(fn.name== "runtime.NumGoroutine")=false)(hb:fn.body.isNone=false)(w:World):(execOp a.eval o).run P w=.ok (.enter f #[v,u]) w:=by
 have h1:fn.name≠ "runtime.NumGoroutine" :=by simpa using hn
 have ef:a.eval (.func f)=.func (.func f) #[] #[]:=rfl
 have e:execOp a.eval o=callFunc f #[v,u]:=by
  unfold execOp
  simp[ho,resolve,Deferred.ofValue,invoke,ef,hx,hy]
 obtain⟨c,hc⟩: ∃c,fn.body=some c:=by
  cases h:fn.body with
  | none=>simp[h]at hb
  | some c=>exact⟨c,rfl⟩
 rw[e]
 simp[callFunc,hf,h1,hc]
def hdB(l:List Nat):Nat:=l.headD 0
def RL(ob:Obj)(x:Cx.Ix)(w:World):Prop:= ∃b,x.1=[b]/\w.heap[b]? =some ob
def RB(x:Cx.Ix)(w:World):Prop:= ∃b1 b2 b3 b4,x.2=.agg #[.slice (some ⟨b1,0,none⟩) 6 6,.slice (some ⟨b2,0,none⟩) 6 6,.slice (some ⟨b3,0,none⟩) 6 6,.slice (some ⟨b4,0,none⟩) 12 12,.int .i64 0,.int .i64 0]/\w.heap[b1]? =some (Obj.cells (madeCells #[.float .f64 0] 6) 47)/\w.heap[b2]? =some (Obj.cells #[.int .i64 1431655765,.int .i64 0,.int .i64 0,.int .i64 0,.int .i64 0,.int .i64 0] 2)/\w.heap[b3]? =some (Obj.cells (madeCells #[.int .i64 0] 6) 2)/\w.heap[b4]? =some (Obj.cells (madeCells #[.float .f64 0] 12) 47)
def RT(x:Cx.Ix)(w:World):Prop:= ∃gl gs,x.1=[gl]/\w.rowIs gl 25 24 (tcv 1 1 W6 gs)
theorem jQ{ob:Obj}{x:Cx.Ix}{w w':World}(h:RL ob x w)(a:Ab w w'):RL ob x w':=by
 obtain⟨b,e,h⟩:=h
 exact⟨b,e,a.heap h⟩
theorem rb_stb{x:Cx.Ix}{w w':World}(h:RB x w)(a:Ab w w'):RB x w':=by
 obtain⟨b1,b2,b3,b4,e,h1,h2,h3,h4⟩:=h
 exact⟨b1,b2,b3,b4,e,a.heap h1,a.heap h2,a.heap h3,a.heap h4⟩
theorem rt_stb{x:Cx.Ix}{w w':World}(h:RT x w)(a:Ab w w'):RT x w':=by
 obtain⟨gl,gs,e,h⟩:=h
 exact⟨gl,gs,e,Sh.bA h a⟩
theorem stb_aw:Cx.Stable (fun k=>if k=0 then some (RL (Obj.cells (madeCells #[.float .f64 0] 6) 47),fun x=>.slice (some ⟨hdB x.1,0,none⟩) 6 6)else if k=1 then some (RL (Obj.cells #[.int .i64 1431655765,.int .i64 0,.int .i64 0,.int .i64 0,.int .i64 0,.int .i64 0] 2),fun x=>.slice (some ⟨hdB x.1,0,none⟩) 6 6)else if k=2 then some (RL (Obj.cells (madeCells #[.int .i64 0] 6) 2),fun x=>.slice (some ⟨hdB x.1,0,none⟩) 6 6)else if k=3 then some (RL (Obj.cells (madeCells #[.float .f64 0] 12) 47),fun x=>.slice (some ⟨hdB x.1,0,none⟩) 12 12)else if k=4 then some (RB,fun x=>x.2)else if k=5 then some (RT,fun x=>.tuple #[.slice (some ⟨hdB x.1,0,none⟩) 6 6,.int .i64 0])else none):=fun i R mk h x v v' hr ha=>by
 rcases Nat.decEq i 0 with q0 | q0
 rotate_left
 ·subst q0
  simp only[if_true,Option.some.injEq,Prod.mk.injEq]at h
  obtain⟨h1,h2⟩:=h
  subst h1 h2
  exact jQ hr ha
 rcases Nat.decEq i 1 with q1 | q1
 rotate_left
 ·subst q1
  simp only[if_true,if_neg (show¬(1:Nat)=0 by decide),Option.some.injEq,Prod.mk.injEq]at h
  obtain⟨h1,h2⟩:=h
  subst h1 h2
  exact jQ hr ha
 rcases Nat.decEq i 2 with q2 | q2
 rotate_left
 ·subst q2
  simp only[if_true,if_neg (show¬(2:Nat)=0 by decide),if_neg (show¬(2:Nat)=1 by decide),Option.some.injEq,Prod.mk.injEq]at h
  obtain⟨h1,h2⟩:=h
  subst h1 h2
  exact jQ hr ha
 rcases Nat.decEq i 3 with q3 | q3
 rotate_left
 ·subst q3
  simp only[if_true,if_neg (show¬(3:Nat)=0 by decide),if_neg (show¬(3:Nat)=1 by decide),if_neg (show¬(3:Nat)=2 by decide),Option.some.injEq,Prod.mk.injEq]at h
  obtain⟨h1,h2⟩:=h
  subst h1 h2
  exact jQ hr ha
 rcases Nat.decEq i 4 with q4 | q4
 rotate_left
 ·subst q4
  simp only[if_true,if_neg (show¬(4:Nat)=0 by decide),if_neg (show¬(4:Nat)=1 by decide),if_neg (show¬(4:Nat)=2 by decide),if_neg (show¬(4:Nat)=3 by decide),Option.some.injEq,Prod.mk.injEq]at h
  obtain⟨h1,h2⟩:=h
  subst h1 h2
  exact rb_stb hr ha
 rcases Nat.decEq i 5 with q5 | q5
 rotate_left
 ·subst q5
  simp only[if_true,if_neg (show¬(5:Nat)=4 by decide),if_neg (show¬(5:Nat)=0 by decide),if_neg (show¬(5:Nat)=1 by decide),if_neg (show¬(5:Nat)=2 by decide),if_neg (show¬(5:Nat)=3 by decide),Option.some.injEq,Prod.mk.injEq]at h
  obtain⟨h1,h2⟩:=h
  subst h1 h2
  exact rt_stb hr ha
 ·simp only[if_neg q0,if_neg q1,if_neg q2,if_neg q3,if_neg q4,if_neg q5]at h
  cases h
theorem lB:(Try.prog.info? 47).map (fun i=>(i.zero,i.size,i.bytes))=some (some (.float .f64 0),1,8):=by kernel_rfl
theorem hP(w:World):Calls prog 8 #[] w fun e w'=>e=.returned (.bool true)/\Below w.heap.size w w':=by
 have M1: ∀v:World,(Instr.makeSlice 37 (.int .i64 6) (.int .i64 6)).run prog v=.ok (.slice (some ⟨v.heap.size,0,none⟩) 6 6) (v.alloc (Obj.cells (madeCells #[.float .f64 0] 6) 47)):=fun v=>run_make_row' (P:=prog) 37 47 (.float .f64 0) 8 underlying37 lB rfl .i64 .i64 6 (by omega) (by omega) v
 have M2: ∀v:World,(Instr.makeSlice 38 (.int .i64 6) (.int .i64 6)).run prog v=.ok (.slice (some ⟨v.heap.size,0,none⟩) 6 6) (v.alloc (Obj.cells (madeCells #[.int .i64 0] 6) 2)):=fun v=>run_make_row' (P:=prog) 38 2 (.int .i64 0) 8 underlying38 Sh.info64 rfl .i64 .i64 6 (by omega) (by omega) v
 have M3: ∀v:World,(Instr.makeSlice 37 (.int .i64 12) (.int .i64 12)).run prog v=.ok (.slice (some ⟨v.heap.size,0,none⟩) 12 12) (v.alloc (Obj.cells (madeCells #[.float .f64 0] 12) 47)):=fun v=>run_make_row' (P:=prog) 37 47 (.float .f64 0) 8 underlying37 lB rfl .i64 .i64 12 (by omega) (by omega) v
 have BL: ∀v:World,(Instr.buildSlice 38 6 #[(0,.int .i64 1431655765),(1,.int .i64 0),(2,.int .i64 0),(3,.int .i64 0),(4,.int .i64 0),(5,.int .i64 0)]).run prog v=.ok (.slice (some ⟨v.heap.size,0,none⟩) 6 6) (v.alloc (.cells #[.int .i64 1431655765,.int .i64 0,.int .i64 0,.int .i64 0,.int .i64 0,.int .i64 0] 2)):=fun v=>by simp[go_sem,Instr.buildSlice,run_underlying underlying38]
 go_enter func8,ntmps8
 go_wp2_with fail
 refine(nV _).mono ?_
 rintro e9 v1 ⟨g,rfl,b1,l1,r1⟩
 have A1:Hid (Ab w v1):=b1
 have IW:=hid (dT (M:=4294967296) r1 (fun i hi=>by
  have c:i=0\/i=1\/i=2\/i=3:=by omega
  rcases c with rfl | rfl | rfl | rfl<;>decide))
 have CE:=hid (gY 5 0 1073741824 (some ⟨g,0,none⟩) 4 4 f4 v1 (by decide) (by decide) (by decide) IW.out ok4)
 clear b1 l1 r1
 rw[sd4]at CE
 go_wp2_with fail
 refine CE.out.mono ?_
 rintro e9 v2 ⟨gb,rfl,b2,l2,r2⟩
 have A2:Hid (Ab w v2):=A1.out.trans b2
 have E2:Hid (v2.rowIs gb 5 30 (fun i=>.int .u8 ((E30 i:Nat):Int))):=r2
 have I2:=hid (dT (M:=256) E2.out (fun i _=>lV (by decide) (by decide)))
 have CD:=hid (gZ (some ⟨gb,0,none⟩) 30 30 E30 v2 (by decide) I2.out e30)
 rw[e30_h.1,e30_h.2.1,e30_h.2.2.1,e30_h.2.2.2]at CD
 clear b2 l2 r2 CE IW A1
 go_wp2_with fail
 refine CD.out.mono ?_
 rintro e9 v3 ⟨gd,rfl,b3,l3,r3⟩
 have A3:Hid (Ab w v3):=A2.out.trans b3
 have E3:=hid (Sh.bA E2.out b3)
 have D3:=hid (r3.congr (g:=fun i=>.int .u32 ((f4 i:Nat):Int)) (fun i hi=>by rw[e30_d i hi]))
 clear b3 l3 r3 CD I2 A2 E2
 obtain⟨X4,T4⟩:=aD v3 (.cells #[.int .i64 5,.int .u32 0,.int .u32 1073741824,.slice (some ⟨gd,0,none⟩) 4 4] 25)
 go_upto_region 3 with fail
 generalize hV:World.alloc v3 _=v4 at*
 obtain⟨gt,hgt⟩:=aB v3.heap.size
 rw[hgt]at T4 ⊢
 clear hV hgt
 have A4:Hid (Ab w v4):=A3.out.trans X4.out
 have E4:=hid (Sh.bA E3.out X4.out)
 have D4:=hid (Sh.bA D3.out X4.out)
 clear A3 E3 D3 X4
 have CN:=hid (bZ none 0 0 (fun _=>0) v4 (by decide) (IsW.nil _ _ _ _ _) (by rw[e0];decide))
 rw[e0]at CN
 go_wp2_with fail
 refine CN.out.mono ?_
 rintro e9 v5 ⟨rfl,b5⟩
 have X6:Hid (Ab v4 (v5.alloc (.cells #[.int .i64 0,.int .u32 0,.int .u32 0,.slice none 0 0] 25))):=Ab.alloc b5 _
 clear CN b5
 go_upto_region 4 with fail
 generalize hV:World.alloc v5 _=v6 at*
 clear hV
 have A6:Hid (Ab w v6):=A4.out.trans X6.out
 have E6:=hid (Sh.bA E4.out X6.out)
 have D6:=hid (Sh.bA D4.out X6.out)
 have T6:=hid (X6.out.heap T4.out)
 clear A4 E4 D4 T4 X6
 obtain⟨gp,hgp⟩:=aB v5.heap.size
 rw[hgp]
 clear hgp
 go_cut [7,8]from 24 to 31 (fun s7 s8 wx=> ∃gl gs,s7=.slice (some ⟨gl,0,none⟩) 6 6/\s8=.int .i64 0/\Ab v6 wx/\wx.rowIs gl 25 24 (tcv 1 1 W6 gs))
 case first=>
  obtain⟨UU,E,hF1,hF2⟩:=cls v6.drew
  have HU:=hid hF2
  clear hF1 hF2
  refine Cx.lA 10 (fun k=>if k=0 then some (RL (Obj.cells (madeCells #[.float .f64 0] 6) 47),fun x=>.slice (some ⟨hdB x.1,0,none⟩) 6 6)else if k=1 then some (RL (Obj.cells #[.int .i64 1431655765,.int .i64 0,.int .i64 0,.int .i64 0,.int .i64 0,.int .i64 0] 2),fun x=>.slice (some ⟨hdB x.1,0,none⟩) 6 6)else if k=2 then some (RL (Obj.cells (madeCells #[.int .i64 0] 6) 2),fun x=>.slice (some ⟨hdB x.1,0,none⟩) 6 6)else if k=3 then some (RL (Obj.cells (madeCells #[.float .f64 0] 12) 47),fun x=>.slice (some ⟨hdB x.1,0,none⟩) 12 12)else if k=4 then some (RB,fun x=>x.2)else if k=5 then some (RT,fun x=>.tuple #[.slice (some ⟨hdB x.1,0,none⟩) 6 6,.int .i64 0])else none) (fun j=>if j=4 then [0,1,2,3]else if j=5 then [4]else []) stb_aw (by kernel_rfl) (by kernel_rfl) (by kernel_rfl) (by kernel_rfl) ?_
  simp only[List.take_succ_cons,List.take_zero]
  refine Cx.bK (ob:=RL (Obj.cells (madeCells #[.float .f64 0] 6) 47)) (mk:=fun x=>.slice (some ⟨hdB x.1,0,none⟩) 6 6) (by rfl) (by kernel_rfl) ?_ ?_
  ·refine Cx.fV (O:=(Obj.cells (madeCells #[.float .f64 0] 6) 47)) (u:=fun _=>.bool true) (fun v _=> ?_) (fun v _=>⟨v.heap.size,rfl,heap_alloc_new _ _⟩)
   exact Cx.run_make (vx:=.int .i64 6) (vy:=.int .i64 6) (by rfl) (by rfl) (by rfl) (M1 v)
  intro x0 fx0
  simp only[Act.put,List.setIfInBounds_toArray,List.set_cons_succ,List.set_cons_zero]
  refine Cx.bK (ob:=RL (Obj.cells #[.int .i64 1431655765,.int .i64 0,.int .i64 0,.int .i64 0,.int .i64 0,.int .i64 0] 2)) (mk:=fun x=>.slice (some ⟨hdB x.1,0,none⟩) 6 6) (by rfl) (by kernel_rfl) ?_ ?_
  ·refine Cx.fV (O:=(Obj.cells #[.int .i64 1431655765,.int .i64 0,.int .i64 0,.int .i64 0,.int .i64 0,.int .i64 0] 2)) (u:=fun _=>.bool true) (fun v _=> ?_) (fun v _=>⟨v.heap.size,rfl,heap_alloc_new _ _⟩)
   exact run_bs (P:=prog) (vs:= #[(0,.int .i64 1431655765),(1,.int .i64 0),(2,.int .i64 0),(3,.int .i64 0),(4,.int .i64 0),(5,.int .i64 0)]) (by rfl) (by simp[Act.eval]) (BL v)
  intro x1 fx1
  simp only[Act.put,List.setIfInBounds_toArray,List.set_cons_succ,List.set_cons_zero]
  refine Cx.bK (ob:=RL (Obj.cells (madeCells #[.int .i64 0] 6) 2)) (mk:=fun x=>.slice (some ⟨hdB x.1,0,none⟩) 6 6) (by rfl) (by kernel_rfl) ?_ ?_
  ·refine Cx.fV (O:=(Obj.cells (madeCells #[.int .i64 0] 6) 2)) (u:=fun _=>.bool true) (fun v _=> ?_) (fun v _=>⟨v.heap.size,rfl,heap_alloc_new _ _⟩)
   exact Cx.run_make (vx:=.int .i64 6) (vy:=.int .i64 6) (by rfl) (by rfl) (by rfl) (M2 v)
  intro x2 fx2
  simp only[Act.put,List.setIfInBounds_toArray,List.set_cons_succ,List.set_cons_zero]
  refine Cx.bK (ob:=RL (Obj.cells (madeCells #[.float .f64 0] 12) 47)) (mk:=fun x=>.slice (some ⟨hdB x.1,0,none⟩) 12 12) (by rfl) (by kernel_rfl) ?_ ?_
  ·refine Cx.fV (O:=(Obj.cells (madeCells #[.float .f64 0] 12) 47)) (u:=fun _=>.bool true) (fun v _=> ?_) (fun v _=>⟨v.heap.size,rfl,heap_alloc_new _ _⟩)
   exact Cx.run_make (vx:=.int .i64 12) (vy:=.int .i64 12) (by rfl) (by rfl) (by rfl) (M3 v)
  intro x3 fx3
  simp only[Act.put,List.setIfInBounds_toArray,List.set_cons_succ,List.set_cons_zero]
  refine Cx.bK (ob:=RB) (mk:=fun x=>x.2) (by rfl) (by kernel_rfl) ?_ ?_
  ·intro v hv
   obtain⟨⟨b1,e1,h1⟩,-⟩:=hv.at (i:=0) (x:=x0) (R:=RL (Obj.cells (madeCells #[.float .f64 0] 6) 47)) (mk:=fun x=>.slice (some ⟨hdB x.1,0,none⟩) 6 6) (by rfl) (by rfl)
   obtain⟨⟨b2,e2,h2⟩,-⟩:=hv.at (i:=1) (x:=x1) (R:=RL (Obj.cells #[.int .i64 1431655765,.int .i64 0,.int .i64 0,.int .i64 0,.int .i64 0,.int .i64 0] 2)) (mk:=fun x=>.slice (some ⟨hdB x.1,0,none⟩) 6 6) (by rfl) (by rfl)
   obtain⟨⟨b3,e3,h3⟩,-⟩:=hv.at (i:=2) (x:=x2) (R:=RL (Obj.cells (madeCells #[.int .i64 0] 6) 2)) (mk:=fun x=>.slice (some ⟨hdB x.1,0,none⟩) 6 6) (by rfl) (by rfl)
   obtain⟨⟨b4,e4,h4⟩,-⟩:=hv.at (i:=3) (x:=x3) (R:=RL (Obj.cells (madeCells #[.float .f64 0] 12) 47)) (mk:=fun x=>.slice (some ⟨hdB x.1,0,none⟩) 12 12) (by rfl) (by rfl)
   have q: ∀(o:Oper) (a:Act),(execOp a.eval o).run prog v=.ok (.value (.agg #[.slice (some ⟨hdB x0.1,0,none⟩) 6 6,.slice (some ⟨hdB x1.1,0,none⟩) 6 6,.slice (some ⟨hdB x2.1,0,none⟩) 6 6,.slice (some ⟨hdB x3.1,0,none⟩) 12 12,.int .i64 0,.int .i64 0])) v->Cx.LayR prog v RB (fun x=>x.2) ((execOp a.eval o).run prog v):=fun o a q=>by
    rw[q]
    exact⟨([],.agg #[.slice (some ⟨hdB x0.1,0,none⟩) 6 6,.slice (some ⟨hdB x1.1,0,none⟩) 6 6,.slice (some ⟨hdB x2.1,0,none⟩) 6 6,.slice (some ⟨hdB x3.1,0,none⟩) 12 12,.int .i64 0,.int .i64 0]),rfl,Ab.refl v,(fun b hb=>by cases hb),b1,b2,b3,b4,by rw[e1,e2,e3,e4];rfl,h1,h2,h3,h4⟩
   refine q _ _ ?_
   simp[execOp,go_sem,Act.eval]
  intro x4 fx4
  simp only[Act.put,List.setIfInBounds_toArray,List.set_cons_succ,List.set_cons_zero]
  refine Cx.bK (ob:=RT) (mk:=fun x=>.tuple #[.slice (some ⟨hdB x.1,0,none⟩) 6 6,.int .i64 0]) (by rfl) (by kernel_rfl) ?_ ?_
  ·refine Cx.lay_call (f:=12) (args:= #[.int .i64 1,x4.2]) ?_ (fun v hv=> ?_)
   ·intro v
    exact pE (x:=.const (.int .i64 1)) (y:=.tmp 28) (by rfl) (by rfl) (by rfl) func12 (by kernel_rfl) (by kernel_rfl) v
   ·obtain⟨⟨b1,b2,b3,b4,e,h1,h2,h3,h4⟩,-⟩:=hv.at (i:=4) (x:=x4) (R:=RB) (mk:=fun x=>x.2) (by rfl) (by rfl)
    rw[e]
    have F1:IsFl v (some ⟨b1,0,none⟩) 6 (fun _=>0):=rowIs.fl (cO h1) (fun _ _=>by decide)
    have F2:Sh.IsI v (some ⟨b2,0,none⟩) 6 W6:=Sh.row_in ⟨_,h2,rfl,fun i hi=>by
     have c:i=0\/i=1\/i=2\/i=3\/i=4\/i=5:=by omega
     rcases c with rfl | rfl | rfl | rfl | rfl | rfl<;>rfl⟩ (fun i _=>by unfold W6;split<;>decide)
    have F3:Sh.IsI v (some ⟨b3,0,none⟩) 6 (fun _=>0):=Sh.row_in (cO h3) (fun _ _=>by decide)
    have F4:IsFl v (some ⟨b4,0,none⟩) 12 (fun _=>0):=rowIs.fl (cO h4) (fun _ _=>by decide)
    exact(tiles_ok 1 _ 6 6 _ _ 6 6 _ _ 6 6 _ _ 12 12 _ 0 0 v F1 F2 F3 F4 (by rw[chk6])).mono fun e w' q=>by
     obtain⟨gl,gs,rfl,q1,q2,q3,q4,q5⟩:=q
     exact⟨([gl],.bool true),rfl,q1,(fun b hb=>by
      have hb:b=gl:=by simpa using hb
      subst hb
      exact⟨q2,q3.lt⟩),gl,gs,rfl,q3⟩
  intro x5 fx5
  simp only[Act.put,List.setIfInBounds_toArray,List.set_cons_succ,List.set_cons_zero]
  refine Cx.dA HU (by rfl) (by rfl) ?_
  go_big_quiet_step (with_reducible rfl)
  refine wpQuiet_nil ?_
  refine Cx.dA HU (by rfl) (by rfl) ?_
  go_big_quiet_step (with_reducible rfl)
  refine wpQuiet_nil ?_
  refine Cx.dA HU (by rfl) (by rfl) ?_
  go_big_quiet_step (with_reducible rfl)
  refine wpQuiet_nil ?_
  refine Cx.dA HU (by rfl) (by rfl) ?_
  go_big_quiet_step (with_reducible rfl)
  refine wpQuiet_nil ?_
  refine Cx.mM ?_
  intro wz hz
  obtain⟨⟨gl,gs,e5,r5⟩,-⟩:=hz.at (i:=5) (x:=x5) (R:=RT) (mk:=fun x=>.tuple #[.slice (some ⟨hdB x.1,0,none⟩) 6 6,.int .i64 0]) (by rfl) (by rfl)
  have AZ:Hid (Ab v6 wz):=(Ab.refl v6).drew.trans hz.1
  have R5:=hid r5
  have E5:=hid e5
  clear r5 e5 hz HU fx0 fx1 fx2 fx3 fx4 fx5
  simp only[List.drop_succ_cons,List.drop_zero]
  go_wp2
  try go_meet
  exact⟨gl,gs,by rw[E5.out];rfl,rfl,AZ.out,R5.out⟩
 case rest=>
 obtain⟨gl,gs,rfl,rfl,a7,r7⟩:=hcut
 have A7:Hid (Ab w wc):=A6.out.trans a7
 have E7:=hid (Sh.bA E6.out a7)
 have D7:=hid (dT (M:=4294967296) (Sh.bA D6.out a7) (fun i hi=>by
  have c:i=0\/i=1\/i=2\/i=3:=by omega
  rcases c with rfl | rfl | rfl | rfl<;>decide))
 have T7:=hid (a7.heap T6.out)
 have L7:=hid (r7.cell (i:=2) (by decide))
 have L8:Hid (gl<wc.heap.size):=r7.lt
 have eL:tcv 1 1 W6 gs 2=.int .u32 1065353216:=by
  show Value.int .u32 ((hi (fun k=>tb 1 W6 (0*1+k)) 0:Nat):Int)=_
  rw[tb6]
  rfl
 rw[eL]at L7
 clear a7 r7 A6 E6 D6 T6 M1 M2 M3 BL eL
 have MK:=e30_b
 have KS:Hid (∀v,Ab wc v->Ab wc v/\v.cell? ⟨gt,0,none⟩=some (.int .i64 5)/\v.cell? ⟨gt,1,none⟩=some (.int .u32 0)/\v.cell? ⟨gt,2,none⟩=some (.int .u32 1073741824)/\v.cell? ⟨gt,3,none⟩=some (.slice (some ⟨gd,0,none⟩) 4 4)/\v.cell? ⟨gl,2,none⟩=some (.int .u32 1065353216)/\(convert 26 9 (.slice (some ⟨gb,0,none⟩) 30 30)).run prog v=.ok (.string (str E30 30)) v):=fun v a=>by
  have t:=a.heap T7.out
  exact⟨a,aA 0 t,aA 1 t,aA 2 t,aA 3 t,(Below.cell a L8.out).trans L7.out,bU underlying26 underlying5 underlying9 (dT (Sh.bA E7.out a) (fun i _=>lV (by decide) (by decide))) (fun e=>by cases e)⟩
 have X0:Ab wc wc:=Ab.refl wc
 go_wp2_with fail
 go_region_held3 (fun v=>Ab wc v/\v.cell? ⟨gt,0,none⟩=some (.int .i64 5)/\v.cell? ⟨gt,1,none⟩=some (.int .u32 0)/\v.cell? ⟨gt,2,none⟩=some (.int .u32 1073741824)/\v.cell? ⟨gt,3,none⟩=some (.slice (some ⟨gd,0,none⟩) 4 4)/\v.cell? ⟨gl,2,none⟩=some (.int .u32 1065353216)/\(convert 26 9 (.slice (some ⟨gb,0,none⟩) 30 30)).run prog v=.ok (.string (str E30 30)) v) ((refine KS.out _ ?_;(with_reducible (repeat(first | assumption | apply Ab.drew)));done)) (first
  | (go_at_call 18;refine(nV _).mono ?_;rintro e9 z1 ⟨g9,rfl,b9,l9,r9⟩;have az1:Ab wc z1:=Ab.trans (show Ab wc _ by with_reducible (repeat(first | assumption | apply Ab.drew))) b9;have I9:=hid (dT (M:=4294967296) r9 f4_lt))
  | (go_at_call 11;refine(nK _ _ _ _ _ _ _ _ _ _ _ _ f4 f4 _ (by decide) (D7.out.below az1) I9.out).mono ?_;rintro e9 z2 ⟨rfl,b8⟩;have az2:Ab wc z2:=Ab.trans az1 b8))
 go_wp2
 go_ret
 exact⟨by rw[show eqT 5 5 0 0 1073741824 1073741824 4 4 f4 f4=true from decide_eq_true ⟨rfl,rfl,rfl,rfl,fun _ _=>rfl⟩];rfl,A7.out.trans az2⟩
end Ti
end
section
open Go.RowKit Go.Deep Tf Cu
namespace Ti
theorem enc_hd{fc n ls ms:Nat}{f:Nat->Nat}:enc fc n ls ms f 0=84/\enc fc n ls ms f 1=73/\enc fc n ls ms f 2=76/\enc fc n ls ms f 3=69/\enc fc n ls ms f 4=fc/\enc fc n ls ms f 5=n:=⟨rfl,rfl,rfl,rfl,rfl,rfl⟩
theorem dec_ok{L:Nat}{f:Nat->Nat}(hb: ∀i,f i<256)(h:dErr L f=0):okT ((f 4:Nat):Int) (f 5*f 5) (dec f) (num f 6) (num f 10)=true/\sideN (f 5*f 5)=f 5/\14+4*(f 5*f 5)=L/\ ∀i,enc (f 4) (f 5) (num f 6) (num f 10) (dec f) i=f i:=by
 obtain⟨e1,e2⟩:=nJ h
 obtain⟨h1,h2,h3,h4⟩:=derr_0 e1
 exact⟨e2,sideN_sq h3.1 h3.2,h4,fun i=>enc_dec hb h1⟩
theorem mN(L:Nat)(f:Nat->Nat):dErr L f=0\/dErr L f=31\/dErr L f=30\/dErr L f=3:=by
 unfold dErr derr
 repeat' split
 all_goals first
  | exact .inl rfl
  | exact .inr (.inl rfl)
  | exact .inr (.inr (.inl rfl))
  | exact .inr (.inr (.inr rfl))
  | (rename_i h;exact absurd rfl h)
end Ti
end
section
open Go.RowKit Go.Deep
namespace T8
def Own(B:Nat)(v:Value)(l:List Nat)(w:World):Prop:=w.ownsRow B 5 1 v l.length (l.map fun x:Nat=>Value.int .u8 (x:Int))
theorem Own.at{B:Nat}{v:Value}{l:List Nat}{w:World}(h:Own B v l w)(hl: ∀x ∈ l,x<256): ∃a0 cap,v=.slice a0 l.length cap/\Ti.IsW .u8 256 w a0 l.length (fun j=>l.getD j 0)/\l.length<=cap/\cap<=9223372036854775807:=by
 rcases h.2 with⟨rfl,h0⟩ | ⟨g,cap,cur,rfl,hb,hg,h1,h2,h3,h4⟩
 ·exact⟨none,0,by rw[h0],fun k hk=>by omega,by omega,by omega⟩
 ·refine⟨some ⟨g,0,none⟩,cap,rfl,fun k hk=> ?_,h1,by unfold maxLen at h2;omega⟩
  have hx:l.getD k 0=l[k]:=by simp[List.getD,hk]
  refine⟨by dsimp only;rw[hx];exact hl _ (List.getElem_mem _),g,0,rfl,lt_of_block hg,?_⟩
  have e:=h.cells (g:=g) rfl k (.int .u8 ((l.getD k 0:Nat):Int)) (by simp[hk])
  rw[Sh.cW]at e
  exact e
theorem Own.new(w:World)(B:Nat):Own B (.slice none 0 0) [] w:=⟨by simp,.inl ⟨rfl,rfl⟩⟩
theorem Own.alloc{B:Nat}{v:Value}{l:List Nat}{w:World}(h:Own B v l w)(O:Obj):Own B v l (w.alloc O):=World.ownsRow.alloc h O
theorem Own.row{B g n cap:Nat}{l:List Nat}{w:World}(h:Own B (.slice (some ⟨g,0,none⟩) n cap) l w):B<=g/\n<=cap/\ ∃cur:Array Value,w.heap[g]? =some (.cells cur 5)/\cur.size=cap/\ ∀i,i<l.length->cur[i]? =some (.int .u8 ((l.getD i 0:Nat):Int)):=by
 rcases h.2 with⟨e,_⟩ | ⟨g2,cap2,cur,e,hb,hg,h1,h2,h3,h4⟩
 ·cases e
 ·injection e with e1 e2 e3
  injection e1 with e4
  injection e4 with e5
  subst e5 e3
  refine⟨hb,by omega,cur,hg,by rw[h3,Nat.mul_one],fun i hi=> ?_⟩
  have q:=congrArg (fun z:List Value=>z[i]?) h4
  simp only[Nat.mul_one]at q
  rw[List.getElem?_take,if_pos hi]at q
  rw[<- Array.getElem?_toList,q]
  simp[hi]
theorem Own.set{B g n cap:Nat}{l:List Nat}{w:World}(h:Own B (.slice (some ⟨g,0,none⟩) n cap) l w)(k x:Nat):Own B (.slice (some ⟨g,0,none⟩) n cap) (l.set k x) (w.setCell ⟨g,k,none⟩ (.int .u8 (x:Int))):=by
 rcases h.2 with⟨e,_⟩ | ⟨g2,cap2,cur,e,hb,hg,h1,h2,h3,h4⟩
 ·cases e
 ·injection e with e1 e2 e3
  injection e1 with e4
  injection e4 with e5
  subst e5 e3
  refine⟨by simp,.inr ⟨g,cap,cur.setIfInBounds k (.int .u8 (x:Int)),by rw[List.length_set,e2],hb,aG hg,by rw[List.length_set];exact h1,h2,by rw[Array.size_setIfInBounds];exact h3,?_⟩⟩
  rw[List.length_set,Array.toList_setIfInBounds,List.take_set,h4,List.map_set]
theorem dB{ops:Array Oper}{rest:List Oper}{o:Oper}{a:Act}{w:World}{Q:Exit->Act->World->Prop}(hgd:o.guard=none)(s x:Operand)
  (ho:o.op=.call {callee:=.builtin .append,args:= #[s,x],argTypes:= #[26,26]})
  (B:Nat) (v:Value) (l:List Nat) (hs:a.eval s=v) (hown:Own B v l w)
  (ad:Addr) (m c:Nat) (news:List Nat) (hx:a.eval x=.slice (some ad) m c) (hl:news.length=m) (hnews: ∀j u,(news.map fun x:Nat=>Value.int .u8 (x:Int))[j]? =some u->w.cell? (ad.add j)=some u)
  (hm:0<m) (hlen:l.length+m<=1048576) (hB:B<=w.heap.size) (nm:Nat) (hnm:l.length+m=nm)
  (h: ∀g cap w',Own B (.slice (some ⟨g,0,none⟩) nm cap) (l++news) w'->w.grownBy w' v.ownBlock->(v.ownBlock=some g\/g=w.heap.size)->B<=g->wpList prog ops Q rest (a.put o.dst (.slice (some ⟨g,0,none⟩) nm cap)) w'):wpList prog ops Q (o :: rest) a w:=by
 subst hnm
 obtain⟨i0,hi,hz⟩:=Option.map_eq_some_iff.1 Ti.jL
 simp only[Prod.mk.injEq]at hz
 obtain⟨hz0,hz1,hz2⟩:=hz
 refine wpList_append_lies w hgd s x _ ho B 5 i0 (.int .u8 0) 1 1 underlying26 hi hz0 hz1 hz2 rfl (by decide) v l.length (l.map fun x:Nat=>Value.int .u8 (x:Int)) hs hown ad m c (news.map fun x:Nat=>Value.int .u8 (x:Int)) hx (by simpa using hl) hnews (fun u hu=>by
  obtain⟨y,_,rfl⟩:=List.mem_map.1 hu
  rfl) hm (by unfold maxLen;omega) (by omega) hB _ rfl ?_
 intro g cap w' o1 g1 e1 _
 have hb:B<=g:=by
  rcases o1.2 with⟨q,_⟩ | ⟨g2,_,_,q,hb,_⟩
  ·cases q
  ·injection q with q1 q2 q3
   injection q1 with q4
   injection q4 with q5
   omega
 refine h g cap w' ?_ g1 e1 hb
 unfold Own
 rw[List.length_append,List.map_append,hl]
 exact o1
theorem jR{w:World}{b o n:Nat}{f:Nat->Nat}(h:Ti.IsW .u8 256 w (some ⟨b,o,none⟩) n f): ∀j u,(((List.range n).map f).map fun x:Nat=>Value.int .u8 (x:Int))[j]? =some u->w.cell? ((⟨b,o,none⟩:Addr).add j)=some u:=fun j u hu=>by
 have hj:j<n:=by
  rcases Nat.lt_or_ge j n with h1 | h1
  ·exact h1
  ·rw[List.getElem?_eq_none (by simpa using h1)]at hu;cases hu
 simp[hj]at hu
 rw[Sh.cW,<- hu]
 exact(h.at0 hj).2.2
end T8
namespace T32
def Own(B:Nat)(v:Value)(l:List Nat)(w:World):Prop:=w.ownsRow B 22 1 v l.length (l.map fun x:Nat=>Value.int .u32 (x:Int))
theorem Own.at{B:Nat}{v:Value}{l:List Nat}{w:World}(h:Own B v l w)(hl: ∀x ∈ l,x<4294967296): ∃a0 cap,v=.slice a0 l.length cap/\Ti.IsW .u32 4294967296 w a0 l.length (fun j=>l.getD j 0)/\l.length<=cap/\cap<=9223372036854775807:=by
 rcases h.2 with⟨rfl,h0⟩ | ⟨g,cap,cur,rfl,hb,hg,h1,h2,h3,h4⟩
 ·exact⟨none,0,by rw[h0],fun k hk=>by omega,by omega,by omega⟩
 ·refine⟨some ⟨g,0,none⟩,cap,rfl,fun k hk=> ?_,h1,by unfold maxLen at h2;omega⟩
  have hx:l.getD k 0=l[k]:=by simp[List.getD,hk]
  refine⟨by dsimp only;rw[hx];exact hl _ (List.getElem_mem _),g,0,rfl,lt_of_block hg,?_⟩
  have e:=h.cells (g:=g) rfl k (.int .u32 ((l.getD k 0:Nat):Int)) (by simp[hk])
  rw[Sh.cW]at e
  exact e
theorem Own.new(w:World)(B:Nat):Own B (.slice none 0 0) [] w:=⟨by simp,.inl ⟨rfl,rfl⟩⟩
theorem Own.alloc{B:Nat}{v:Value}{l:List Nat}{w:World}(h:Own B v l w)(O:Obj):Own B v l (w.alloc O):=World.ownsRow.alloc h O
theorem Own.row{B g n cap:Nat}{l:List Nat}{w:World}(h:Own B (.slice (some ⟨g,0,none⟩) n cap) l w):B<=g/\n<=cap/\ ∃cur:Array Value,w.heap[g]? =some (.cells cur 22)/\cur.size=cap/\ ∀i,i<l.length->cur[i]? =some (.int .u32 ((l.getD i 0:Nat):Int)):=by
 rcases h.2 with⟨e,_⟩ | ⟨g2,cap2,cur,e,hb,hg,h1,h2,h3,h4⟩
 ·cases e
 ·injection e with e1 e2 e3
  injection e1 with e4
  injection e4 with e5
  subst e5 e3
  refine⟨hb,by omega,cur,hg,by rw[h3,Nat.mul_one],fun i hi=> ?_⟩
  have q:=congrArg (fun z:List Value=>z[i]?) h4
  simp only[Nat.mul_one]at q
  rw[List.getElem?_take,if_pos hi]at q
  rw[<- Array.getElem?_toList,q]
  simp[hi]
theorem Own.set{B g n cap:Nat}{l:List Nat}{w:World}(h:Own B (.slice (some ⟨g,0,none⟩) n cap) l w)(k x:Nat):Own B (.slice (some ⟨g,0,none⟩) n cap) (l.set k x) (w.setCell ⟨g,k,none⟩ (.int .u32 (x:Int))):=by
 rcases h.2 with⟨e,_⟩ | ⟨g2,cap2,cur,e,hb,hg,h1,h2,h3,h4⟩
 ·cases e
 ·injection e with e1 e2 e3
  injection e1 with e4
  injection e4 with e5
  subst e5 e3
  refine⟨by simp,.inr ⟨g,cap,cur.setIfInBounds k (.int .u32 (x:Int)),by rw[List.length_set,e2],hb,aG hg,by rw[List.length_set];exact h1,h2,by rw[Array.size_setIfInBounds];exact h3,?_⟩⟩
  rw[List.length_set,Array.toList_setIfInBounds,List.take_set,h4,List.map_set]
theorem dB{ops:Array Oper}{rest:List Oper}{o:Oper}{a:Act}{w:World}{Q:Exit->Act->World->Prop}(hgd:o.guard=none)(s x:Operand)
  (ho:o.op=.call {callee:=.builtin .append,args:= #[s,x],argTypes:= #[23,23]})
  (B:Nat) (v:Value) (l:List Nat) (hs:a.eval s=v) (hown:Own B v l w)
  (ad:Addr) (m c:Nat) (news:List Nat) (hx:a.eval x=.slice (some ad) m c) (hl:news.length=m) (hnews: ∀j u,(news.map fun x:Nat=>Value.int .u32 (x:Int))[j]? =some u->w.cell? (ad.add j)=some u)
  (hm:0<m) (hlen:l.length+m<=1048576) (hB:B<=w.heap.size) (nm:Nat) (hnm:l.length+m=nm)
  (h: ∀g cap w',Own B (.slice (some ⟨g,0,none⟩) nm cap) (l++news) w'->w.grownBy w' v.ownBlock->(v.ownBlock=some g\/g=w.heap.size)->B<=g->wpList prog ops Q rest (a.put o.dst (.slice (some ⟨g,0,none⟩) nm cap)) w'):wpList prog ops Q (o :: rest) a w:=by
 subst hnm
 obtain⟨i0,hi,hz⟩:=Option.map_eq_some_iff.1 Ti.gS
 simp only[Prod.mk.injEq]at hz
 obtain⟨hz0,hz1,hz2⟩:=hz
 refine wpList_append_lies w hgd s x _ ho B 22 i0 (.int .u32 0) 1 4 underlying23 hi hz0 hz1 hz2 rfl (by decide) v l.length (l.map fun x:Nat=>Value.int .u32 (x:Int)) hs hown ad m c (news.map fun x:Nat=>Value.int .u32 (x:Int)) hx (by simpa using hl) hnews (fun u hu=>by
  obtain⟨y,_,rfl⟩:=List.mem_map.1 hu
  rfl) hm (by unfold maxLen;omega) (by omega) hB _ rfl ?_
 intro g cap w' o1 g1 e1 _
 have hb:B<=g:=by
  rcases o1.2 with⟨q,_⟩ | ⟨g2,_,_,q,hb,_⟩
  ·cases q
  ·injection q with q1 q2 q3
   injection q1 with q4
   injection q4 with q5
   omega
 refine h g cap w' ?_ g1 e1 hb
 unfold Own
 rw[List.length_append,List.map_append,hl]
 exact o1
theorem jR{w:World}{b o n:Nat}{f:Nat->Nat}(h:Ti.IsW .u32 4294967296 w (some ⟨b,o,none⟩) n f): ∀j u,(((List.range n).map f).map fun x:Nat=>Value.int .u32 (x:Int))[j]? =some u->w.cell? ((⟨b,o,none⟩:Addr).add j)=some u:=fun j u hu=>by
 have hj:j<n:=by
  rcases Nat.lt_or_ge j n with h1 | h1
  ·exact h1
  ·rw[List.getElem?_eq_none (by simpa using h1)]at hu;cases hu
 simp[hj]at hu
 rw[Sh.cW,<- hu]
 exact(h.at0 hj).2.2
end T32
end
section
open Go.RowKit Go.Deep Tf Cu
namespace Ti
theorem hS{L:Nat}{f g:Nat->Nat}(h: ∀i,i<6->f i=g i):derr L f=derr L g:=by
 unfold derr
 rw[h 0 (by omega),h 1 (by omega),h 2 (by omega),h 3 (by omega),h 4 (by omega),h 5 (by omega)]
theorem nW{L:Nat}{f:Nat->Nat}(h:derr L f≠0):dErr L f=derr L f:=by
 unfold dErr
 rw[if_pos h]
theorem nX{face:Int}{m ls ms k:Nat}{f g:Nat->Nat}(h:okT face m f ls ms=true)(hk:k<14+4*m)(hg: ∀i,i<k->g i=enc face.toNat (sideN m) ls ms f i):dErr k g=31:=by
 obtain⟨h1,⟨h2,h3,h4⟩,h5⟩:=gX h
 have d:derr k g=31:=by
  by_cases c:k<14
  ·unfold derr
   rw[if_pos c]
  ·rw[hS (fun i hi=>hg i (by omega))]
   obtain⟨e0,e1,e2,e3,e4,e5⟩:=enc_hd (fc:=face.toNat) (n:=sideN m) (ls:=ls) (ms:=ms) (f:=f)
   unfold derr
   rw[e0,e1,e2,e3,e4,e5,h4,if_neg c,if_neg (fun q=>q ⟨⟨rfl,rfl,rfl,rfl⟩,by omega,h2,h3⟩),if_pos (by omega)]
 rw[nW (by rw[d];decide),d]
theorem lC{face:Int}{m ls ms k:Nat}{f g:Nat->Nat}(h:okT face m f ls ms=true)(hk:14+4*m<k)(hg: ∀i,i<6->g i=enc face.toNat (sideN m) ls ms f i):dErr k g=3:=by
 obtain⟨h1,⟨h2,h3,h4⟩,h5⟩:=gX h
 have d:derr k g=3:=by
  rw[hS hg]
  obtain⟨e0,e1,e2,e3,e4,e5⟩:=enc_hd (fc:=face.toNat) (n:=sideN m) (ls:=ls) (ms:=ms) (f:=f)
  unfold derr
  rw[e0,e1,e2,e3,e4,e5,h4,if_neg (by omega),if_neg (fun q=>q ⟨⟨rfl,rfl,rfl,rfl⟩,by omega,h2,h3⟩),if_neg (by omega),if_pos (by omega)]
 rw[nW (by rw[d];decide),d]
theorem xr_congr{f g:Nat->Nat}{k:Nat}(h: ∀i,i<=k->f i=g i):xr f k=xr g k:=by
 cases k with
 | zero=>exact h 0 (Nat.le_refl _)
 | succ k=>
  show f (k+1) ^^^ f k=g (k+1) ^^^ g k
  rw[h (k+1) (Nat.le_refl _),h k (by omega)]
theorem pG{fc n ls ms m i:Nat}{f g:Nat->Nat}(h: ∀k,k<m->f k=g k)(hi:i<14+4*m):enc fc n ls ms f i=enc fc n ls ms g i:=by
 unfold enc
 by_cases c:i<14
 ·rw[if_pos c,if_pos c]
 ·rw[if_neg c,if_neg c,xr_congr (f:=f) (g:=g) (fun j hj=>h j (by omega))]
theorem pH{face:Int}{m ls ms k by':Nat}{f O:Nat->Nat}(hk:k<14+4*m)(hb:by'≠0)(hO: ∀i,O i<256)(h1: ∀i,i<14+4*m->O i=if i=k then enc face.toNat (sideN m) ls ms f k ^^^ by' else enc face.toNat (sideN m) ls ms f i)(h0:dErr (14+4*m) O=0):
  eqT ((O 4:Nat):Int) face (num O 6) ls (num O 10) ms (O 5*O 5) m (dec O) f=false:=by
 refine decide_eq_false (fun⟨e1,e2,e3,e4,e5⟩=> ?_)
 obtain⟨d1,d2,d3,d4⟩:=dec_ok hO h0
 have q:=d4 k
 rw[e2,e3]at q
 have s:O 5=sideN m:=by rw[<- d2,e4]
 have t:O 4=face.toNat:=by omega
 rw[s,t,pG (g:=f) (m:=m) (fun j hj=>e5 j (by rw[e4];exact hj)) hk,h1 k hk,if_pos rfl]at q
 have z:=congrArg (fun x=>enc face.toNat (sideN m) ls ms f k ^^^ x) q
 simp only[Nat.xor_self,<- Nat.xor_assoc,Nat.zero_xor]at z
 exact hb z.symm
end Ti
end
section
open Go.RowKit Go.Deep Tf Cu
namespace Ti
theorem wrap_mod(a:Int){N:Nat}(h:0<N/\N<9223372036854775808): ∃k:Nat,wrap64 ((IntKind.u64.wrap a).tmod (N:Int))=(k:Int)/\k<N:=by
 have e:IntKind.u64.wrap a=a%18446744073709551616:=rfl
 have p:0<=a%18446744073709551616:=Int.emod_nonneg _ (by decide)
 rw[e,Int.tmod_eq_emod_of_nonneg p]
 obtain⟨q,hq⟩:=aB (a%18446744073709551616)
 rw[hq]at p ⊢
 have r0:=Int.emod_nonneg q (show(N:Int)≠0 by omega)
 have r1:=Int.emod_lt_of_pos q (show(0:Int)<N by omega)
 refine⟨(q%N).toNat,?_,by omega⟩
 unfold wrap64
 omega
theorem byl_b{E:Nat->Nat}{N b:Nat}(h: ∀i,E i<256)(hb:b<256): ∀x ∈ (List.range N).map E++[b],x<256:=by
 intro x hx
 rcases List.mem_append.1 hx with q | q
 ·obtain⟨j,_,rfl⟩:=List.mem_map.1 q
  exact h j
 ·simp at q
  rw[q]
  exact hb
theorem byl_t{E:Nat->Nat}{N k x:Nat}(h: ∀i,E i<256)(hx:x<256):(∀y ∈ ((List.range N).map E).set k x,y<256)/\(((List.range N).map E).set k x).length=N/\(∀j,(((List.range N).map E).set k x).getD j 0<256)/\ ∀j,j<N->(((List.range N).map E).set k x).getD j 0=if j=k then x else E j:=by
 have l: ∀j,j<N->(((List.range N).map E).set k x).getD j 0=if j=k then x else E j:=fun j hj=>by
  by_cases c:j=k
  ·subst c;simp[List.getD,hj]
  ·rw[if_neg c]
   simp[List.getD,hj,Ne.symm c]
 refine⟨fun y hy=> ?_,by simp,fun j=> ?_,l⟩
 ·rcases List.mem_or_eq_of_mem_set hy with q | q
  ·obtain⟨j,_,rfl⟩:=List.mem_map.1 q
   exact h j
  ·rw[q];exact hx
 ·by_cases c:j<N
  ·rw[l j c]
   split
   ·exact hx
   ·exact h j
  ·rw[List.getD,List.getElem?_eq_none (by simp;omega)]
   decide
theorem xor8{a b:Nat}(ha:a<256)(hb:b<256):bits .xor .u8 (a:Int) (b:Int)=((a ^^^ b:Nat):Int):=by
 have l:a ^^^ b<256:=Nat.xor_lt_two_pow (n:=8) ha hb
 show IntKind.u8.wrap (((BitVec.ofInt 8 (a:Int) ^^^ BitVec.ofInt 8 (b:Int)).toNat:Nat):Int)=_
 rw[BitVec.ofInt_natCast,BitVec.ofInt_natCast,BitVec.toNat_xor,BitVec.toNat_ofNat,BitVec.toNat_ofNat]
 rw[Nat.mod_eq_of_lt (by omega),Nat.mod_eq_of_lt (by omega)]
 show((_:Nat):Int)%256=_
 omega
theorem byl_s(E:Nat->Nat)(N b:Nat):((List.range N).map E++[b]).length=N+1/\ ∀j,j<N->((List.range N).map E++[b]).getD j 0=E j:=⟨by simp,fun j hj=>by simp[List.getD,hj,List.getElem?_append]⟩
theorem byl_n(E:Nat->Nat)(N:Nat):((List.range N).map E).length=N/\ ∀j,j<N->((List.range N).map E).getD j 0=E j:=⟨by simp,fun j hj=>by simp[List.getD,hj]⟩
theorem cuts_no(fa:Int)(ls ms:Nat)(pt:Option Addr)(mt ct:Nat)(F:Nat->Nat)(ai:Int)(bb:Nat)(w:World)(hls:ls<4294967296)(hms:ms<4294967296)(hct:mt<=ct/\ct<=35184372088832)(hF:IsW .u32 4294967296 w pt mt F)(hb:bb<256)(ho:okT fa mt F ls ms=false):
  Calls prog 4 #[.agg #[.int .i64 fa,.int .u32 ((ls:Nat):Int),.int .u32 ((ms:Nat):Int),.slice pt mt ct],.int .i64 ai,.int .u8 (bb:Int)] w fun e w'=>e=.returned (.bool true)/\Below w.heap.size w w':=by
 have HF:=hid hF
 have HB:=hid (show ls<4294967296/\ms<4294967296/\mt<=ct/\ct<=35184372088832/\bb<256 from⟨hls,hms,hct.1,hct.2,hb⟩)
 have HO:=hid ho
 have bI0:(0:Int)<=(bb:Int):=by omega
 have bI1:(bb:Int)<256:=by omega
 clear hF hls hms hct hb ho
 obtain⟨A0,R0⟩:=aD w (.cells #[.int .i64 fa,.int .u32 ((ls:Nat):Int),.int .u32 ((ms:Nat):Int),.slice pt mt ct] 25)
 go_enter func4,ntmps4
 go_upto_region 1 with fail
 generalize hW:World.alloc w _=V0 at*
 obtain⟨gw,hgw⟩:=aB w.heap.size
 rw[hgw]at R0 ⊢
 clear hgw hW
 go_wp2_with fail
 refine(hP V0).mono ?_
 rintro e9 v1 ⟨rfl,b1⟩
 have A1:Hid (Ab w v1):=A0.out.trans b1
 have R1:=hid (Ab.heap b1 R0.out)
 clear b1 A0 R0
 have y0:=aA 0 R1.out
 have y1:=aA 1 R1.out
 have y2:=aA 2 R1.out
 have y3:=aA 3 R1.out
 have CE:=hid (oV fa ls ms pt mt ct F v1 (by have:=HB.out;omega) (HF.out.below A1.out) HO.out)
 go_wp2_with fail
 refine CE.out.mono ?_
 rintro e9 vx ⟨rfl,b2⟩
 have AX:Hid (Ab w vx):=A1.out.trans b2
 clear b2 CE A1 R1 y0 y1 y2 y3
 go_wp2
 go_ret
 exact⟨rfl,AX.out⟩
theorem cuts_x(fa:Int)(ls ms:Nat)(pt:Option Addr)(mt ct:Nat)(F:Nat->Nat)(ai:Int)(bb:Nat)(w:World)(hls:ls<4294967296)(hms:ms<4294967296)(hct:mt<=ct/\ct<=35184372088832)(hF:IsW .u32 4294967296 w pt mt F)(hb:bb<256)(ho:okT fa mt F ls ms=true):
  Calls prog 4 #[.agg #[.int .i64 fa,.int .u32 ((ls:Nat):Int),.int .u32 ((ms:Nat):Int),.slice pt mt ct],.int .i64 ai,.int .u8 (bb:Int)] w fun e w'=>e=.returned (.bool true)/\Below w.heap.size w w':=by
 have HF:=hid hF
 have HB:=hid (show ls<4294967296/\ms<4294967296/\mt<=ct/\ct<=35184372088832/\bb<256 from⟨hls,hms,hct.1,hct.2,hb⟩)
 have HO:=hid ho
 have bI0:(0:Int)<=(bb:Int):=by omega
 have bI1:(bb:Int)<256:=by omega
 clear hF hls hms hct hb ho
 obtain⟨A0,R0⟩:=aD w (.cells #[.int .i64 fa,.int .u32 ((ls:Nat):Int),.int .u32 ((ms:Nat):Int),.slice pt mt ct] 25)
 go_enter func4,ntmps4
 go_upto_region 1 with fail
 generalize hW:World.alloc w _=V0 at*
 obtain⟨gw,hgw⟩:=aB w.heap.size
 rw[hgw]at R0 ⊢
 clear hgw hW
 go_wp2_with fail
 refine(hP V0).mono ?_
 rintro e9 v1 ⟨rfl,b1⟩
 have A1:Hid (Ab w v1):=A0.out.trans b1
 have R1:=hid (Ab.heap b1 R0.out)
 clear b1 A0 R0
 have y0:=aA 0 R1.out
 have y1:=aA 1 R1.out
 have y2:=aA 2 R1.out
 have y3:=aA 3 R1.out
 obtain⟨N,hN⟩:=aB (14+4*mt)
 have CE:=hid (gY fa ls ms pt mt ct F v1 HB.out.1 HB.out.2.1 (by have:=HB.out;omega) (HF.out.below A1.out) HO.out)
 rw[hN]at CE
 have T1:=gX HO.out
 obtain⟨E,hE⟩:=aB (enc fa.toNat (sideN mt) ls ms F)
 have EB: ∀i,E i<256:=by rw[<- hE];exact fun i=>lV (by omega) (by omega)
 rw[hE]at CE
 have N0:(18:Int)<=(N:Int):=by omega
 have N1:(N:Int)<=4110:=by omega
 have N2: ¬(N:Int)=0:=by omega
 have HN:=hid (show N=14+4*mt/\N<=4110/\18<=N from⟨hN.symm,by omega,by omega⟩)
 have HE:=hid hE
 have HEB:=hid EB
 clear T1 hE EB hN
 obtain⟨k,ek,hk⟩: ∃k:Nat,wrap64 ((IntKind.u64.wrap ai).tmod (N:Int))=(k:Int)/\k<N:=wrap_mod ai (by have:=HN.out;omega)
 have kI0:(0:Int)<=(k:Int):=by omega
 have kI:(k:Int)<(N:Int):=by omega
 have kI2:(k:Int)<=(N:Int):=by omega
 have HK:=hid hk
 clear hk
 go_wp2_with fail
 refine CE.out.mono ?_
 rintro e9 v2 ⟨gb,rfl,b2,l2,r2⟩
 have A2:Hid (Ab w v2):=A1.out.trans b2
 have R2:=hid (Ab.heap b2 R1.out)
 have E2:=hid r2
 have LB:=hid l2
 clear b2 l2 r2 CE A1 R1 y0 y1 y2 y3
 have IE:=hid (dT E2.out (fun i _=>HEB.out i))
 have C1:=hid (bZ (some ⟨gb,0,none⟩) k N E v2 (by have:=HK.out;have:=HN.out;omega) (fun j hj=>IE.out j (by have:=HK.out;omega)) (by rw[nX HO.out (k:=k) (by have:=HK.out;have:=HN.out;omega) (fun i _=>by rw[HE.out])];decide))
 rw[nX HO.out (k:=k) (by have:=HK.out;have:=HN.out;omega) (fun i _=>by rw[HE.out])]at C1
 go_wp2_with fail
 refine C1.out.mono ?_
 rintro e9 v3 ⟨rfl,b3⟩
 have A3:Hid (Ab w v3):=A2.out.trans b3
 have R3:=hid (Ab.heap b3 R2.out)
 have I3:=hid (IE.out.below b3)
 clear b3 C1 A2 R2 E2 IE
 have EL:=hid (byl_n E N)
 go_upto_region 12 with(at_builtin;refine T8.dB rfl (.tmp 45) (.tmp 46) rfl v3.heap.size (.slice none 0 0) [] rfl (T8.Own.new _ _) ⟨gb,0,none⟩ N N ((List.range N).map E) rfl EL.out.1 (T8.jR I3.out) (by have:=HN.out;omega) (by have:=HN.out;simp;omega) (Nat.le_refl _) N (by simp) ?_;intro g1 c1 v4 o4 g4 e4 l4)
 have A4:Hid (Ab v3 v4):=(Below.refl _ _).grown g4 (Nat.le_refl _) (fun k hk=>by simp[Value.ownBlock]at hk)
 have O4:Hid (T8.Own v3.heap.size (.slice (some ⟨g1,0,none⟩) N c1) ((List.range N).map E) v4):=o4
 have L4:=hid l4
 clear o4 g4 e4 l4
 have NB: ∀j u,([bb].map fun x:Nat=>Value.int .u8 (x:Int))[j]? =some u->(v4.alloc (.cells #[.int .u8 (bb:Int)] 5)).cell? ((⟨v4.heap.size,0,none⟩:Addr).add j)=some u:=fun j u hu=>by
  cases j with
  | zero=>
   simp at hu
   rw[Sh.cW,<- hu]
   exact aA 0 (heap_alloc_new _ _)
  | succ j=>simp at hu
 have NBH:=hid NB
 clear NB
 go_upto_region 13 with(at_builtin;refine T8.dB rfl (.tmp 48) (.tmp 50) rfl v3.heap.size (.slice (some ⟨g1,0,none⟩) N c1) ((List.range N).map E) rfl (O4.out.alloc _) ⟨v4.heap.size,0,none⟩ 1 1 [bb] rfl rfl NBH.out (by decide) (by have:=HN.out;have:=EL.out.1;omega) (by have:=A4.out.size;simp;omega) (N+1) (by rw[EL.out.1]) ?_;intro g2 c2 v5 o5 g5 e5 l5)
 have A5:Hid (Ab v3 v5):=(A4.out.alloc _).grown g5 (by have:=A4.out.size;simp;omega) (fun k hk=>by simp[Value.ownBlock]at hk;have:=L4.out;omega)
 have AZ:Hid (Ab w v5):=A3.out.trans A5.out
 have EL5:=hid (byl_s E N bb)
 obtain⟨a5,cp5,e5v,i5,i5b,i5c⟩:=o5.at (byl_b HEB.out HB.out.2.2.2.2)
 injection e5v with q1 q2 q3
 subst q1 q3
 rw[EL5.out.1]at i5 i5b
 have C3:=hid (bZ (some ⟨g2,0,none⟩) (N+1) c2 _ v5 ⟨i5b,i5c⟩ i5 (by rw[lC HO.out (by have:=HN.out;omega) (fun i hi=>by rw[EL5.out.2 i (by have:=HN.out;omega),HE.out])];decide))
 rw[lC HO.out (by have:=HN.out;omega) (fun i hi=>by rw[EL5.out.2 i (by have:=HN.out;omega),HE.out])]at C3
 have R5:=hid (Ab.heap A5.out R3.out)
 have I5:=hid (I3.out.below A5.out)
 clear o5 g5 e5 l5 i5 i5b i5c O4 A4 NBH R3 I3 L4 q2
 go_wp2_with fail
 refine C3.out.mono ?_
 rintro e9 v6 ⟨rfl,b6⟩
 have A6:Hid (Ab w v6):=AZ.out.trans b6
 have R6:=hid (Ab.heap b6 R5.out)
 have I6:=hid (I5.out.below b6)
 clear b6 C3 A5 AZ R5 I5 EL5
 rcases Nat.eq_zero_or_pos bb with hz | hz
 ·subst hz
  go_wp2
  go_ret
  exact⟨rfl,A6.out⟩
 have hz2:((bb:Int)==0)=false:=by simp;omega
 have HZ:=hid hz
 clear hz
 go_upto_region 20 with(at_builtin;refine T8.dB rfl (.tmp 61) (.tmp 62) rfl v6.heap.size (.slice none 0 0) [] rfl (T8.Own.new _ _) ⟨gb,0,none⟩ N N ((List.range N).map E) rfl EL.out.1 (T8.jR I6.out) (by have:=HN.out;omega) (by have:=HN.out;simp;omega) (Nat.le_refl _) N (by simp) ?_;intro g3 c3 v7 o7 g7 e7 l7)
 have A7:Hid (Ab v6 v7):=(Below.refl _ _).grown g7 (Nat.le_refl _) (fun k hk=>by simp[Value.ownBlock]at hk)
 have O7:Hid (T8.Own v6.heap.size (.slice (some ⟨g3,0,none⟩) N c3) ((List.range N).map E) v7):=o7
 have R7:=hid (A7.out.heap R6.out)
 have L7:=hid (show v6.heap.size<=g3/\gw<g3 from⟨l7,by have:=lt_of_block R6.out;omega⟩)
 clear o7 g7 e7 l7 R6
 obtain⟨_,cN,cur,hcur,hcs,hcc⟩:=O7.out.row
 have x0:=EL.out.2 k HK.out
 have xb:=HEB.out k
 have xv:v7.cell? ⟨g3,k,none⟩=some (.int .u8 ((E k:Nat):Int)):=by
  have q:=hcc k (by rw[EL.out.1];exact HK.out)
  rw[x0]at q
  rw[<- q]
  exact cell_of_row _ _ k _ _ _ hcur
 have xf:=aC hcur k
 have xx:=xor8 xb HB.out.2.2.2.2
 have xl:E k ^^^ bb<256:=Nat.xor_lt_two_pow (n:=8) xb HB.out.2.2.2.2
 obtain⟨z,hzz⟩:=aB (E k ^^^ bb)
 obtain⟨y,hy⟩:=aB (E k)
 rw[hzz]at xx xl
 rw[hy]at xx xv
 have ZZ:=hid hzz
 have BT:=hid (byl_t (N:=N) (k:=k) HEB.out xl)
 have O8:=hid (O7.out.set k z)
 have A8:Hid (Ab w (v7.setCell ⟨g3,k,none⟩ (.int .u8 (z:Int)))):=(A6.out.trans A7.out).setk (by have:=L7.out;have:=A6.out.size;omega) _
 have R8:Hid ((v7.setCell ⟨g3,k,none⟩ (.int .u8 (z:Int))).heap[gw]? =some (.cells #[.int .i64 fa,.int .u32 ((ls:Nat):Int),.int .u32 ((ms:Nat):Int),.slice pt mt ct] 25)):=(dJ (by have:=L7.out;omega)).trans R7.out
 have LO:=hid (show N<=c3/\c3<=9223372036854775807 from⟨cN,by
  obtain⟨_,cp,e,_,_,h3⟩:=O7.out.at (fun x hx=>by
   obtain⟨j,_,rfl⟩:=List.mem_map.1 hx
   exact HEB.out j)
  injection e with _ _ q3
  omega⟩)
 clear hcur hcs hcc cN x0 xb xl hzz hy R7
 go_upto_region 21 with fail
 obtain⟨v8,hv8⟩:=aB (v7.setCell ⟨g3,k,none⟩ (.int .u8 (z:Int)))
 rw[hv8]at O8 A8 R8 ⊢
 clear hv8 xv xf xx O7 A7 L7 A6 I6
 obtain⟨O,hO⟩: ∃O:Nat->Nat,(fun j=>(((List.range N).map E).set k z).getD j 0)=O:=⟨_,rfl⟩
 have OB: ∀i,O i<256:=by rw[<- hO];exact BT.out.2.2.1
 have OE: ∀i,i<N->O i=if i=k then z else E i:=by rw[<- hO];exact BT.out.2.2.2
 have IOv:Hid (IsW .u8 256 v8 (some ⟨g3,0,none⟩) N O):=by
  obtain⟨a0,cp,e,i,_⟩:=O8.out.at BT.out.1
  injection e with q1 _ _
  subst q1
  rw[BT.out.2.1,hO]at i
  exact i
 have HOB:=hid OB
 have HOE:=hid OE
 clear hO OB OE O8 BT EL
 rcases mN N O with he | he | he | he
 ·have DK:=dec_ok HOB.out he
  have CB:=hid (gZ (some ⟨g3,0,none⟩) N c3 O v8 LO.out IOv.out he)
  have TN:=pH (face:=fa) (m:=mt) (ls:=ls) (ms:=ms) (k:=k) (by':=bb) (f:=F) (O:=O) (by have:=HN.out;have:=HK.out;omega) (by have:=HZ.out;omega) HOB.out (fun i hi=>by rw[HOE.out i (by have:=HN.out;omega),HE.out,ZZ.out]) (by rw[<- HN.out.1];exact he)
  obtain⟨f4,h4⟩:=aB (O 4)
  obtain⟨n6,h6⟩:=aB (num O 6)
  obtain⟨n10,h10⟩:=aB (num O 10)
  obtain⟨m5,h5⟩:=aB (O 5*O 5)
  rw[h4,h6,h10,h5]at CB TN DK
  have TNH:=hid TN
  have M5:=hid (gX DK.1).2.2
  clear h4 h6 h10 h5 DK TN he
  go_wp2_with fail
  refine CB.out.mono ?_
  rintro e9 v9 ⟨gu,rfl,b9,l9,r9⟩
  have A9:Hid (Ab w v9):=A8.out.trans b9
  have U9:=hid r9
  have R9:=hid (Ab.heap b9 R8.out)
  clear b9 l9 r9 CB A8 R8
  obtain⟨XA,TA1⟩:=aD v9 (.cells #[.int .i64 ((f4:Nat):Int),.int .u32 ((n6:Nat):Int),.int .u32 ((n10:Nat):Int),.slice (some ⟨gu,0,none⟩) m5 m5] 25)
  go_upto_region 22 with fail
  generalize hV:World.alloc v9 _=va at*
  obtain⟨gu7,hgu⟩:=aB v9.heap.size
  rw[hgu]at TA1 ⊢
  clear hV hgu
  have AA:Hid (Ab w va):=A9.out.trans XA.out
  have RA:=hid (XA.out.heap R9.out)
  have CS:=hid (nK ((f4:Nat):Int) fa n6 ls n10 ms (some ⟨gu,0,none⟩) pt m5 mt m5 ct (dec O) F va (by have:=M5.out;omega) (dT (Sh.bA U9.out XA.out) (fun i _=>lR HOB.out i)) (HF.out.below AA.out))
  rw[TNH.out]at CS
  have t0:=aA 0 TA1.out
  have t1:=aA 1 TA1.out
  have t2:=aA 2 TA1.out
  have t3:=aA 3 TA1.out
  have y0:=aA 0 RA.out
  have y1:=aA 1 RA.out
  have y2:=aA 2 RA.out
  have y3:=aA 3 RA.out
  clear A9 R9 U9 XA TA1
  go_wp2_with fail
  refine CS.out.mono ?_
  rintro e9 vb ⟨rfl,bb5⟩
  have AB:Hid (Ab w vb):=AA.out.trans bb5
  clear bb5 CS
  go_wp2
  go_ret
  exact⟨rfl,AB.out⟩
 ·have C7:=hid (bZ (some ⟨g3,0,none⟩) N c3 O v8 ⟨LO.out.1,LO.out.2⟩ IOv.out (by rw[he];decide))
  rw[he]at C7
  clear he
  go_wp2_with fail
  refine C7.out.mono ?_
  rintro e9 v9 ⟨rfl,b9⟩
  have A9:Hid (Ab w v9):=A8.out.trans b9
  clear b9 C7
  go_wp2
  go_ret
  exact⟨rfl,A9.out.alloc _⟩
 ·have C7:=hid (bZ (some ⟨g3,0,none⟩) N c3 O v8 ⟨LO.out.1,LO.out.2⟩ IOv.out (by rw[he];decide))
  rw[he]at C7
  clear he
  go_wp2_with fail
  refine C7.out.mono ?_
  rintro e9 v9 ⟨rfl,b9⟩
  have A9:Hid (Ab w v9):=A8.out.trans b9
  clear b9 C7
  go_wp2
  go_ret
  exact⟨rfl,A9.out.alloc _⟩
 ·have C7:=hid (bZ (some ⟨g3,0,none⟩) N c3 O v8 ⟨LO.out.1,LO.out.2⟩ IOv.out (by rw[he];decide))
  rw[he]at C7
  clear he
  go_wp2_with fail
  refine C7.out.mono ?_
  rintro e9 v9 ⟨rfl,b9⟩
  have A9:Hid (Ab w v9):=A8.out.trans b9
  clear b9 C7
  go_wp2
  go_ret
  exact⟨rfl,A9.out.alloc _⟩
theorem tcuts_at(fa:Int)(ls ms:Nat)(pt:Option Addr)(mt ct:Nat)(F:Nat->Nat)(ai:Int)(bb:Nat)(w:World)(hls:ls<4294967296)(hms:ms<4294967296)(hct:mt<=ct/\ct<=35184372088832)(hF:IsW .u32 4294967296 w pt mt F)(hb:bb<256):
  Calls prog 4 #[.agg #[.int .i64 fa,.int .u32 ((ls:Nat):Int),.int .u32 ((ms:Nat):Int),.slice pt mt ct],.int .i64 ai,.int .u8 (bb:Int)] w fun e w'=>e=.returned (.bool true)/\Below w.heap.size w w':=by
 cases ho:okT fa mt F ls ms with
 | true=>exact cuts_x fa ls ms pt mt ct F ai bb w hls hms hct hF hb ho
 | false=>exact cuts_no fa ls ms pt mt ct F ai bb w hls hms hct hF hb ho
theorem tcuts_i(fa:Int)(ls ms:Nat)(pt:Option Addr)(mt ct:Nat)(F:Nat->Nat)(ai:Int)(y:Int)(w:World)(hls:ls<4294967296)(hms:ms<4294967296)(hct:mt<=ct/\ct<=35184372088832)(hF:IsW .u32 4294967296 w pt mt F)(hy:0<=y/\y<256):
  Calls prog 4 #[.agg #[.int .i64 fa,.int .u32 ((ls:Nat):Int),.int .u32 ((ms:Nat):Int),.slice pt mt ct],.int .i64 ai,.int .u8 y] w fun e w'=>e=.returned (.bool true)/\Below w.heap.size w w':=by
 obtain⟨bb,rfl⟩: ∃bb:Nat,y=(bb:Int):=⟨y.toNat,by omega⟩
 exact tcuts_at fa ls ms pt mt ct F ai bb w hls hms hct hF (by omega)
end Ti
end
section
open Go.ChangeShapes Go.WideShapes Go.ChangeAt Go.WideMaps Go.WideElems Go.RowKit Go.Deep
namespace Sh
theorem trod_int{H:Type}{enc:TypeId × Value->H}{P:Program}{w:World}{base:Nat}{spare:Nat->Bool}{held:Bool}{t:TypeId}{fuel:Nat}{v:Value}{x:DataW H × List MemPlace}(ht:P.underlying t=some (.int .i64))(h:DataW.trod enc P w base spare held fuel t [v]=some x):
  ∃b,v=.int .i64 b/\(-9223372036854775808<=b/\b<=9223372036854775807):=by
 obtain⟨k,e,_,wf⟩:=DataW.trod_int ht h
 simp at e
 simp only[Lit.wf,Bool.and_eq_true,decide_eq_true_eq]at wf
 have q1:IntKind.i64.min= -9223372036854775808:=by decide
 have q2:IntKind.i64.max=9223372036854775807:=by decide
 rw[q1,q2]at wf
 exact⟨k,e,wf⟩
theorem mO{w:World}{a:Addr}{v:Value}(h:w.cell? a=some v):a.block<w.heap.size:=by
 by_cases c:a.block<w.heap.size
 ·exact c
 ·exfalso
  have:w.heap[a.block]? =none:=by simp;omega
  simp[World.cell?,this]at h
theorem pick_fn{α:Type}{n:Nat}{R:Nat->α->Prop}(d:α)(h: ∀i,i<n-> ∃x,R i x): ∃f:Nat->α,∀i,i<n->R i (f i):=by
 have: ∀i,∃x,i<n->R i x:=fun i=>by
  by_cases c:i<n
  ·obtain⟨x,h1⟩:=h i c
   exact⟨x,fun _=>h1⟩
  ·exact⟨d,fun h=>absurd h c⟩
 exact⟨fun i=>(this i).choose,fun i hi=>(this i).choose_spec hi⟩
end Sh
end
section
open Go.ChangeShapes Go.WideShapes Go.ChangeAt Go.WideMaps Go.WideElems Go.RowKit Go.Deep
namespace Ti
theorem hU{H:Type}{enc:TypeId × Value->H}{P:Program}{w:World}{base:Nat}{spare:Nat->Bool}{held:Bool}{t:TypeId}{fuel:Nat}{v:Value}{x:DataW H × List MemPlace}(ht:P.underlying t=some (.int .u32))(h:DataW.trod enc P w base spare held fuel t [v]=some x):
  ∃b:Nat,v=.int .u32 (b:Int)/\b<4294967296:=by
 obtain⟨k,e,_,wf⟩:=DataW.trod_int ht h
 simp at e
 simp only[Lit.wf,Bool.and_eq_true,decide_eq_true_eq]at wf
 have q1:IntKind.u32.min=0:=by decide
 have q2:IntKind.u32.max=4294967295:=by decide
 rw[q1,q2]at wf
 exact⟨k.toNat,by rw[Int.toNat_of_nonneg wf.1];exact e,by omega⟩
theorem lD{H:Type}{enc:TypeId × Value->H}{W:World}{cs:List Value}{fuel:Nat}{x:DataW H × List MemPlace}
  (hf:DataW.trod enc prog W 0 (fun _=>true) true fuel 23 cs=some x) (hs: ∀elems spare,x.1=.slice elems spare->(elems.length+spare.length)*4<=reachBytes): ∃a0 len cap xs,cs=[.slice a0 len cap]/\IsW .u32 4294967296 W a0 len xs/\len<=cap/\cap<=35184372088832:=by
 rcases open_slice1 underlying23 (by kernel_rfl) hf with⟨hcs,_⟩ | ⟨a,l,c,m,n,V,D,Pl,hcs,_,hl,hm,hmm,hx0,hx⟩
 ·exact⟨none,0,0,fun _=>0,hcs,fun k hk=>by omega,Nat.le_refl _,Nat.zero_le _⟩
 ·simp only[if_true]at hmm
  have sz:=hs _ _ (by rw[hx0])
  simp only[List.length_map,List.length_range]at sz
  have each: ∀i,i<l-> ∃x:Nat,W.cell? (a.add i)=some (.int .u32 (x:Int))/\x<4294967296:=by
   intro i hi
   obtain⟨h1,h2⟩:=hx i (by omega)
   obtain⟨x,e,wx⟩:=hU underlying22 h2
   rw[e]at h1
   exact⟨x,h1,wx⟩
  obtain⟨f,hf⟩:=Sh.pick_fn 0 each
  refine⟨some a,l,c,f,hcs,fun k hk=>⟨(hf k hk).2,?_⟩,hl,by unfold reachBytes at sz;omega⟩
  have h0:=(hf k hk).1
  have z:=(hf 0 (by omega)).1
  obtain⟨b,off,spot⟩:=a
  have hspot:spot=none:=by simpa [Addr.add]using World.cell?_spot z
  subst hspot
  rw[Sh.cW]at h0
  exact⟨b,off,rfl,Sh.mO h0,h0⟩
theorem array4t{c:Array Value}(h:c.size=4): ∃v0 v1 v2 v3,c= #[v0,v1,v2,v3]:=by
 rcases c with⟨l⟩
 match l,h with
 | [v0,v1,v2,v3],_=>exact⟨v0,v1,v2,v3,rfl⟩
theorem bytes32:Try.prog.bytesOf 22=4:=by kernel_rfl
theorem pK{H:Type}{enc:TypeId × Value->H}{W:World}{r:Reach}{b0:Nat}{v:Value}{d:DataW H}{p:List MemPlace}(hv:Value.okWide prog W r b0 25 v)(h:DataW.Trod enc prog W 0 (fun _=>true) true 25 v d p)
  (hz: ∀parts,d=.agg parts->(DataW.weightsEach prog [3,22,22,23] parts).all (· <=reachBytes)=true):
  ∃fa ls ms pt mt ct F,v=.agg #[.int .i64 fa,.int .u32 ((ls:Nat):Int),.int .u32 ((ms:Nat):Int),.slice pt mt ct]/\(-9223372036854775808<=fa/\fa<=9223372036854775807)/\ls<4294967296/\ms<4294967296/\IsW .u32 4294967296 W pt mt F/\mt<=ct/\ct<=35184372088832:=by
 have hC:Try.prog.cellsOf 25=4:=by kernel_rfl
 have k0:Try.prog.cellsOf 3=1:=by kernel_rfl
 have k1:Try.prog.cellsOf 22=1:=by kernel_rfl
 have k2:Try.prog.cellsOf 23=1:=by kernel_rfl
 obtain⟨cs,rfl,hsz⟩:=okWide_struct underlying25 hv
 obtain⟨v0,v1,v2,v3,rfl⟩:=array4t (hsz.trans hC)
 obtain⟨fuel,hf⟩:=h
 have hf':DataW.trod enc prog W 0 (fun _=>true) true fuel 25 [v0,v1,v2,v3]=some (d,p):=by simpa [Value.cells]using hf
 obtain⟨xs,m,_,hx,hlen,hn,hel⟩:=DataW.trod_struct underlying25 hf'
 match xs,hn with
 | [x0,x1,x2,x3],_=>
  have h0:=hel 0 _ rfl
  have h1:=hel 1 _ rfl
  have h2:=hel 2 _ rfl
  have h3:=hel 3 _ rfl
  simp[k0,k1,k2]at h0 h1 h2 h3
  obtain⟨fa,rfl,i0⟩:=Sh.trod_int underlying3 h0
  obtain⟨ls,rfl,i1⟩:=hU underlying22 h1
  obtain⟨ms,rfl,i2⟩:=hU underlying22 h2
  have hzz:=hz _ (congrArg Prod.fst hx)
  obtain⟨pt,mt,ct,F,e3,i3,j3,l3⟩:=lD h3 (fun elems spare e=>by have q:=sized_slice hzz (j:=3) (t:=23) (e:=22) (elems:=elems) (spare:=spare) rfl (by rw[<- e];rfl) underlying23;rw[bytes32]at q;exact q)
  simp at e3
  subst e3
  exact⟨fa,ls,ms,pt,mt,ct,F,rfl,i0,i1,i2,i3,j3,l3⟩
theorem pM{H:Type}{P:Program}{ts:List TypeId}{ds:List (DataW H)}(h:(DataW.weightsEach P ts ds).all (· <=reachBytes)=true){j:Nat}{t:TypeId}{fs:Array Field}{parts:List (DataW H)}(ht:ts[j]? =some t)(hd:ds[j]? =some (.agg parts))(hu:P.underlying t=some (.struct fs)):
  (DataW.weightsEach P (fs.toList.map (·.type)) parts).all (· <=reachBytes)=true:=by
 refine List.all_eq_true.2 (fun n hn=> ?_)
 exact List.all_eq_true.1 h _ (DataW.weights_mem_each ht hd n (by simpa [DataW.weights,hu]using hn))
theorem lit_8{x:Int}(h:(Lit.int .u8 x).wf=true):0<=x/\x<256:=by
 simp only[Lit.wf,Bool.and_eq_true,decide_eq_true_eq]at h
 have q1:IntKind.u8.min=0:=by decide
 have q2:IntKind.u8.max=255:=by decide
 omega
end Ti
end
end Go.Proofs.Ytdeammhdedcjlaa
