/-
  Some of the texts of this proof, one behind the other.
-/
import Derived.ProofKit
import Derived.OpenShut
import Derived.WalkLawsBesides
import Derived.Stop.Joined
import Derived.Carry
import Derived.Lib.SmallJoins
import Derived.Deep.SlicePairs
import Derived.Deep.Slices
import Derived.Test.YtdeammhdedcjlaaKa08
set_option maxRecDepth 100000
set_option maxHeartbeats 400000000
namespace Go.Proofs.Ytdeammhdedcjlaa
open _root_.Go.Proofs.Try
section
open Go.RowKit Go.Deep Tf Cu
namespace Ti
def TilesAt(W0:World)(n m:Nat)(W:Nat->Int)(gl:Nat)(gs:Nat->Nat)(w:World):Prop:=
 Below W0.heap.size W0 w/\W0.heap.size<=gl/\w.rowIs gl 25 24 (tcv n m W gs)/\(∀j,j<6->gl<gs j/\w.rowIs (gs j) 22 m (fun k=>.int .u32 ((tb n W (j*m+k):Nat):Int)))/\ ∀i j,i<j->j<6->gs i<gs j
theorem tiles_ok(side:Int)(pb:Option Addr)(lb cb:Nat)(B:Nat->Nat)(pw:Option Addr)(lw cw:Nat)(W:Nat->Int)(pt:Option Addr)(lt ct:Nat)(T:Nat->Int)(ps:Option Addr)(ls cs:Nat)(S:Nat->Nat)(sky st:Int)(w:World)(i1:IsFl w pb lb B)(i2:Sh.IsI w pw lw W)(i3:Sh.IsI w pt lt T)(i4:IsFl w ps ls S)(h:(Ss.chk side lb lw lt ls B W T S sky st).2=0):
  Calls prog 12 #[.int .i64 side,.agg #[.slice pb lb cb,.slice pw lw cw,.slice pt lt ct,.slice ps ls cs,.int .i64 sky,.int .i64 st]] w fun e w'=> ∃gl gs,e=.returned (.tuple #[.slice (some ⟨gl,0,none⟩) 6 6,.int .i64 0])/\TilesAt w side.toNat (side.toNat*side.toNat) W gl gs w':=by
 obtain⟨n,rfl,hn,hl,h0⟩:=chk_sea h
 have m1:=cX hn.1 hn.2
 obtain⟨b,o,rfl⟩:=i2.some0 (by omega)
 rw[Int.toNat_natCast]
 exact tiles_go n (n*n) pb lb cb b o lw cw W pt lt ct ps ls cs sky st _ w hn rfl hl i2 h0 (hid fun v a=>by
  have q:=Ss.check_at (n:Nat) pb lb cb B (some ⟨b,o,none⟩) lw cw W pt lt ct T ps ls cs S sky st v (i1.below a) (i2.below a) (i3.below a) (i4.below a)
  rw[h]at q
  exact q)
theorem f4_lt(i:Nat)(hi:i<4):f4 i<4294967296:=by
 have c:i=0\/i=1\/i=2\/i=3:=by omega
 rcases c with rfl | rfl | rfl | rfl<;>decide
theorem oA(w:World):Calls prog 18 #[] w fun e w'=> ∃g,e=.returned (.agg #[.int .i64 5,.int .u32 0,.int .u32 1073741824,.slice (some ⟨g,0,none⟩) 4 4])/\Below w.heap.size w w'/\w.heap.size<=g/\w'.rowIs g 22 4 (fun i=>.int .u32 ((f4 i:Nat):Int)):=by
 have BL: ∀v:World,(Instr.buildSlice 23 4 #[(0,.int .u32 1065353216),(1,.int .u32 1073741824),(2,.int .u32 0),(3,.int .u32 1065353216)]).run prog v=.ok (.slice (some ⟨v.heap.size,0,none⟩) 4 4) (v.alloc (.cells #[.int .u32 1065353216,.int .u32 1073741824,.int .u32 0,.int .u32 1065353216] 22)):=fun v=>by simp[go_sem,Instr.buildSlice,run_underlying underlying23]
 obtain⟨A0,R0⟩:=aD w (.cells #[.int .i64 0,.int .u32 0,.int .u32 0,.slice none 0 0] 25)
 go_enter func18,ntmps18
 go_upto_region 1 with fail
 generalize hW:World.alloc w _=V0 at*
 obtain⟨gr,hgr⟩:=aB w.heap.size
 have HG:Hid (w.heap.size<=gr):=by show _<=_;omega
 rw[hgr]at R0 ⊢
 clear hgr hW
 obtain⟨A1,R1⟩:=aD V0 (.cells #[.int .u32 1065353216,.int .u32 1073741824,.int .u32 0,.int .u32 1065353216] 22)
 have R2:=hid (A1.out.heap R0.out)
 have A2:=hid (A0.out.trans A1.out)
 have t0:=aA 0 R2.out
 have t1:=aA 1 R2.out
 have t2:=aA 2 R2.out
 have t3:=aA 3 R2.out
 have f0:=aC R2.out 0
 have f1:=aC R2.out 1
 have f2:=aC R2.out 2
 have f3:=aC R2.out 3
 have LZ:Hid (gr<V0.heap.size/\w.heap.size<=V0.heap.size):=⟨lt_of_block R0.out,A0.out.size⟩
 go_wp2_with fail
 (try simp only[Exit.inBlock,Exit.then])
 have ne:V0.heap.size≠gr:=by have:=LZ.out;omega
 have RW:(V0.alloc (.cells #[.int .u32 1065353216,.int .u32 1073741824,.int .u32 0,.int .u32 1065353216] 22)).rowIs V0.heap.size 22 4 (fun i=>.int .u32 ((f4 i:Nat):Int)):=⟨_,R1.out,rfl,fun i hi=>by
  have c:i=0\/i=1\/i=2\/i=3:=by omega
  rcases c with rfl | rfl | rfl | rfl<;>rfl⟩
 refine bodyPost_ret (v:=.agg #[.int .i64 5,.int .u32 0,.int .u32 1073741824,.slice (some ⟨V0.heap.size,0,none⟩) 4 4]) ?_ rfl ?_
 ·exact results_cell_row results18 _ _ gr _ _ (0,0) _ rfl (fS R2.out) underlying25 rfl (by kernel_rfl)
 ·exact⟨_,rfl,(((A2.out.setk HG.out _).setk HG.out _).setk HG.out _).setk HG.out _,LZ.out.2,(((RW.setOther (a:=⟨gr,0,none⟩) ne _).setOther (a:=⟨gr,1,none⟩) ne _).setOther (a:=⟨gr,2,none⟩) ne _).setOther (a:=⟨gr,3,none⟩) ne _⟩
theorem run_bs{P:Program}{a:Act}{o:Oper}{t:TypeId}{n:Nat}{ps:Array (Nat × Operand)}{vs:Array (Nat × Value)}{u:Value}{w w':World}(ho:o.op=.buildSlice t n ps)(hv:(ps.map fun(i,x)=>(i,a.eval x))=vs)(M:(Instr.buildSlice t n vs).run P w=.ok u w'):(execOp a.eval o).run P w=.ok (.value u) w':=by
 unfold execOp
 rw[ho]
 simp only[hv]
 exact Cx.run_val M
theorem pM{P:Program}{a:Act}{o:Oper}{x y:Operand}{f:FuncId}{fn:Func}{ats:Array TypeId}{v u:Value}(ho:o.op=.call {callee:=.value (.func f),args:= #[x,y],argTypes:=ats})(hx:a.eval x=v)(hy:a.eval y=u)(hf:P.funcs[f]? =some fn)(hn:(fn.name== "runtime.NumGoroutine")=false)(hb:fn.body.isNone=false)(w:World):(execOp a.eval o).run P w=.ok (.enter f #[v,u]) w:=by
 have h1:fn.name≠ "runtime.NumGoroutine" :=by simpa using hn
 have ef:a.eval (.func f)=.func (.func f) #[] #[]:=rfl
 have e:execOp a.eval o=callFunc f #[v,u]:=by
  unfold execOp
  simp[ho,resolve,Deferred.ofValue,invoke,ef,hx,hy]
 obtain⟨c,hc⟩: ∃c,fn.body=some c:=by
  cases h:fn.body with
  | none=>simp[h]at hb
  | some c=>exact⟨c,rfl⟩
 rw[e]
 simp[callFunc,hf,h1,hc]
def hdB(l:List Nat):Nat:=l.headD 0
def RL(ob:Obj)(x:Cx.Ix)(w:World):Prop:= ∃b,x.1=[b]/\w.heap[b]? =some ob
def RB(x:Cx.Ix)(w:World):Prop:= ∃b1 b2 b3 b4,x.2=.agg #[.slice (some ⟨b1,0,none⟩) 6 6,.slice (some ⟨b2,0,none⟩) 6 6,.slice (some ⟨b3,0,none⟩) 6 6,.slice (some ⟨b4,0,none⟩) 12 12,.int .i64 0,.int .i64 0]/\w.heap[b1]? =some (Obj.cells (madeCells #[.float .f64 0] 6) 47)/\w.heap[b2]? =some (Obj.cells #[.int .i64 1431655765,.int .i64 0,.int .i64 0,.int .i64 0,.int .i64 0,.int .i64 0] 2)/\w.heap[b3]? =some (Obj.cells (madeCells #[.int .i64 0] 6) 2)/\w.heap[b4]? =some (Obj.cells (madeCells #[.float .f64 0] 12) 47)
def RT(x:Cx.Ix)(w:World):Prop:= ∃gl gs,x.1=[gl]/\w.rowIs gl 25 24 (tcv 1 1 W6 gs)
theorem jU{ob:Obj}{x:Cx.Ix}{w w':World}(h:RL ob x w)(a:Ab w w'):RL ob x w':=by
 obtain⟨b,e,h⟩:=h
 exact⟨b,e,a.heap h⟩
theorem rb_stb{x:Cx.Ix}{w w':World}(h:RB x w)(a:Ab w w'):RB x w':=by
 obtain⟨b1,b2,b3,b4,e,h1,h2,h3,h4⟩:=h
 exact⟨b1,b2,b3,b4,e,a.heap h1,a.heap h2,a.heap h3,a.heap h4⟩
theorem rt_stb{x:Cx.Ix}{w w':World}(h:RT x w)(a:Ab w w'):RT x w':=by
 obtain⟨gl,gs,e,h⟩:=h
 exact⟨gl,gs,e,Sh.aR h a⟩
theorem stb_aw:Cx.Stable (fun k=>if k=0 then some (RL (Obj.cells (madeCells #[.float .f64 0] 6) 47),fun x=>.slice (some ⟨hdB x.1,0,none⟩) 6 6)else if k=1 then some (RL (Obj.cells #[.int .i64 1431655765,.int .i64 0,.int .i64 0,.int .i64 0,.int .i64 0,.int .i64 0] 2),fun x=>.slice (some ⟨hdB x.1,0,none⟩) 6 6)else if k=2 then some (RL (Obj.cells (madeCells #[.int .i64 0] 6) 2),fun x=>.slice (some ⟨hdB x.1,0,none⟩) 6 6)else if k=3 then some (RL (Obj.cells (madeCells #[.float .f64 0] 12) 47),fun x=>.slice (some ⟨hdB x.1,0,none⟩) 12 12)else if k=4 then some (RB,fun x=>x.2)else if k=5 then some (RT,fun x=>.tuple #[.slice (some ⟨hdB x.1,0,none⟩) 6 6,.int .i64 0])else none):=fun i R mk h x v v' hr ha=>by
 rcases Nat.decEq i 0 with q0 | q0
 rotate_left
 ·subst q0
  simp only[if_true,Option.some.injEq,Prod.mk.injEq]at h
  obtain⟨h1,h2⟩:=h
  subst h1 h2
  exact jU hr ha
 rcases Nat.decEq i 1 with q1 | q1
 rotate_left
 ·subst q1
  simp only[if_true,if_neg (show¬(1:Nat)=0 by decide),Option.some.injEq,Prod.mk.injEq]at h
  obtain⟨h1,h2⟩:=h
  subst h1 h2
  exact jU hr ha
 rcases Nat.decEq i 2 with q2 | q2
 rotate_left
 ·subst q2
  simp only[if_true,if_neg (show¬(2:Nat)=0 by decide),if_neg (show¬(2:Nat)=1 by decide),Option.some.injEq,Prod.mk.injEq]at h
  obtain⟨h1,h2⟩:=h
  subst h1 h2
  exact jU hr ha
 rcases Nat.decEq i 3 with q3 | q3
 rotate_left
 ·subst q3
  simp only[if_true,if_neg (show¬(3:Nat)=0 by decide),if_neg (show¬(3:Nat)=1 by decide),if_neg (show¬(3:Nat)=2 by decide),Option.some.injEq,Prod.mk.injEq]at h
  obtain⟨h1,h2⟩:=h
  subst h1 h2
  exact jU hr ha
 rcases Nat.decEq i 4 with q4 | q4
 rotate_left
 ·subst q4
  simp only[if_true,if_neg (show¬(4:Nat)=0 by decide),if_neg (show¬(4:Nat)=1 by decide),if_neg (show¬(4:Nat)=2 by decide),if_neg (show¬(4:Nat)=3 by decide),Option.some.injEq,Prod.mk.injEq]at h
  obtain⟨h1,h2⟩:=h
  subst h1 h2
  exact rb_stb hr ha
 rcases Nat.decEq i 5 with q5 | q5
 rotate_left
 ·subst q5
  simp only[if_true,if_neg (show¬(5:Nat)=4 by decide),if_neg (show¬(5:Nat)=0 by decide),if_neg (show¬(5:Nat)=1 by decide),if_neg (show¬(5:Nat)=2 by decide),if_neg (show¬(5:Nat)=3 by decide),Option.some.injEq,Prod.mk.injEq]at h
  obtain⟨h1,h2⟩:=h
  subst h1 h2
  exact rt_stb hr ha
 ·simp only[if_neg q0,if_neg q1,if_neg q2,if_neg q3,if_neg q4,if_neg q5]at h
  cases h
theorem lK:(Try.prog.info? 47).map (fun i=>(i.zero,i.size,i.bytes))=some (some (.float .f64 0),1,8):=by kernel_rfl
theorem bC(w:World):Calls prog 8 #[] w fun e w'=>e=.returned (.bool true)/\Below w.heap.size w w':=by
 have M1: ∀v:World,(Instr.makeSlice 37 (.int .i64 6) (.int .i64 6)).run prog v=.ok (.slice (some ⟨v.heap.size,0,none⟩) 6 6) (v.alloc (Obj.cells (madeCells #[.float .f64 0] 6) 47)):=fun v=>run_make_row' (P:=prog) 37 47 (.float .f64 0) 8 underlying37 lK rfl .i64 .i64 6 (by omega) (by omega) v
 have M2: ∀v:World,(Instr.makeSlice 38 (.int .i64 6) (.int .i64 6)).run prog v=.ok (.slice (some ⟨v.heap.size,0,none⟩) 6 6) (v.alloc (Obj.cells (madeCells #[.int .i64 0] 6) 2)):=fun v=>run_make_row' (P:=prog) 38 2 (.int .i64 0) 8 underlying38 Sh.info64 rfl .i64 .i64 6 (by omega) (by omega) v
 have M3: ∀v:World,(Instr.makeSlice 37 (.int .i64 12) (.int .i64 12)).run prog v=.ok (.slice (some ⟨v.heap.size,0,none⟩) 12 12) (v.alloc (Obj.cells (madeCells #[.float .f64 0] 12) 47)):=fun v=>run_make_row' (P:=prog) 37 47 (.float .f64 0) 8 underlying37 lK rfl .i64 .i64 12 (by omega) (by omega) v
 have BL: ∀v:World,(Instr.buildSlice 38 6 #[(0,.int .i64 1431655765),(1,.int .i64 0),(2,.int .i64 0),(3,.int .i64 0),(4,.int .i64 0),(5,.int .i64 0)]).run prog v=.ok (.slice (some ⟨v.heap.size,0,none⟩) 6 6) (v.alloc (.cells #[.int .i64 1431655765,.int .i64 0,.int .i64 0,.int .i64 0,.int .i64 0,.int .i64 0] 2)):=fun v=>by simp[go_sem,Instr.buildSlice,run_underlying underlying38]
 go_enter func8,ntmps8
 go_wp2_with fail
 refine(oA _).mono ?_
 rintro e9 v1 ⟨g,rfl,b1,l1,r1⟩
 have A1:Hid (Ab w v1):=b1
 have IW:=hid (bM (M:=4294967296) r1 (fun i hi=>by
  have c:i=0\/i=1\/i=2\/i=3:=by omega
  rcases c with rfl | rfl | rfl | rfl<;>decide))
 have CE:=hid (bI 5 0 1073741824 (some ⟨g,0,none⟩) 4 4 f4 v1 (by decide) (by decide) (by decide) IW.out ok4)
 clear b1 l1 r1
 rw[sd4]at CE
 go_wp2_with fail
 refine CE.out.mono ?_
 rintro e9 v2 ⟨gb,rfl,b2,l2,r2⟩
 have A2:Hid (Ab w v2):=A1.out.trans b2
 have E2:Hid (v2.rowIs gb 5 30 (fun i=>.int .u8 ((E30 i:Nat):Int))):=r2
 have I2:=hid (bM (M:=256) E2.out (fun i _=>fJ (by decide) (by decide)))
 have CD:=hid (bJ (some ⟨gb,0,none⟩) 30 30 E30 v2 (by decide) I2.out e30)
 rw[e30_h.1,e30_h.2.1,e30_h.2.2.1,e30_h.2.2.2]at CD
 clear b2 l2 r2 CE IW A1
 go_wp2_with fail
 refine CD.out.mono ?_
 rintro e9 v3 ⟨gd,rfl,b3,l3,r3⟩
 have A3:Hid (Ab w v3):=A2.out.trans b3
 have E3:=hid (Sh.aR E2.out b3)
 have D3:=hid (r3.congr (g:=fun i=>.int .u32 ((f4 i:Nat):Int)) (fun i hi=>by rw[e30_d i hi]))
 clear b3 l3 r3 CD I2 A2 E2
 obtain⟨X4,T4⟩:=aD v3 (.cells #[.int .i64 5,.int .u32 0,.int .u32 1073741824,.slice (some ⟨gd,0,none⟩) 4 4] 25)
 go_upto_region 3 with fail
 generalize hV:World.alloc v3 _=v4 at*
 obtain⟨gt,hgt⟩:=aB v3.heap.size
 rw[hgt]at T4 ⊢
 clear hV hgt
 have A4:Hid (Ab w v4):=A3.out.trans X4.out
 have E4:=hid (Sh.aR E3.out X4.out)
 have D4:=hid (Sh.aR D3.out X4.out)
 clear A3 E3 D3 X4
 have CN:=hid (bP none 0 0 (fun _=>0) v4 (by decide) (IsW.nil _ _ _ _ _) (by rw[e0];decide))
 rw[e0]at CN
 go_wp2_with fail
 refine CN.out.mono ?_
 rintro e9 v5 ⟨rfl,b5⟩
 have X6:Hid (Ab v4 (v5.alloc (.cells #[.int .i64 0,.int .u32 0,.int .u32 0,.slice none 0 0] 25))):=Ab.alloc b5 _
 clear CN b5
 go_upto_region 4 with fail
 generalize hV:World.alloc v5 _=v6 at*
 clear hV
 have A6:Hid (Ab w v6):=A4.out.trans X6.out
 have E6:=hid (Sh.aR E4.out X6.out)
 have D6:=hid (Sh.aR D4.out X6.out)
 have T6:=hid (X6.out.heap T4.out)
 clear A4 E4 D4 T4 X6
 obtain⟨gp,hgp⟩:=aB v5.heap.size
 rw[hgp]
 clear hgp
 go_cut [7,8]from 24 to 31 (fun s7 s8 wx=> ∃gl gs,s7=.slice (some ⟨gl,0,none⟩) 6 6/\s8=.int .i64 0/\Ab v6 wx/\wx.rowIs gl 25 24 (tcv 1 1 W6 gs))
 case first=>
  obtain⟨UU,E,hF1,hF2⟩:=cls v6.drew
  have HU:=hid hF2
  clear hF1 hF2
  refine Cx.lJ 10 (fun k=>if k=0 then some (RL (Obj.cells (madeCells #[.float .f64 0] 6) 47),fun x=>.slice (some ⟨hdB x.1,0,none⟩) 6 6)else if k=1 then some (RL (Obj.cells #[.int .i64 1431655765,.int .i64 0,.int .i64 0,.int .i64 0,.int .i64 0,.int .i64 0] 2),fun x=>.slice (some ⟨hdB x.1,0,none⟩) 6 6)else if k=2 then some (RL (Obj.cells (madeCells #[.int .i64 0] 6) 2),fun x=>.slice (some ⟨hdB x.1,0,none⟩) 6 6)else if k=3 then some (RL (Obj.cells (madeCells #[.float .f64 0] 12) 47),fun x=>.slice (some ⟨hdB x.1,0,none⟩) 12 12)else if k=4 then some (RB,fun x=>x.2)else if k=5 then some (RT,fun x=>.tuple #[.slice (some ⟨hdB x.1,0,none⟩) 6 6,.int .i64 0])else none) (fun j=>if j=4 then [0,1,2,3]else if j=5 then [4]else []) stb_aw (by kernel_rfl) (by kernel_rfl) (by kernel_rfl) (by kernel_rfl) ?_
  simp only[List.take_succ_cons,List.take_zero]
  refine Cx.bR (ob:=RL (Obj.cells (madeCells #[.float .f64 0] 6) 47)) (mk:=fun x=>.slice (some ⟨hdB x.1,0,none⟩) 6 6) (by rfl) (by kernel_rfl) ?_ ?_
  ·refine Cx.gB (O:=(Obj.cells (madeCells #[.float .f64 0] 6) 47)) (u:=fun _=>.bool true) (fun v _=> ?_) (fun v _=>⟨v.heap.size,rfl,heap_alloc_new _ _⟩)
   exact Cx.run_make (vx:=.int .i64 6) (vy:=.int .i64 6) (by rfl) (by rfl) (by rfl) (M1 v)
  intro x0 fx0
  simp only[Act.put,List.setIfInBounds_toArray,List.set_cons_succ,List.set_cons_zero]
  refine Cx.bR (ob:=RL (Obj.cells #[.int .i64 1431655765,.int .i64 0,.int .i64 0,.int .i64 0,.int .i64 0,.int .i64 0] 2)) (mk:=fun x=>.slice (some ⟨hdB x.1,0,none⟩) 6 6) (by rfl) (by kernel_rfl) ?_ ?_
  ·refine Cx.gB (O:=(Obj.cells #[.int .i64 1431655765,.int .i64 0,.int .i64 0,.int .i64 0,.int .i64 0,.int .i64 0] 2)) (u:=fun _=>.bool true) (fun v _=> ?_) (fun v _=>⟨v.heap.size,rfl,heap_alloc_new _ _⟩)
   exact run_bs (P:=prog) (vs:= #[(0,.int .i64 1431655765),(1,.int .i64 0),(2,.int .i64 0),(3,.int .i64 0),(4,.int .i64 0),(5,.int .i64 0)]) (by rfl) (by simp[Act.eval]) (BL v)
  intro x1 fx1
  simp only[Act.put,List.setIfInBounds_toArray,List.set_cons_succ,List.set_cons_zero]
  refine Cx.bR (ob:=RL (Obj.cells (madeCells #[.int .i64 0] 6) 2)) (mk:=fun x=>.slice (some ⟨hdB x.1,0,none⟩) 6 6) (by rfl) (by kernel_rfl) ?_ ?_
  ·refine Cx.gB (O:=(Obj.cells (madeCells #[.int .i64 0] 6) 2)) (u:=fun _=>.bool true) (fun v _=> ?_) (fun v _=>⟨v.heap.size,rfl,heap_alloc_new _ _⟩)
   exact Cx.run_make (vx:=.int .i64 6) (vy:=.int .i64 6) (by rfl) (by rfl) (by rfl) (M2 v)
  intro x2 fx2
  simp only[Act.put,List.setIfInBounds_toArray,List.set_cons_succ,List.set_cons_zero]
  refine Cx.bR (ob:=RL (Obj.cells (madeCells #[.float .f64 0] 12) 47)) (mk:=fun x=>.slice (some ⟨hdB x.1,0,none⟩) 12 12) (by rfl) (by kernel_rfl) ?_ ?_
  ·refine Cx.gB (O:=(Obj.cells (madeCells #[.float .f64 0] 12) 47)) (u:=fun _=>.bool true) (fun v _=> ?_) (fun v _=>⟨v.heap.size,rfl,heap_alloc_new _ _⟩)
   exact Cx.run_make (vx:=.int .i64 12) (vy:=.int .i64 12) (by rfl) (by rfl) (by rfl) (M3 v)
  intro x3 fx3
  simp only[Act.put,List.setIfInBounds_toArray,List.set_cons_succ,List.set_cons_zero]
  refine Cx.bR (ob:=RB) (mk:=fun x=>x.2) (by rfl) (by kernel_rfl) ?_ ?_
  ·intro v hv
   obtain⟨⟨b1,e1,h1⟩,-⟩:=hv.at (i:=0) (x:=x0) (R:=RL (Obj.cells (madeCells #[.float .f64 0] 6) 47)) (mk:=fun x=>.slice (some ⟨hdB x.1,0,none⟩) 6 6) (by rfl) (by rfl)
   obtain⟨⟨b2,e2,h2⟩,-⟩:=hv.at (i:=1) (x:=x1) (R:=RL (Obj.cells #[.int .i64 1431655765,.int .i64 0,.int .i64 0,.int .i64 0,.int .i64 0,.int .i64 0] 2)) (mk:=fun x=>.slice (some ⟨hdB x.1,0,none⟩) 6 6) (by rfl) (by rfl)
   obtain⟨⟨b3,e3,h3⟩,-⟩:=hv.at (i:=2) (x:=x2) (R:=RL (Obj.cells (madeCells #[.int .i64 0] 6) 2)) (mk:=fun x=>.slice (some ⟨hdB x.1,0,none⟩) 6 6) (by rfl) (by rfl)
   obtain⟨⟨b4,e4,h4⟩,-⟩:=hv.at (i:=3) (x:=x3) (R:=RL (Obj.cells (madeCells #[.float .f64 0] 12) 47)) (mk:=fun x=>.slice (some ⟨hdB x.1,0,none⟩) 12 12) (by rfl) (by rfl)
   have q: ∀(o:Oper) (a:Act),(execOp a.eval o).run prog v=.ok (.value (.agg #[.slice (some ⟨hdB x0.1,0,none⟩) 6 6,.slice (some ⟨hdB x1.1,0,none⟩) 6 6,.slice (some ⟨hdB x2.1,0,none⟩) 6 6,.slice (some ⟨hdB x3.1,0,none⟩) 12 12,.int .i64 0,.int .i64 0])) v->Cx.LayR prog v RB (fun x=>x.2) ((execOp a.eval o).run prog v):=fun o a q=>by
    rw[q]
    exact⟨([],.agg #[.slice (some ⟨hdB x0.1,0,none⟩) 6 6,.slice (some ⟨hdB x1.1,0,none⟩) 6 6,.slice (some ⟨hdB x2.1,0,none⟩) 6 6,.slice (some ⟨hdB x3.1,0,none⟩) 12 12,.int .i64 0,.int .i64 0]),rfl,Ab.refl v,(fun b hb=>by cases hb),b1,b2,b3,b4,by rw[e1,e2,e3,e4];rfl,h1,h2,h3,h4⟩
   refine q _ _ ?_
   simp[execOp,go_sem,Act.eval]
  intro x4 fx4
  simp only[Act.put,List.setIfInBounds_toArray,List.set_cons_succ,List.set_cons_zero]
  refine Cx.bR (ob:=RT) (mk:=fun x=>.tuple #[.slice (some ⟨hdB x.1,0,none⟩) 6 6,.int .i64 0]) (by rfl) (by kernel_rfl) ?_ ?_
  ·refine Cx.lay_call (f:=12) (args:= #[.int .i64 1,x4.2]) ?_ (fun v hv=> ?_)
   ·intro v
    exact pM (x:=.const (.int .i64 1)) (y:=.tmp 28) (by rfl) (by rfl) (by rfl) func12 (by kernel_rfl) (by kernel_rfl) v
   ·obtain⟨⟨b1,b2,b3,b4,e,h1,h2,h3,h4⟩,-⟩:=hv.at (i:=4) (x:=x4) (R:=RB) (mk:=fun x=>x.2) (by rfl) (by rfl)
    rw[e]
    have F1:IsFl v (some ⟨b1,0,none⟩) 6 (fun _=>0):=rowIs.fl (cT h1) (fun _ _=>by decide)
    have F2:Sh.IsI v (some ⟨b2,0,none⟩) 6 W6:=Sh.row_in ⟨_,h2,rfl,fun i hi=>by
     have c:i=0\/i=1\/i=2\/i=3\/i=4\/i=5:=by omega
     rcases c with rfl | rfl | rfl | rfl | rfl | rfl<;>rfl⟩ (fun i _=>by unfold W6;split<;>decide)
    have F3:Sh.IsI v (some ⟨b3,0,none⟩) 6 (fun _=>0):=Sh.row_in (cT h3) (fun _ _=>by decide)
    have F4:IsFl v (some ⟨b4,0,none⟩) 12 (fun _=>0):=rowIs.fl (cT h4) (fun _ _=>by decide)
    exact(tiles_ok 1 _ 6 6 _ _ 6 6 _ _ 6 6 _ _ 12 12 _ 0 0 v F1 F2 F3 F4 (by rw[chk6])).mono fun e w' q=>by
     obtain⟨gl,gs,rfl,q1,q2,q3,q4,q5⟩:=q
     exact⟨([gl],.bool true),rfl,q1,(fun b hb=>by
      have hb:b=gl:=by simpa using hb
      subst hb
      exact⟨q2,q3.lt⟩),gl,gs,rfl,q3⟩
  intro x5 fx5
  simp only[Act.put,List.setIfInBounds_toArray,List.set_cons_succ,List.set_cons_zero]
  refine Cx.dE HU (by rfl) (by rfl) ?_
  go_big_quiet_step (with_reducible rfl)
  refine wpQuiet_nil ?_
  refine Cx.dE HU (by rfl) (by rfl) ?_
  go_big_quiet_step (with_reducible rfl)
  refine wpQuiet_nil ?_
  refine Cx.dE HU (by rfl) (by rfl) ?_
  go_big_quiet_step (with_reducible rfl)
  refine wpQuiet_nil ?_
  refine Cx.dE HU (by rfl) (by rfl) ?_
  go_big_quiet_step (with_reducible rfl)
  refine wpQuiet_nil ?_
  refine Cx.mS ?_
  intro wz hz
  obtain⟨⟨gl,gs,e5,r5⟩,-⟩:=hz.at (i:=5) (x:=x5) (R:=RT) (mk:=fun x=>.tuple #[.slice (some ⟨hdB x.1,0,none⟩) 6 6,.int .i64 0]) (by rfl) (by rfl)
  have AZ:Hid (Ab v6 wz):=(Ab.refl v6).drew.trans hz.1
  have R5:=hid r5
  have E5:=hid e5
  clear r5 e5 hz HU fx0 fx1 fx2 fx3 fx4 fx5
  simp only[List.drop_succ_cons,List.drop_zero]
  go_wp2
  try go_meet
  exact⟨gl,gs,by rw[E5.out];rfl,rfl,AZ.out,R5.out⟩
 case rest=>
 obtain⟨gl,gs,rfl,rfl,a7,r7⟩:=hcut
 have A7:Hid (Ab w wc):=A6.out.trans a7
 have E7:=hid (Sh.aR E6.out a7)
 have D7:=hid (bM (M:=4294967296) (Sh.aR D6.out a7) (fun i hi=>by
  have c:i=0\/i=1\/i=2\/i=3:=by omega
  rcases c with rfl | rfl | rfl | rfl<;>decide))
 have T7:=hid (a7.heap T6.out)
 have L7:=hid (r7.cell (i:=2) (by decide))
 have L8:Hid (gl<wc.heap.size):=r7.lt
 have eL:tcv 1 1 W6 gs 2=.int .u32 1065353216:=by
  show Value.int .u32 ((hi (fun k=>tb 1 W6 (0*1+k)) 0:Nat):Int)=_
  rw[tb6]
  rfl
 rw[eL]at L7
 clear a7 r7 A6 E6 D6 T6 M1 M2 M3 BL eL
 have MK:=e30_b
 have KS:Hid (∀v,Ab wc v->Ab wc v/\v.cell? ⟨gt,0,none⟩=some (.int .i64 5)/\v.cell? ⟨gt,1,none⟩=some (.int .u32 0)/\v.cell? ⟨gt,2,none⟩=some (.int .u32 1073741824)/\v.cell? ⟨gt,3,none⟩=some (.slice (some ⟨gd,0,none⟩) 4 4)/\v.cell? ⟨gl,2,none⟩=some (.int .u32 1065353216)/\(convert 26 9 (.slice (some ⟨gb,0,none⟩) 30 30)).run prog v=.ok (.string (str E30 30)) v):=fun v a=>by
  have t:=a.heap T7.out
  exact⟨a,aA 0 t,aA 1 t,aA 2 t,aA 3 t,(Below.cell a L8.out).trans L7.out,bE underlying26 underlying5 underlying9 (bM (Sh.aR E7.out a) (fun i _=>fJ (by decide) (by decide))) (fun e=>by cases e)⟩
 have X0:Ab wc wc:=Ab.refl wc
 go_wp2_with fail
 go_region_held3 (fun v=>Ab wc v/\v.cell? ⟨gt,0,none⟩=some (.int .i64 5)/\v.cell? ⟨gt,1,none⟩=some (.int .u32 0)/\v.cell? ⟨gt,2,none⟩=some (.int .u32 1073741824)/\v.cell? ⟨gt,3,none⟩=some (.slice (some ⟨gd,0,none⟩) 4 4)/\v.cell? ⟨gl,2,none⟩=some (.int .u32 1065353216)/\(convert 26 9 (.slice (some ⟨gb,0,none⟩) 30 30)).run prog v=.ok (.string (str E30 30)) v) ((refine KS.out _ ?_;(with_reducible (repeat(first | assumption | apply Ab.drew)));done)) (first
  | (go_at_call 18;refine(oA _).mono ?_;rintro e9 z1 ⟨g9,rfl,b9,l9,r9⟩;have az1:Ab wc z1:=Ab.trans (show Ab wc _ by with_reducible (repeat(first | assumption | apply Ab.drew))) b9;have I9:=hid (bM (M:=4294967296) r9 f4_lt))
  | (go_at_call 11;refine(eV _ _ _ _ _ _ _ _ _ _ _ _ f4 f4 _ (by decide) (D7.out.below az1) I9.out).mono ?_;rintro e9 z2 ⟨rfl,b8⟩;have az2:Ab wc z2:=Ab.trans az1 b8))
 go_wp2
 go_ret
 exact⟨by rw[show eqT 5 5 0 0 1073741824 1073741824 4 4 f4 f4=true from decide_eq_true ⟨rfl,rfl,rfl,rfl,fun _ _=>rfl⟩];rfl,A7.out.trans az2⟩
end Ti
end
section
open Go.RowKit Go.Deep Tf Cu
namespace Ti
theorem enc_hd{fc n ls ms:Nat}{f:Nat->Nat}:enc fc n ls ms f 0=84/\enc fc n ls ms f 1=73/\enc fc n ls ms f 2=76/\enc fc n ls ms f 3=69/\enc fc n ls ms f 4=fc/\enc fc n ls ms f 5=n:=⟨rfl,rfl,rfl,rfl,rfl,rfl⟩
theorem jV{face:Int}{m ls ms:Nat}{f:Nat->Nat}(h:okT face m f ls ms=true)(hf: ∀i,i<m->f i<4294967296)(hls:ls<4294967296)(hms:ms<4294967296):
  dErr (14+4*m) (enc face.toNat (sideN m) ls ms f)=0/\sideN m*sideN m=m/\num (enc face.toNat (sideN m) ls ms f) 6=ls/\num (enc face.toNat (sideN m) ls ms f) 10=ms/\ ∀i,i<m->dec (enc face.toNat (sideN m) ls ms f) i=f i:=by
 obtain⟨h1,⟨h2,h3,h4⟩,h5⟩:=dN h
 have ends:=num_ends (face:=face.toNat) (n:=sideN m) (f:=f) hls hms
 have D: ∀i,i<m->dec (enc face.toNat (sideN m) ls ms f) i=f i:=fun i hi=>dec_enc (fun j hj=>hf j (by omega))
 refine⟨?_,h4,ends.1,ends.2,D⟩
 obtain⟨e0,e1,e2,e3,e4,e5⟩:=enc_hd (fc:=face.toNat) (n:=sideN m) (ls:=ls) (ms:=ms) (f:=f)
 have d0:derr (14+4*m) (enc face.toNat (sideN m) ls ms f)=0:=by
  unfold derr
  rw[e0,e1,e2,e3,e4,e5,h4,if_neg (by omega),if_neg (fun q=>q ⟨⟨rfl,rfl,rfl,rfl⟩,by omega,h2,h3⟩),if_neg (by omega),if_neg (by omega)]
 unfold dErr
 rw[d0,if_neg (by decide),e4,e5,h4,ends.1,ends.2,oV D,show((face.toNat:Nat):Int)=face by omega,if_pos h]
theorem dec_ok{L:Nat}{f:Nat->Nat}(hb: ∀i,f i<256)(h:dErr L f=0):okT ((f 4:Nat):Int) (f 5*f 5) (dec f) (num f 6) (num f 10)=true/\sideN (f 5*f 5)=f 5/\14+4*(f 5*f 5)=L/\ ∀i,enc (f 4) (f 5) (num f 6) (num f 10) (dec f) i=f i:=by
 obtain⟨e1,e2⟩:=nQ h
 obtain⟨h1,h2,h3,h4⟩:=derr_0 e1
 exact⟨e2,sideN_sq h3.1 h3.2,h4,fun i=>enc_dec hb h1⟩
theorem hU(L:Nat)(f:Nat->Nat):dErr L f=0\/dErr L f=31\/dErr L f=30\/dErr L f=3:=by
 unfold dErr derr
 repeat' split
 all_goals first
  | exact .inl rfl
  | exact .inr (.inl rfl)
  | exact .inr (.inr (.inl rfl))
  | exact .inr (.inr (.inr rfl))
  | (rename_i h;exact absurd rfl h)
def cutN(L:Nat)(f:Nat->Nat)(i:Nat):Nat:=if i<L then f i else 0
theorem IsW.cutN{kd:IntKind}{M:Nat}{w:World}{a0:Option Addr}{len:Nat}{xs:Nat->Nat}(h:IsW kd M w a0 len xs):IsW kd M w a0 len (Ti.cutN len xs):=h.congr fun k hk=>by unfold Ti.cutN;rw[if_pos hk]
theorem cutN_lt{M L:Nat}{f:Nat->Nat}(h0:0<M)(h: ∀i,i<L->f i<M)(i:Nat):cutN L f i<M:=by
 unfold cutN
 split
 ·rename_i c;exact h i c
 ·exact h0
end Ti
end
section
open Go.RowKit Go.Deep Tf Cu
namespace Ti
theorem back_11(fa:Int)(ls ms:Nat)(pt:Option Addr)(mt ct:Nat)(F:Nat->Nat)(pb:Option Addr)(L cb:Nat)(f:Nat->Nat)(w:World)(hls:ls<4294967296)(hms:ms<4294967296)(hct:mt<=ct/\ct<=35184372088832)(hF:IsW .u32 4294967296 w pt mt F)(hL:L<=cb/\cb<=140737488355328)(hf:IsW .u8 256 w pb L f)(hfb: ∀i,f i<256)(ho:okT fa mt F ls ms=true)(he:dErr L f=0):
  Calls prog 3 #[.agg #[.int .i64 fa,.int .u32 ((ls:Nat):Int),.int .u32 ((ms:Nat):Int),.slice pt mt ct],.slice pb L cb] w fun e w'=>e=.returned (.bool true)/\Below w.heap.size w w':=by
 have HF:=hid hF
 have Hf:=hid hf
 have HB:=hid (show ls<4294967296/\ms<4294967296/\mt<=ct/\ct<=35184372088832/\L<=cb/\cb<=140737488355328 from⟨hls,hms,hct.1,hct.2,hL.1,hL.2⟩)
 have HO:=hid ho
 have HE:=hid he
 have HFB:=hid hfb
 clear hF hf hls hms hct hL ho he hfb
 obtain⟨A0,R0⟩:=aD w (.cells #[.int .i64 fa,.int .u32 ((ls:Nat):Int),.int .u32 ((ms:Nat):Int),.slice pt mt ct] 25)
 go_enter func3,ntmps3
 go_upto_region 1 with fail
 generalize hW:World.alloc w _=V0 at*
 obtain⟨gw,hgw⟩:=aB w.heap.size
 rw[hgw]at R0 ⊢
 clear hgw hW
 go_wp2_with fail
 refine(bC V0).mono ?_
 rintro e9 v1 ⟨rfl,b1⟩
 have A1:Hid (Ab w v1):=A0.out.trans b1
 have R1:=hid (Ab.heap b1 R0.out)
 clear b1 A0 R0
 have y0:=aA 0 R1.out
 have y1:=aA 1 R1.out
 have y2:=aA 2 R1.out
 have y3:=aA 3 R1.out
 obtain⟨N,hN⟩:=aB (14+4*mt)
 have CE:=hid (bI fa ls ms pt mt ct F v1 HB.out.1 HB.out.2.1 (by have:=HB.out;omega) (HF.out.below A1.out) HO.out)
 rw[hN]at CE
 have K:=jV HO.out HF.out.lt HB.out.1 HB.out.2.1
 have T1:=dN HO.out
 obtain⟨E,hE⟩:=aB (enc fa.toNat (sideN mt) ls ms F)
 have E4:E 4=fa.toNat/\E 5=sideN mt/\ ∀i,E i<256:=by rw[<- hE];exact⟨rfl,rfl,fun i=>fJ (by omega) (by omega)⟩
 rw[hE,hN]at K
 rw[hE]at CE
 have nb:((N:Int) != 14+4*(mt:Int))=false:=by simp;omega
 have mB:(mt:Int)<=1024:=by omega
 have KK:=hid K
 have HN:=hid (show N=14+4*mt/\N<=4110 from⟨hN.symm,by omega⟩)
 have HE4:=hid (show E 4=fa.toNat/\E 5=sideN mt/\(∀i,E i<256)/\((fa.toNat:Nat):Int)=fa from⟨E4.1,E4.2.1,E4.2.2,by omega⟩)
 clear K T1 hE E4 hN
 go_wp2_with fail
 refine CE.out.mono ?_
 rintro e9 v2 ⟨gb,rfl,b2,l2,r2⟩
 have A2:Hid (Ab w v2):=A1.out.trans b2
 have R2:=hid (Ab.heap b2 R1.out)
 have CD:=hid (bJ (some ⟨gb,0,none⟩) N N E v2 (by have:=HN.out;omega) (bM r2 (fun i _=>HE4.out.2.2.1 i)) KK.out.1)
 rw[HE4.out.1,HE4.out.2.2.2,HE4.out.2.1,KK.out.2.1,KK.out.2.2.1,KK.out.2.2.2.1]at CD
 clear b2 l2 r2 CE A1 R1 y0 y1 y2 y3
 go_wp2_with fail
 refine CD.out.mono ?_
 rintro e9 v3 ⟨gd,rfl,b3,l3,r3⟩
 have A3:Hid (Ab w v3):=A2.out.trans b3
 have R3:=hid (Ab.heap b3 R2.out)
 have D3:=hid r3
 clear b3 l3 r3 CD A2 R2
 obtain⟨X4,T4⟩:=aD v3 (.cells #[.int .i64 fa,.int .u32 ((ls:Nat):Int),.int .u32 ((ms:Nat):Int),.slice (some ⟨gd,0,none⟩) mt mt] 25)
 go_upto_region 6 with fail
 generalize hV:World.alloc v3 _=v4 at*
 obtain⟨gt,hgt⟩:=aB v3.heap.size
 rw[hgt]at T4 ⊢
 clear hV hgt
 have A4:Hid (Ab w v4):=A3.out.trans X4.out
 have R4:=hid (X4.out.heap R3.out)
 have CS:=hid (eV fa fa ls ls ms ms (some ⟨gd,0,none⟩) pt mt mt mt ct (dec E) F v4 (by have:=HN.out;omega) (bM (Sh.aR D3.out X4.out) (fun i hi=>by rw[KK.out.2.2.2.2 i hi];exact HF.out.lt i hi)) (HF.out.below A4.out))
 rw[show eqT fa fa ls ls ms ms mt mt (dec E) F=true from decide_eq_true ⟨rfl,rfl,rfl,rfl,KK.out.2.2.2.2⟩]at CS
 have t0:=aA 0 T4.out
 have t1:=aA 1 T4.out
 have t2:=aA 2 T4.out
 have t3:=aA 3 T4.out
 have y0:=aA 0 R4.out
 have y1:=aA 1 R4.out
 have y2:=aA 2 R4.out
 have y3:=aA 3 R4.out
 clear A3 R3 D3 X4 T4
 go_wp2_with fail
 refine CS.out.mono ?_
 rintro e9 vx ⟨rfl,b5⟩
 have AX:Hid (Ab w vx):=A4.out.trans b5
 have RX:=hid (Ab.heap b5 R4.out)
 clear b5 CS A4 R4 t0 t1 t2 t3 y0 y1 y2 y3 KK HN HE4
 have y3:=aA 3 RX.out
 have DK:=dec_ok HFB.out HE.out
 have CB:=hid (bJ pb L cb f vx (by have:=HB.out;omega) (Hf.out.below AX.out) HE.out)
 have n6l:num f 6<4294967296:=gZ HFB.out
 have n10l:num f 10<4294967296:=gZ HFB.out
 obtain⟨f4,h4⟩:=aB (f 4)
 obtain⟨n6,h6⟩:=aB (num f 6)
 obtain⟨n10,h10⟩:=aB (num f 10)
 obtain⟨m5,h5⟩:=aB (f 5*f 5)
 rw[h4,h6,h10,h5]at CB
 rw[h4,h6,h10,h5]at DK
 rw[h6]at n6l
 rw[h10]at n10l
 have TL:=dN DK.1
 have KB:=hid (show n6<4294967296/\n10<4294967296/\1<=m5/\m5<=1024/\14+4*m5=L from⟨n6l,n10l,TL.2.2.1,TL.2.2.2,DK.2.2.1⟩)
 have DD:=hid DK
 clear DK TL n6l n10l h4 h6 h10 h5
 go_wp2_with fail
 refine CB.out.mono ?_
 rintro e9 v6 ⟨gu,rfl,b6,l6,r6⟩
 have A6:Hid (Ab w v6):=AX.out.trans b6
 have U6:=hid r6
 clear b6 l6 r6 CB AX RX
 obtain⟨X7,T7⟩:=aD v6 (.cells #[.int .i64 ((f4:Nat):Int),.int .u32 ((n6:Nat):Int),.int .u32 ((n10:Nat):Int),.slice (some ⟨gu,0,none⟩) m5 m5] 25)
 go_upto_region 11 with fail
 generalize hV:World.alloc v6 _=v7 at*
 obtain⟨gu7,hgu⟩:=aB v6.heap.size
 rw[hgu]at T7 ⊢
 clear hV hgu
 have A7:Hid (Ab w v7):=A6.out.trans X7.out
 have U7:=hid (Sh.aR U6.out X7.out)
 have t0:=aA 0 T7.out
 have t1:=aA 1 T7.out
 have t2:=aA 2 T7.out
 have t3:=aA 3 T7.out
 have CF:=hid (bI ((f4:Nat):Int) n6 n10 (some ⟨gu,0,none⟩) m5 m5 (dec f) v7 KB.out.1 KB.out.2.1 (by have:=KB.out;omega) (bM U7.out (fun i _=>jH HFB.out i)) DD.out.1)
 rw[KB.out.2.2.2.2,DD.out.2.1,Int.toNat_natCast]at CF
 clear A6 U6 X7
 go_wp2_with fail
 refine CF.out.mono ?_
 rintro e9 v8 ⟨gc,rfl,b8,l8,r8⟩
 have A8:Hid (Ab w v8):=A7.out.trans b8
 have C8:=hid (r8.congr (g:=fun i=>.int .u8 ((f i:Nat):Int)) (fun i _=>by rw[DD.out.2.2.2 i]))
 clear b8 l8 r8 CF t0 t1 t2 t3 A7 U7 T7
 have CV1:=bE (w:=v8) (a:=some ⟨gc,0,none⟩) (n:=L) (cap:=L) (f:=f) underlying26 underlying5 underlying9 (bM C8.out (fun i _=>HFB.out i)) (fun e=>by cases e)
 have CV2:=bE (w:=v8) (a:=pb) (n:=L) (cap:=cb) (f:=f) underlying26 underlying5 underlying9 (Hf.out.below A8.out) (fun e=>by
  obtain⟨b,o,e2⟩:=Hf.out.some0 (by have:=KB.out;omega)
  rw[e2]at e
  cases e)
 have SS:=kZ (f:=f) (g:=f) (n:=L) (m:=L) (fun i _=>HFB.out i) (fun i _=>HFB.out i) rfl (fun _ _=>rfl)
 go_wp2
 go_ret
 exact⟨rfl,A8.out⟩
theorem back_0a(fa:Int)(ls ms:Nat)(pt:Option Addr)(mt ct:Nat)(F:Nat->Nat)(pb:Option Addr)(L cb:Nat)(f:Nat->Nat)(w:World)(hls:ls<4294967296)(hms:ms<4294967296)(hct:mt<=ct/\ct<=35184372088832)(hF:IsW .u32 4294967296 w pt mt F)(hL:L<=cb/\cb<=140737488355328)(hf:IsW .u8 256 w pb L f)(hfb: ∀i,f i<256)(ho:okT fa mt F ls ms=false)(he:dErr L f=31):
  Calls prog 3 #[.agg #[.int .i64 fa,.int .u32 ((ls:Nat):Int),.int .u32 ((ms:Nat):Int),.slice pt mt ct],.slice pb L cb] w fun e w'=>e=.returned (.bool true)/\Below w.heap.size w w':=by
 have HF:=hid hF
 have Hf:=hid hf
 have HB:=hid (show ls<4294967296/\ms<4294967296/\mt<=ct/\ct<=35184372088832/\L<=cb/\cb<=140737488355328 from⟨hls,hms,hct.1,hct.2,hL.1,hL.2⟩)
 have HO:=hid ho
 have HE:=hid he
 have HFB:=hid hfb
 clear hF hf hls hms hct hL ho he hfb
 obtain⟨A0,R0⟩:=aD w (.cells #[.int .i64 fa,.int .u32 ((ls:Nat):Int),.int .u32 ((ms:Nat):Int),.slice pt mt ct] 25)
 go_enter func3,ntmps3
 go_upto_region 1 with fail
 generalize hW:World.alloc w _=V0 at*
 obtain⟨gw,hgw⟩:=aB w.heap.size
 rw[hgw]at R0 ⊢
 clear hgw hW
 go_wp2_with fail
 refine(bC V0).mono ?_
 rintro e9 v1 ⟨rfl,b1⟩
 have A1:Hid (Ab w v1):=A0.out.trans b1
 have R1:=hid (Ab.heap b1 R0.out)
 clear b1 A0 R0
 have y0:=aA 0 R1.out
 have y1:=aA 1 R1.out
 have y2:=aA 2 R1.out
 have y3:=aA 3 R1.out
 have CE:=hid (dW fa ls ms pt mt ct F v1 (by have:=HB.out;omega) (HF.out.below A1.out) HO.out)
 go_wp2_with fail
 refine CE.out.mono ?_
 rintro e9 vx ⟨rfl,b2⟩
 have AX:Hid (Ab w vx):=A1.out.trans b2
 have RX:=hid (Ab.heap b2 R1.out)
 clear b2 CE A1 R1 y0 y1 y2 y3
 have CB:=hid (bP pb L cb f vx (by have:=HB.out;omega) (Hf.out.below AX.out) (by rw[HE.out];decide))
 rw[HE.out]at CB
 go_wp2_with fail
 refine CB.out.mono ?_
 rintro e9 vb ⟨rfl,b6⟩
 have AB:Hid (Ab w vb):=AX.out.trans b6
 clear b6 CB AX RX
 go_wp2
 go_ret
 exact⟨rfl,AB.out.alloc _⟩
theorem back_01(fa:Int)(ls ms:Nat)(pt:Option Addr)(mt ct:Nat)(F:Nat->Nat)(pb:Option Addr)(L cb:Nat)(f:Nat->Nat)(w:World)(hls:ls<4294967296)(hms:ms<4294967296)(hct:mt<=ct/\ct<=35184372088832)(hF:IsW .u32 4294967296 w pt mt F)(hL:L<=cb/\cb<=140737488355328)(hf:IsW .u8 256 w pb L f)(hfb: ∀i,f i<256)(ho:okT fa mt F ls ms=false)(he:dErr L f=0):
  Calls prog 3 #[.agg #[.int .i64 fa,.int .u32 ((ls:Nat):Int),.int .u32 ((ms:Nat):Int),.slice pt mt ct],.slice pb L cb] w fun e w'=>e=.returned (.bool true)/\Below w.heap.size w w':=by
 have HF:=hid hF
 have Hf:=hid hf
 have HB:=hid (show ls<4294967296/\ms<4294967296/\mt<=ct/\ct<=35184372088832/\L<=cb/\cb<=140737488355328 from⟨hls,hms,hct.1,hct.2,hL.1,hL.2⟩)
 have HO:=hid ho
 have HE:=hid he
 have HFB:=hid hfb
 clear hF hf hls hms hct hL ho he hfb
 obtain⟨A0,R0⟩:=aD w (.cells #[.int .i64 fa,.int .u32 ((ls:Nat):Int),.int .u32 ((ms:Nat):Int),.slice pt mt ct] 25)
 go_enter func3,ntmps3
 go_upto_region 1 with fail
 generalize hW:World.alloc w _=V0 at*
 obtain⟨gw,hgw⟩:=aB w.heap.size
 rw[hgw]at R0 ⊢
 clear hgw hW
 go_wp2_with fail
 refine(bC V0).mono ?_
 rintro e9 v1 ⟨rfl,b1⟩
 have A1:Hid (Ab w v1):=A0.out.trans b1
 have R1:=hid (Ab.heap b1 R0.out)
 clear b1 A0 R0
 have y0:=aA 0 R1.out
 have y1:=aA 1 R1.out
 have y2:=aA 2 R1.out
 have y3:=aA 3 R1.out
 have CE:=hid (dW fa ls ms pt mt ct F v1 (by have:=HB.out;omega) (HF.out.below A1.out) HO.out)
 go_wp2_with fail
 refine CE.out.mono ?_
 rintro e9 vx ⟨rfl,b2⟩
 have AX:Hid (Ab w vx):=A1.out.trans b2
 have RX:=hid (Ab.heap b2 R1.out)
 clear b2 CE A1 R1 y0 y1 y2 y3
 have DK:=dec_ok HFB.out HE.out
 have CB:=hid (bJ pb L cb f vx (by have:=HB.out;omega) (Hf.out.below AX.out) HE.out)
 have n6l:num f 6<4294967296:=gZ HFB.out
 have n10l:num f 10<4294967296:=gZ HFB.out
 obtain⟨f4,h4⟩:=aB (f 4)
 obtain⟨n6,h6⟩:=aB (num f 6)
 obtain⟨n10,h10⟩:=aB (num f 10)
 obtain⟨m5,h5⟩:=aB (f 5*f 5)
 rw[h4,h6,h10,h5]at CB
 rw[h4,h6,h10,h5]at DK
 rw[h6]at n6l
 rw[h10]at n10l
 have TL:=dN DK.1
 have KB:=hid (show n6<4294967296/\n10<4294967296/\1<=m5/\m5<=1024/\14+4*m5=L from⟨n6l,n10l,TL.2.2.1,TL.2.2.2,DK.2.2.1⟩)
 have DD:=hid DK
 clear DK TL n6l n10l h4 h6 h10 h5
 go_wp2_with fail
 refine CB.out.mono ?_
 rintro e9 v6 ⟨gu,rfl,b6,l6,r6⟩
 have A6:Hid (Ab w v6):=AX.out.trans b6
 have U6:=hid r6
 clear b6 l6 r6 CB AX RX
 obtain⟨X7,T7⟩:=aD v6 (.cells #[.int .i64 ((f4:Nat):Int),.int .u32 ((n6:Nat):Int),.int .u32 ((n10:Nat):Int),.slice (some ⟨gu,0,none⟩) m5 m5] 25)
 go_upto_region 11 with fail
 generalize hV:World.alloc v6 _=v7 at*
 obtain⟨gu7,hgu⟩:=aB v6.heap.size
 rw[hgu]at T7 ⊢
 clear hV hgu
 have A7:Hid (Ab w v7):=A6.out.trans X7.out
 have U7:=hid (Sh.aR U6.out X7.out)
 have t0:=aA 0 T7.out
 have t1:=aA 1 T7.out
 have t2:=aA 2 T7.out
 have t3:=aA 3 T7.out
 have CF:=hid (bI ((f4:Nat):Int) n6 n10 (some ⟨gu,0,none⟩) m5 m5 (dec f) v7 KB.out.1 KB.out.2.1 (by have:=KB.out;omega) (bM U7.out (fun i _=>jH HFB.out i)) DD.out.1)
 rw[KB.out.2.2.2.2,DD.out.2.1,Int.toNat_natCast]at CF
 clear A6 U6 X7
 go_wp2_with fail
 refine CF.out.mono ?_
 rintro e9 v8 ⟨gc,rfl,b8,l8,r8⟩
 have A8:Hid (Ab w v8):=A7.out.trans b8
 have C8:=hid (r8.congr (g:=fun i=>.int .u8 ((f i:Nat):Int)) (fun i _=>by rw[DD.out.2.2.2 i]))
 clear b8 l8 r8 CF t0 t1 t2 t3 A7 U7 T7
 have CV1:=bE (w:=v8) (a:=some ⟨gc,0,none⟩) (n:=L) (cap:=L) (f:=f) underlying26 underlying5 underlying9 (bM C8.out (fun i _=>HFB.out i)) (fun e=>by cases e)
 have CV2:=bE (w:=v8) (a:=pb) (n:=L) (cap:=cb) (f:=f) underlying26 underlying5 underlying9 (Hf.out.below A8.out) (fun e=>by
  obtain⟨b,o,e2⟩:=Hf.out.some0 (by have:=KB.out;omega)
  rw[e2]at e
  cases e)
 have SS:=kZ (f:=f) (g:=f) (n:=L) (m:=L) (fun i _=>HFB.out i) (fun i _=>HFB.out i) rfl (fun _ _=>rfl)
 go_wp2
 go_ret
 exact⟨rfl,A8.out⟩
theorem back_0b(fa:Int)(ls ms:Nat)(pt:Option Addr)(mt ct:Nat)(F:Nat->Nat)(pb:Option Addr)(L cb:Nat)(f:Nat->Nat)(w:World)(hls:ls<4294967296)(hms:ms<4294967296)(hct:mt<=ct/\ct<=35184372088832)(hF:IsW .u32 4294967296 w pt mt F)(hL:L<=cb/\cb<=140737488355328)(hf:IsW .u8 256 w pb L f)(hfb: ∀i,f i<256)(ho:okT fa mt F ls ms=false)(he:dErr L f=30):
  Calls prog 3 #[.agg #[.int .i64 fa,.int .u32 ((ls:Nat):Int),.int .u32 ((ms:Nat):Int),.slice pt mt ct],.slice pb L cb] w fun e w'=>e=.returned (.bool true)/\Below w.heap.size w w':=by
 have HF:=hid hF
 have Hf:=hid hf
 have HB:=hid (show ls<4294967296/\ms<4294967296/\mt<=ct/\ct<=35184372088832/\L<=cb/\cb<=140737488355328 from⟨hls,hms,hct.1,hct.2,hL.1,hL.2⟩)
 have HO:=hid ho
 have HE:=hid he
 have HFB:=hid hfb
 clear hF hf hls hms hct hL ho he hfb
 obtain⟨A0,R0⟩:=aD w (.cells #[.int .i64 fa,.int .u32 ((ls:Nat):Int),.int .u32 ((ms:Nat):Int),.slice pt mt ct] 25)
 go_enter func3,ntmps3
 go_upto_region 1 with fail
 generalize hW:World.alloc w _=V0 at*
 obtain⟨gw,hgw⟩:=aB w.heap.size
 rw[hgw]at R0 ⊢
 clear hgw hW
 go_wp2_with fail
 refine(bC V0).mono ?_
 rintro e9 v1 ⟨rfl,b1⟩
 have A1:Hid (Ab w v1):=A0.out.trans b1
 have R1:=hid (Ab.heap b1 R0.out)
 clear b1 A0 R0
 have y0:=aA 0 R1.out
 have y1:=aA 1 R1.out
 have y2:=aA 2 R1.out
 have y3:=aA 3 R1.out
 have CE:=hid (dW fa ls ms pt mt ct F v1 (by have:=HB.out;omega) (HF.out.below A1.out) HO.out)
 go_wp2_with fail
 refine CE.out.mono ?_
 rintro e9 vx ⟨rfl,b2⟩
 have AX:Hid (Ab w vx):=A1.out.trans b2
 have RX:=hid (Ab.heap b2 R1.out)
 clear b2 CE A1 R1 y0 y1 y2 y3
 have CB:=hid (bP pb L cb f vx (by have:=HB.out;omega) (Hf.out.below AX.out) (by rw[HE.out];decide))
 rw[HE.out]at CB
 go_wp2_with fail
 refine CB.out.mono ?_
 rintro e9 vb ⟨rfl,b6⟩
 have AB:Hid (Ab w vb):=AX.out.trans b6
 clear b6 CB AX RX
 go_wp2
 go_ret
 exact⟨rfl,AB.out.alloc _⟩
theorem back_0c(fa:Int)(ls ms:Nat)(pt:Option Addr)(mt ct:Nat)(F:Nat->Nat)(pb:Option Addr)(L cb:Nat)(f:Nat->Nat)(w:World)(hls:ls<4294967296)(hms:ms<4294967296)(hct:mt<=ct/\ct<=35184372088832)(hF:IsW .u32 4294967296 w pt mt F)(hL:L<=cb/\cb<=140737488355328)(hf:IsW .u8 256 w pb L f)(hfb: ∀i,f i<256)(ho:okT fa mt F ls ms=false)(he:dErr L f=3):
  Calls prog 3 #[.agg #[.int .i64 fa,.int .u32 ((ls:Nat):Int),.int .u32 ((ms:Nat):Int),.slice pt mt ct],.slice pb L cb] w fun e w'=>e=.returned (.bool true)/\Below w.heap.size w w':=by
 have HF:=hid hF
 have Hf:=hid hf
 have HB:=hid (show ls<4294967296/\ms<4294967296/\mt<=ct/\ct<=35184372088832/\L<=cb/\cb<=140737488355328 from⟨hls,hms,hct.1,hct.2,hL.1,hL.2⟩)
 have HO:=hid ho
 have HE:=hid he
 have HFB:=hid hfb
 clear hF hf hls hms hct hL ho he hfb
 obtain⟨A0,R0⟩:=aD w (.cells #[.int .i64 fa,.int .u32 ((ls:Nat):Int),.int .u32 ((ms:Nat):Int),.slice pt mt ct] 25)
 go_enter func3,ntmps3
 go_upto_region 1 with fail
 generalize hW:World.alloc w _=V0 at*
 obtain⟨gw,hgw⟩:=aB w.heap.size
 rw[hgw]at R0 ⊢
 clear hgw hW
 go_wp2_with fail
 refine(bC V0).mono ?_
 rintro e9 v1 ⟨rfl,b1⟩
 have A1:Hid (Ab w v1):=A0.out.trans b1
 have R1:=hid (Ab.heap b1 R0.out)
 clear b1 A0 R0
 have y0:=aA 0 R1.out
 have y1:=aA 1 R1.out
 have y2:=aA 2 R1.out
 have y3:=aA 3 R1.out
 have CE:=hid (dW fa ls ms pt mt ct F v1 (by have:=HB.out;omega) (HF.out.below A1.out) HO.out)
 go_wp2_with fail
 refine CE.out.mono ?_
 rintro e9 vx ⟨rfl,b2⟩
 have AX:Hid (Ab w vx):=A1.out.trans b2
 have RX:=hid (Ab.heap b2 R1.out)
 clear b2 CE A1 R1 y0 y1 y2 y3
 have CB:=hid (bP pb L cb f vx (by have:=HB.out;omega) (Hf.out.below AX.out) (by rw[HE.out];decide))
 rw[HE.out]at CB
 go_wp2_with fail
 refine CB.out.mono ?_
 rintro e9 vb ⟨rfl,b6⟩
 have AB:Hid (Ab w vb):=AX.out.trans b6
 clear b6 CB AX RX
 go_wp2
 go_ret
 exact⟨rfl,AB.out.alloc _⟩
theorem back_1a(fa:Int)(ls ms:Nat)(pt:Option Addr)(mt ct:Nat)(F:Nat->Nat)(pb:Option Addr)(L cb:Nat)(f:Nat->Nat)(w:World)(hls:ls<4294967296)(hms:ms<4294967296)(hct:mt<=ct/\ct<=35184372088832)(hF:IsW .u32 4294967296 w pt mt F)(hL:L<=cb/\cb<=140737488355328)(hf:IsW .u8 256 w pb L f)(hfb: ∀i,f i<256)(ho:okT fa mt F ls ms=true)(he:dErr L f=31):
  Calls prog 3 #[.agg #[.int .i64 fa,.int .u32 ((ls:Nat):Int),.int .u32 ((ms:Nat):Int),.slice pt mt ct],.slice pb L cb] w fun e w'=>e=.returned (.bool true)/\Below w.heap.size w w':=by
 have HF:=hid hF
 have Hf:=hid hf
 have HB:=hid (show ls<4294967296/\ms<4294967296/\mt<=ct/\ct<=35184372088832/\L<=cb/\cb<=140737488355328 from⟨hls,hms,hct.1,hct.2,hL.1,hL.2⟩)
 have HO:=hid ho
 have HE:=hid he
 have HFB:=hid hfb
 clear hF hf hls hms hct hL ho he hfb
 obtain⟨A0,R0⟩:=aD w (.cells #[.int .i64 fa,.int .u32 ((ls:Nat):Int),.int .u32 ((ms:Nat):Int),.slice pt mt ct] 25)
 go_enter func3,ntmps3
 go_upto_region 1 with fail
 generalize hW:World.alloc w _=V0 at*
 obtain⟨gw,hgw⟩:=aB w.heap.size
 rw[hgw]at R0 ⊢
 clear hgw hW
 go_wp2_with fail
 refine(bC V0).mono ?_
 rintro e9 v1 ⟨rfl,b1⟩
 have A1:Hid (Ab w v1):=A0.out.trans b1
 have R1:=hid (Ab.heap b1 R0.out)
 clear b1 A0 R0
 have y0:=aA 0 R1.out
 have y1:=aA 1 R1.out
 have y2:=aA 2 R1.out
 have y3:=aA 3 R1.out
 obtain⟨N,hN⟩:=aB (14+4*mt)
 have CE:=hid (bI fa ls ms pt mt ct F v1 HB.out.1 HB.out.2.1 (by have:=HB.out;omega) (HF.out.below A1.out) HO.out)
 rw[hN]at CE
 have K:=jV HO.out HF.out.lt HB.out.1 HB.out.2.1
 have T1:=dN HO.out
 obtain⟨E,hE⟩:=aB (enc fa.toNat (sideN mt) ls ms F)
 have E4:E 4=fa.toNat/\E 5=sideN mt/\ ∀i,E i<256:=by rw[<- hE];exact⟨rfl,rfl,fun i=>fJ (by omega) (by omega)⟩
 rw[hE,hN]at K
 rw[hE]at CE
 have nb:((N:Int) != 14+4*(mt:Int))=false:=by simp;omega
 have mB:(mt:Int)<=1024:=by omega
 have KK:=hid K
 have HN:=hid (show N=14+4*mt/\N<=4110 from⟨hN.symm,by omega⟩)
 have HE4:=hid (show E 4=fa.toNat/\E 5=sideN mt/\(∀i,E i<256)/\((fa.toNat:Nat):Int)=fa from⟨E4.1,E4.2.1,E4.2.2,by omega⟩)
 clear K T1 hE E4 hN
 go_wp2_with fail
 refine CE.out.mono ?_
 rintro e9 v2 ⟨gb,rfl,b2,l2,r2⟩
 have A2:Hid (Ab w v2):=A1.out.trans b2
 have R2:=hid (Ab.heap b2 R1.out)
 have CD:=hid (bJ (some ⟨gb,0,none⟩) N N E v2 (by have:=HN.out;omega) (bM r2 (fun i _=>HE4.out.2.2.1 i)) KK.out.1)
 rw[HE4.out.1,HE4.out.2.2.2,HE4.out.2.1,KK.out.2.1,KK.out.2.2.1,KK.out.2.2.2.1]at CD
 clear b2 l2 r2 CE A1 R1 y0 y1 y2 y3
 go_wp2_with fail
 refine CD.out.mono ?_
 rintro e9 v3 ⟨gd,rfl,b3,l3,r3⟩
 have A3:Hid (Ab w v3):=A2.out.trans b3
 have R3:=hid (Ab.heap b3 R2.out)
 have D3:=hid r3
 clear b3 l3 r3 CD A2 R2
 obtain⟨X4,T4⟩:=aD v3 (.cells #[.int .i64 fa,.int .u32 ((ls:Nat):Int),.int .u32 ((ms:Nat):Int),.slice (some ⟨gd,0,none⟩) mt mt] 25)
 go_upto_region 6 with fail
 generalize hV:World.alloc v3 _=v4 at*
 obtain⟨gt,hgt⟩:=aB v3.heap.size
 rw[hgt]at T4 ⊢
 clear hV hgt
 have A4:Hid (Ab w v4):=A3.out.trans X4.out
 have R4:=hid (X4.out.heap R3.out)
 have CS:=hid (eV fa fa ls ls ms ms (some ⟨gd,0,none⟩) pt mt mt mt ct (dec E) F v4 (by have:=HN.out;omega) (bM (Sh.aR D3.out X4.out) (fun i hi=>by rw[KK.out.2.2.2.2 i hi];exact HF.out.lt i hi)) (HF.out.below A4.out))
 rw[show eqT fa fa ls ls ms ms mt mt (dec E) F=true from decide_eq_true ⟨rfl,rfl,rfl,rfl,KK.out.2.2.2.2⟩]at CS
 have t0:=aA 0 T4.out
 have t1:=aA 1 T4.out
 have t2:=aA 2 T4.out
 have t3:=aA 3 T4.out
 have y0:=aA 0 R4.out
 have y1:=aA 1 R4.out
 have y2:=aA 2 R4.out
 have y3:=aA 3 R4.out
 clear A3 R3 D3 X4 T4
 go_wp2_with fail
 refine CS.out.mono ?_
 rintro e9 vx ⟨rfl,b5⟩
 have AX:Hid (Ab w vx):=A4.out.trans b5
 have RX:=hid (Ab.heap b5 R4.out)
 clear b5 CS A4 R4 t0 t1 t2 t3 y0 y1 y2 y3 KK HN HE4
 have y3:=aA 3 RX.out
 have CB:=hid (bP pb L cb f vx (by have:=HB.out;omega) (Hf.out.below AX.out) (by rw[HE.out];decide))
 rw[HE.out]at CB
 go_wp2_with fail
 refine CB.out.mono ?_
 rintro e9 vb ⟨rfl,b6⟩
 have AB:Hid (Ab w vb):=AX.out.trans b6
 clear b6 CB AX RX
 go_wp2
 go_ret
 exact⟨rfl,AB.out.alloc _⟩
theorem back_1b(fa:Int)(ls ms:Nat)(pt:Option Addr)(mt ct:Nat)(F:Nat->Nat)(pb:Option Addr)(L cb:Nat)(f:Nat->Nat)(w:World)(hls:ls<4294967296)(hms:ms<4294967296)(hct:mt<=ct/\ct<=35184372088832)(hF:IsW .u32 4294967296 w pt mt F)(hL:L<=cb/\cb<=140737488355328)(hf:IsW .u8 256 w pb L f)(hfb: ∀i,f i<256)(ho:okT fa mt F ls ms=true)(he:dErr L f=30):
  Calls prog 3 #[.agg #[.int .i64 fa,.int .u32 ((ls:Nat):Int),.int .u32 ((ms:Nat):Int),.slice pt mt ct],.slice pb L cb] w fun e w'=>e=.returned (.bool true)/\Below w.heap.size w w':=by
 have HF:=hid hF
 have Hf:=hid hf
 have HB:=hid (show ls<4294967296/\ms<4294967296/\mt<=ct/\ct<=35184372088832/\L<=cb/\cb<=140737488355328 from⟨hls,hms,hct.1,hct.2,hL.1,hL.2⟩)
 have HO:=hid ho
 have HE:=hid he
 have HFB:=hid hfb
 clear hF hf hls hms hct hL ho he hfb
 obtain⟨A0,R0⟩:=aD w (.cells #[.int .i64 fa,.int .u32 ((ls:Nat):Int),.int .u32 ((ms:Nat):Int),.slice pt mt ct] 25)
 go_enter func3,ntmps3
 go_upto_region 1 with fail
 generalize hW:World.alloc w _=V0 at*
 obtain⟨gw,hgw⟩:=aB w.heap.size
 rw[hgw]at R0 ⊢
 clear hgw hW
 go_wp2_with fail
 refine(bC V0).mono ?_
 rintro e9 v1 ⟨rfl,b1⟩
 have A1:Hid (Ab w v1):=A0.out.trans b1
 have R1:=hid (Ab.heap b1 R0.out)
 clear b1 A0 R0
 have y0:=aA 0 R1.out
 have y1:=aA 1 R1.out
 have y2:=aA 2 R1.out
 have y3:=aA 3 R1.out
 obtain⟨N,hN⟩:=aB (14+4*mt)
 have CE:=hid (bI fa ls ms pt mt ct F v1 HB.out.1 HB.out.2.1 (by have:=HB.out;omega) (HF.out.below A1.out) HO.out)
 rw[hN]at CE
 have K:=jV HO.out HF.out.lt HB.out.1 HB.out.2.1
 have T1:=dN HO.out
 obtain⟨E,hE⟩:=aB (enc fa.toNat (sideN mt) ls ms F)
 have E4:E 4=fa.toNat/\E 5=sideN mt/\ ∀i,E i<256:=by rw[<- hE];exact⟨rfl,rfl,fun i=>fJ (by omega) (by omega)⟩
 rw[hE,hN]at K
 rw[hE]at CE
 have nb:((N:Int) != 14+4*(mt:Int))=false:=by simp;omega
 have mB:(mt:Int)<=1024:=by omega
 have KK:=hid K
 have HN:=hid (show N=14+4*mt/\N<=4110 from⟨hN.symm,by omega⟩)
 have HE4:=hid (show E 4=fa.toNat/\E 5=sideN mt/\(∀i,E i<256)/\((fa.toNat:Nat):Int)=fa from⟨E4.1,E4.2.1,E4.2.2,by omega⟩)
 clear K T1 hE E4 hN
 go_wp2_with fail
 refine CE.out.mono ?_
 rintro e9 v2 ⟨gb,rfl,b2,l2,r2⟩
 have A2:Hid (Ab w v2):=A1.out.trans b2
 have R2:=hid (Ab.heap b2 R1.out)
 have CD:=hid (bJ (some ⟨gb,0,none⟩) N N E v2 (by have:=HN.out;omega) (bM r2 (fun i _=>HE4.out.2.2.1 i)) KK.out.1)
 rw[HE4.out.1,HE4.out.2.2.2,HE4.out.2.1,KK.out.2.1,KK.out.2.2.1,KK.out.2.2.2.1]at CD
 clear b2 l2 r2 CE A1 R1 y0 y1 y2 y3
 go_wp2_with fail
 refine CD.out.mono ?_
 rintro e9 v3 ⟨gd,rfl,b3,l3,r3⟩
 have A3:Hid (Ab w v3):=A2.out.trans b3
 have R3:=hid (Ab.heap b3 R2.out)
 have D3:=hid r3
 clear b3 l3 r3 CD A2 R2
 obtain⟨X4,T4⟩:=aD v3 (.cells #[.int .i64 fa,.int .u32 ((ls:Nat):Int),.int .u32 ((ms:Nat):Int),.slice (some ⟨gd,0,none⟩) mt mt] 25)
 go_upto_region 6 with fail
 generalize hV:World.alloc v3 _=v4 at*
 obtain⟨gt,hgt⟩:=aB v3.heap.size
 rw[hgt]at T4 ⊢
 clear hV hgt
 have A4:Hid (Ab w v4):=A3.out.trans X4.out
 have R4:=hid (X4.out.heap R3.out)
 have CS:=hid (eV fa fa ls ls ms ms (some ⟨gd,0,none⟩) pt mt mt mt ct (dec E) F v4 (by have:=HN.out;omega) (bM (Sh.aR D3.out X4.out) (fun i hi=>by rw[KK.out.2.2.2.2 i hi];exact HF.out.lt i hi)) (HF.out.below A4.out))
 rw[show eqT fa fa ls ls ms ms mt mt (dec E) F=true from decide_eq_true ⟨rfl,rfl,rfl,rfl,KK.out.2.2.2.2⟩]at CS
 have t0:=aA 0 T4.out
 have t1:=aA 1 T4.out
 have t2:=aA 2 T4.out
 have t3:=aA 3 T4.out
 have y0:=aA 0 R4.out
 have y1:=aA 1 R4.out
 have y2:=aA 2 R4.out
 have y3:=aA 3 R4.out
 clear A3 R3 D3 X4 T4
 go_wp2_with fail
 refine CS.out.mono ?_
 rintro e9 vx ⟨rfl,b5⟩
 have AX:Hid (Ab w vx):=A4.out.trans b5
 have RX:=hid (Ab.heap b5 R4.out)
 clear b5 CS A4 R4 t0 t1 t2 t3 y0 y1 y2 y3 KK HN HE4
 have y3:=aA 3 RX.out
 have CB:=hid (bP pb L cb f vx (by have:=HB.out;omega) (Hf.out.below AX.out) (by rw[HE.out];decide))
 rw[HE.out]at CB
 go_wp2_with fail
 refine CB.out.mono ?_
 rintro e9 vb ⟨rfl,b6⟩
 have AB:Hid (Ab w vb):=AX.out.trans b6
 clear b6 CB AX RX
 go_wp2
 go_ret
 exact⟨rfl,AB.out.alloc _⟩
theorem back_1c(fa:Int)(ls ms:Nat)(pt:Option Addr)(mt ct:Nat)(F:Nat->Nat)(pb:Option Addr)(L cb:Nat)(f:Nat->Nat)(w:World)(hls:ls<4294967296)(hms:ms<4294967296)(hct:mt<=ct/\ct<=35184372088832)(hF:IsW .u32 4294967296 w pt mt F)(hL:L<=cb/\cb<=140737488355328)(hf:IsW .u8 256 w pb L f)(hfb: ∀i,f i<256)(ho:okT fa mt F ls ms=true)(he:dErr L f=3):
  Calls prog 3 #[.agg #[.int .i64 fa,.int .u32 ((ls:Nat):Int),.int .u32 ((ms:Nat):Int),.slice pt mt ct],.slice pb L cb] w fun e w'=>e=.returned (.bool true)/\Below w.heap.size w w':=by
 have HF:=hid hF
 have Hf:=hid hf
 have HB:=hid (show ls<4294967296/\ms<4294967296/\mt<=ct/\ct<=35184372088832/\L<=cb/\cb<=140737488355328 from⟨hls,hms,hct.1,hct.2,hL.1,hL.2⟩)
 have HO:=hid ho
 have HE:=hid he
 have HFB:=hid hfb
 clear hF hf hls hms hct hL ho he hfb
 obtain⟨A0,R0⟩:=aD w (.cells #[.int .i64 fa,.int .u32 ((ls:Nat):Int),.int .u32 ((ms:Nat):Int),.slice pt mt ct] 25)
 go_enter func3,ntmps3
 go_upto_region 1 with fail
 generalize hW:World.alloc w _=V0 at*
 obtain⟨gw,hgw⟩:=aB w.heap.size
 rw[hgw]at R0 ⊢
 clear hgw hW
 go_wp2_with fail
 refine(bC V0).mono ?_
 rintro e9 v1 ⟨rfl,b1⟩
 have A1:Hid (Ab w v1):=A0.out.trans b1
 have R1:=hid (Ab.heap b1 R0.out)
 clear b1 A0 R0
 have y0:=aA 0 R1.out
 have y1:=aA 1 R1.out
 have y2:=aA 2 R1.out
 have y3:=aA 3 R1.out
 obtain⟨N,hN⟩:=aB (14+4*mt)
 have CE:=hid (bI fa ls ms pt mt ct F v1 HB.out.1 HB.out.2.1 (by have:=HB.out;omega) (HF.out.below A1.out) HO.out)
 rw[hN]at CE
 have K:=jV HO.out HF.out.lt HB.out.1 HB.out.2.1
 have T1:=dN HO.out
 obtain⟨E,hE⟩:=aB (enc fa.toNat (sideN mt) ls ms F)
 have E4:E 4=fa.toNat/\E 5=sideN mt/\ ∀i,E i<256:=by rw[<- hE];exact⟨rfl,rfl,fun i=>fJ (by omega) (by omega)⟩
 rw[hE,hN]at K
 rw[hE]at CE
 have nb:((N:Int) != 14+4*(mt:Int))=false:=by simp;omega
 have mB:(mt:Int)<=1024:=by omega
 have KK:=hid K
 have HN:=hid (show N=14+4*mt/\N<=4110 from⟨hN.symm,by omega⟩)
 have HE4:=hid (show E 4=fa.toNat/\E 5=sideN mt/\(∀i,E i<256)/\((fa.toNat:Nat):Int)=fa from⟨E4.1,E4.2.1,E4.2.2,by omega⟩)
 clear K T1 hE E4 hN
 go_wp2_with fail
 refine CE.out.mono ?_
 rintro e9 v2 ⟨gb,rfl,b2,l2,r2⟩
 have A2:Hid (Ab w v2):=A1.out.trans b2
 have R2:=hid (Ab.heap b2 R1.out)
 have CD:=hid (bJ (some ⟨gb,0,none⟩) N N E v2 (by have:=HN.out;omega) (bM r2 (fun i _=>HE4.out.2.2.1 i)) KK.out.1)
 rw[HE4.out.1,HE4.out.2.2.2,HE4.out.2.1,KK.out.2.1,KK.out.2.2.1,KK.out.2.2.2.1]at CD
 clear b2 l2 r2 CE A1 R1 y0 y1 y2 y3
 go_wp2_with fail
 refine CD.out.mono ?_
 rintro e9 v3 ⟨gd,rfl,b3,l3,r3⟩
 have A3:Hid (Ab w v3):=A2.out.trans b3
 have R3:=hid (Ab.heap b3 R2.out)
 have D3:=hid r3
 clear b3 l3 r3 CD A2 R2
 obtain⟨X4,T4⟩:=aD v3 (.cells #[.int .i64 fa,.int .u32 ((ls:Nat):Int),.int .u32 ((ms:Nat):Int),.slice (some ⟨gd,0,none⟩) mt mt] 25)
 go_upto_region 6 with fail
 generalize hV:World.alloc v3 _=v4 at*
 obtain⟨gt,hgt⟩:=aB v3.heap.size
 rw[hgt]at T4 ⊢
 clear hV hgt
 have A4:Hid (Ab w v4):=A3.out.trans X4.out
 have R4:=hid (X4.out.heap R3.out)
 have CS:=hid (eV fa fa ls ls ms ms (some ⟨gd,0,none⟩) pt mt mt mt ct (dec E) F v4 (by have:=HN.out;omega) (bM (Sh.aR D3.out X4.out) (fun i hi=>by rw[KK.out.2.2.2.2 i hi];exact HF.out.lt i hi)) (HF.out.below A4.out))
 rw[show eqT fa fa ls ls ms ms mt mt (dec E) F=true from decide_eq_true ⟨rfl,rfl,rfl,rfl,KK.out.2.2.2.2⟩]at CS
 have t0:=aA 0 T4.out
 have t1:=aA 1 T4.out
 have t2:=aA 2 T4.out
 have t3:=aA 3 T4.out
 have y0:=aA 0 R4.out
 have y1:=aA 1 R4.out
 have y2:=aA 2 R4.out
 have y3:=aA 3 R4.out
 clear A3 R3 D3 X4 T4
 go_wp2_with fail
 refine CS.out.mono ?_
 rintro e9 vx ⟨rfl,b5⟩
 have AX:Hid (Ab w vx):=A4.out.trans b5
 have RX:=hid (Ab.heap b5 R4.out)
 clear b5 CS A4 R4 t0 t1 t2 t3 y0 y1 y2 y3 KK HN HE4
 have y3:=aA 3 RX.out
 have CB:=hid (bP pb L cb f vx (by have:=HB.out;omega) (Hf.out.below AX.out) (by rw[HE.out];decide))
 rw[HE.out]at CB
 go_wp2_with fail
 refine CB.out.mono ?_
 rintro e9 vb ⟨rfl,b6⟩
 have AB:Hid (Ab w vb):=AX.out.trans b6
 clear b6 CB AX RX
 go_wp2
 go_ret
 exact⟨rfl,AB.out.alloc _⟩
theorem tback_at(fa:Int)(ls ms:Nat)(pt:Option Addr)(mt ct:Nat)(F:Nat->Nat)(pb:Option Addr)(L cb:Nat)(f:Nat->Nat)(w:World)(hls:ls<4294967296)(hms:ms<4294967296)(hct:mt<=ct/\ct<=35184372088832)(hF:IsW .u32 4294967296 w pt mt F)(hL:L<=cb/\cb<=140737488355328)(hf:IsW .u8 256 w pb L f):
  Calls prog 3 #[.agg #[.int .i64 fa,.int .u32 ((ls:Nat):Int),.int .u32 ((ms:Nat):Int),.slice pt mt ct],.slice pb L cb] w fun e w'=>e=.returned (.bool true)/\Below w.heap.size w w':=by
 have h2:=hf.cutN
 have h3:=cutN_lt (L:=L) (by decide) hf.lt
 cases ho:okT fa mt F ls ms with
 | true=>
  rcases hU L (cutN L f)with he | he | he | he
  ·exact back_11 fa ls ms pt mt ct F pb L cb _ w hls hms hct hF hL h2 h3 ho he
  ·exact back_1a fa ls ms pt mt ct F pb L cb _ w hls hms hct hF hL h2 h3 ho he
  ·exact back_1b fa ls ms pt mt ct F pb L cb _ w hls hms hct hF hL h2 h3 ho he
  ·exact back_1c fa ls ms pt mt ct F pb L cb _ w hls hms hct hF hL h2 h3 ho he
 | false=>
  rcases hU L (cutN L f)with he | he | he | he
  ·exact back_01 fa ls ms pt mt ct F pb L cb _ w hls hms hct hF hL h2 h3 ho he
  ·exact back_0a fa ls ms pt mt ct F pb L cb _ w hls hms hct hF hL h2 h3 ho he
  ·exact back_0b fa ls ms pt mt ct F pb L cb _ w hls hms hct hF hL h2 h3 ho he
  ·exact back_0c fa ls ms pt mt ct F pb L cb _ w hls hms hct hF hL h2 h3 ho he
end Ti
end
section
open Go.ChangeShapes Go.WideShapes Go.ChangeAt Go.WideMaps Go.WideElems Go.RowKit Go.Deep
namespace Sh
theorem trod_int{H:Type}{enc:TypeId × Value->H}{P:Program}{w:World}{base:Nat}{spare:Nat->Bool}{held:Bool}{t:TypeId}{fuel:Nat}{v:Value}{x:DataW H × List MemPlace}(ht:P.underlying t=some (.int .i64))(h:DataW.trod enc P w base spare held fuel t [v]=some x):
  ∃b,v=.int .i64 b/\(-9223372036854775808<=b/\b<=9223372036854775807):=by
 obtain⟨k,e,_,wf⟩:=DataW.trod_int ht h
 simp at e
 simp only[Lit.wf,Bool.and_eq_true,decide_eq_true_eq]at wf
 have q1:IntKind.i64.min= -9223372036854775808:=by decide
 have q2:IntKind.i64.max=9223372036854775807:=by decide
 rw[q1,q2]at wf
 exact⟨k,e,wf⟩
theorem hY{w:World}{a:Addr}{v:Value}(h:w.cell? a=some v):a.block<w.heap.size:=by
 by_cases c:a.block<w.heap.size
 ·exact c
 ·exfalso
  have:w.heap[a.block]? =none:=by simp;omega
  simp[World.cell?,this]at h
theorem oB{α:Type}{n:Nat}{R:Nat->α->Prop}(d:α)(h: ∀i,i<n-> ∃x,R i x): ∃f:Nat->α,∀i,i<n->R i (f i):=by
 have: ∀i,∃x,i<n->R i x:=fun i=>by
  by_cases c:i<n
  ·obtain⟨x,h1⟩:=h i c
   exact⟨x,fun _=>h1⟩
  ·exact⟨d,fun h=>absurd h c⟩
 exact⟨fun i=>(this i).choose,fun i hi=>(this i).choose_spec hi⟩
end Sh
end
end Go.Proofs.Ytdeammhdedcjlaa
