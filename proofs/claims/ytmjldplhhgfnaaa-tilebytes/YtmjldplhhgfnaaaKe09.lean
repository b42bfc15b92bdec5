/-
  Some of the texts of this proof, one behind the other.
-/
import Derived.Lib.AppendStr
import Derived.Deep.RegionHeld3
import Derived.Test.YtmjldplhhgfnaaaKe08
set_option maxRecDepth 100000
set_option maxHeartbeats 400000000
namespace Go.Proofs.Ytmjldplhhgfnaaa
open _root_.Go.Proofs.Try
section
open Go.RowKit Go.Deep Tf Cu
namespace Ti
def TilesAt(W0:World)(n m:Nat)(W:Nat->Int)(gl:Nat)(gs:Nat->Nat)(w:World):Prop:=
 Below W0.heap.size W0 w/\W0.heap.size<=gl/\w.rowIs gl 25 24 (tcv n m W gs)/\(∀j,j<6->gl<gs j/\w.rowIs (gs j) 22 m (fun k=>.int .u32 ((tb n W (j*m+k):Nat):Int)))/\ ∀i j,i<j->j<6->gs i<gs j
theorem tiles_ok(side:Int)(pb:Option Addr)(lb cb:Nat)(B:Nat->Nat)(pw:Option Addr)(lw cw:Nat)(W:Nat->Int)(pt:Option Addr)(lt ct:Nat)(T:Nat->Int)(ps:Option Addr)(ls cs:Nat)(S:Nat->Nat)(sky st:Int)(w:World)(i1:IsFl w pb lb B)(i2:Sh.IsI w pw lw W)(i3:Sh.IsI w pt lt T)(i4:IsFl w ps ls S)(h:(Ss.chk side lb lw lt ls B W T S sky st).2=0):
  Calls prog 11 #[.int .i64 side,.agg #[.slice pb lb cb,.slice pw lw cw,.slice pt lt ct,.slice ps ls cs,.int .i64 sky,.int .i64 st]] w fun e w'=> ∃gl gs,e=.returned (.tuple #[.slice (some ⟨gl,0,none⟩) 6 6,.int .i64 0])/\TilesAt w side.toNat (side.toNat*side.toNat) W gl gs w':=by
 obtain⟨n,rfl,hn,hl,h0⟩:=chk_sea h
 have m1:=bL hn.1 hn.2
 obtain⟨b,o,rfl⟩:=i2.some0 (by omega)
 rw[Int.toNat_natCast]
 exact tiles_go n (n*n) pb lb cb b o lw cw W pt lt ct ps ls cs sky st _ w hn rfl hl i2 h0 (hid fun v a=>by
  have q:=Ss.check_at (n:Nat) pb lb cb B (some ⟨b,o,none⟩) lw cw W pt lt ct T ps ls cs S sky st v (i1.below a) (i2.below a) (i3.below a) (i4.below a)
  rw[h]at q
  exact q)
theorem f4_lt(i:Nat)(hi:i<4):f4 i<4294967296:=by
 have c:i=0\/i=1\/i=2\/i=3:=by omega
 rcases c with rfl | rfl | rfl | rfl<;>decide
theorem oP(w:World):Calls prog 10 #[] w fun e w'=> ∃g,e=.returned (.agg #[.int .i64 5,.int .u32 0,.int .u32 1073741824,.slice (some ⟨g,0,none⟩) 4 4])/\Below w.heap.size w w'/\w.heap.size<=g/\w'.rowIs g 22 4 (fun i=>.int .u32 ((f4 i:Nat):Int)):=by
 have BL: ∀v:World,(Instr.buildSlice 23 4 #[(0,.int .u32 1065353216),(1,.int .u32 1073741824),(2,.int .u32 0),(3,.int .u32 1065353216)]).run prog v=.ok (.slice (some ⟨v.heap.size,0,none⟩) 4 4) (v.alloc (.cells #[.int .u32 1065353216,.int .u32 1073741824,.int .u32 0,.int .u32 1065353216] 22)):=fun v=>by simp[go_sem,Instr.buildSlice,run_underlying underlying23]
 obtain⟨A0,R0⟩:=aD w (.cells #[.int .i64 0,.int .u32 0,.int .u32 0,.slice none 0 0] 25)
 go_enter func10,ntmps10
 go_upto_region 1 with fail
 generalize hW:World.alloc w _=V0 at*
 obtain⟨gr,hgr⟩:=aB w.heap.size
 have HG:Hid (w.heap.size<=gr):=by show _<=_;omega
 rw[hgr]at R0 ⊢
 clear hgr hW
 obtain⟨A1,R1⟩:=aD V0 (.cells #[.int .u32 1065353216,.int .u32 1073741824,.int .u32 0,.int .u32 1065353216] 22)
 have R2:=hid (A1.out.heap R0.out)
 have A2:=hid (A0.out.trans A1.out)
 have t0:=aA 0 R2.out
 have t1:=aA 1 R2.out
 have t2:=aA 2 R2.out
 have t3:=aA 3 R2.out
 have f0:=aC R2.out 0
 have f1:=aC R2.out 1
 have f2:=aC R2.out 2
 have f3:=aC R2.out 3
 have LZ:Hid (gr<V0.heap.size/\w.heap.size<=V0.heap.size):=⟨lt_of_block R0.out,A0.out.size⟩
 go_wp2_with fail
 (try simp only[Exit.inBlock,Exit.then])
 have ne:V0.heap.size≠gr:=by have:=LZ.out;omega
 have RW:(V0.alloc (.cells #[.int .u32 1065353216,.int .u32 1073741824,.int .u32 0,.int .u32 1065353216] 22)).rowIs V0.heap.size 22 4 (fun i=>.int .u32 ((f4 i:Nat):Int)):=⟨_,R1.out,rfl,fun i hi=>by
  have c:i=0\/i=1\/i=2\/i=3:=by omega
  rcases c with rfl | rfl | rfl | rfl<;>rfl⟩
 refine bodyPost_ret (v:=.agg #[.int .i64 5,.int .u32 0,.int .u32 1073741824,.slice (some ⟨V0.heap.size,0,none⟩) 4 4]) ?_ rfl ?_
 ·exact results_cell_row results10 _ _ gr _ _ (0,0) _ rfl (bT R2.out) underlying25 rfl (by kernel_rfl)
 ·exact⟨_,rfl,(((A2.out.setk HG.out _).setk HG.out _).setk HG.out _).setk HG.out _,LZ.out.2,(((RW.setOther (a:=⟨gr,0,none⟩) ne _).setOther (a:=⟨gr,1,none⟩) ne _).setOther (a:=⟨gr,2,none⟩) ne _).setOther (a:=⟨gr,3,none⟩) ne _⟩
theorem run_bs{P:Program}{a:Act}{o:Oper}{t:TypeId}{n:Nat}{ps:Array (Nat × Operand)}{vs:Array (Nat × Value)}{u:Value}{w w':World}(ho:o.op=.buildSlice t n ps)(hv:(ps.map fun(i,x)=>(i,a.eval x))=vs)(M:(Instr.buildSlice t n vs).run P w=.ok u w'):(execOp a.eval o).run P w=.ok (.value u) w':=by
 unfold execOp
 rw[ho]
 simp only[hv]
 exact Cx.run_val M
theorem pZ{P:Program}{a:Act}{o:Oper}{x y:Operand}{f:FuncId}{fn:Func}{ats:Array TypeId}{v u:Value}(ho:o.op=.call {callee:=.value (.func f),args:= #[x,y],argTypes:=ats})(hx:a.eval x=v)(hy:a.eval y=u)(hf:P.funcs[f]? =some fn)(hn:(fn.name== "runtime.NumGoroutine")=false)(hb:fn.body.isNone=false)(w:World):(execOp a.eval o).run P w=.ok (.enter f #[v,u]) w:=by
 have h1:fn.name≠ "runtime.NumGoroutine" :=by simpa using hn
 have ef:a.eval (.func f)=.func (.func f) #[] #[]:=rfl
 have e:execOp a.eval o=callFunc f #[v,u]:=by
  unfold execOp
  simp[ho,resolve,Deferred.ofValue,invoke,ef,hx,hy]
 obtain⟨c,hc⟩: ∃c,fn.body=some c:=by
  cases h:fn.body with
  | none=>simp[h]at hb
  | some c=>exact⟨c,rfl⟩
 rw[e]
 simp[callFunc,hf,h1,hc]
def hdB(l:List Nat):Nat:=l.headD 0
def RL(ob:Obj)(x:Cx.Ix)(w:World):Prop:= ∃b,x.1=[b]/\w.heap[b]? =some ob
def RB(x:Cx.Ix)(w:World):Prop:= ∃b1 b2 b3 b4,x.2=.agg #[.slice (some ⟨b1,0,none⟩) 6 6,.slice (some ⟨b2,0,none⟩) 6 6,.slice (some ⟨b3,0,none⟩) 6 6,.slice (some ⟨b4,0,none⟩) 12 12,.int .i64 0,.int .i64 0]/\w.heap[b1]? =some (Obj.cells (madeCells #[.float .f64 0] 6) 60)/\w.heap[b2]? =some (Obj.cells #[.int .i64 1431655765,.int .i64 0,.int .i64 0,.int .i64 0,.int .i64 0,.int .i64 0] 2)/\w.heap[b3]? =some (Obj.cells (madeCells #[.int .i64 0] 6) 2)/\w.heap[b4]? =some (Obj.cells (madeCells #[.float .f64 0] 12) 60)
def RT(x:Cx.Ix)(w:World):Prop:= ∃gl gs,x.1=[gl]/\w.rowIs gl 25 24 (tcv 1 1 W6 gs)
theorem kK{ob:Obj}{x:Cx.Ix}{w w':World}(h:RL ob x w)(a:Ab w w'):RL ob x w':=by
 obtain⟨b,e,h⟩:=h
 exact⟨b,e,a.heap h⟩
theorem rb_stb{x:Cx.Ix}{w w':World}(h:RB x w)(a:Ab w w'):RB x w':=by
 obtain⟨b1,b2,b3,b4,e,h1,h2,h3,h4⟩:=h
 exact⟨b1,b2,b3,b4,e,a.heap h1,a.heap h2,a.heap h3,a.heap h4⟩
theorem rt_stb{x:Cx.Ix}{w w':World}(h:RT x w)(a:Ab w w'):RT x w':=by
 obtain⟨gl,gs,e,h⟩:=h
 exact⟨gl,gs,e,Sh.aV h a⟩
theorem stb_aw:Cx.Stable (fun k=>if k=0 then some (RL (Obj.cells (madeCells #[.float .f64 0] 6) 60),fun x=>.slice (some ⟨hdB x.1,0,none⟩) 6 6)else if k=1 then some (RL (Obj.cells #[.int .i64 1431655765,.int .i64 0,.int .i64 0,.int .i64 0,.int .i64 0,.int .i64 0] 2),fun x=>.slice (some ⟨hdB x.1,0,none⟩) 6 6)else if k=2 then some (RL (Obj.cells (madeCells #[.int .i64 0] 6) 2),fun x=>.slice (some ⟨hdB x.1,0,none⟩) 6 6)else if k=3 then some (RL (Obj.cells (madeCells #[.float .f64 0] 12) 60),fun x=>.slice (some ⟨hdB x.1,0,none⟩) 12 12)else if k=4 then some (RB,fun x=>x.2)else if k=5 then some (RT,fun x=>.tuple #[.slice (some ⟨hdB x.1,0,none⟩) 6 6,.int .i64 0])else none):=fun i R mk h x v v' hr ha=>by
 rcases Nat.decEq i 0 with q0 | q0
 rotate_left
 ·subst q0
  simp only[if_true,Option.some.injEq,Prod.mk.injEq]at h
  obtain⟨h1,h2⟩:=h
  subst h1 h2
  exact kK hr ha
 rcases Nat.decEq i 1 with q1 | q1
 rotate_left
 ·subst q1
  simp only[if_true,if_neg (show¬(1:Nat)=0 by decide),Option.some.injEq,Prod.mk.injEq]at h
  obtain⟨h1,h2⟩:=h
  subst h1 h2
  exact kK hr ha
 rcases Nat.decEq i 2 with q2 | q2
 rotate_left
 ·subst q2
  simp only[if_true,if_neg (show¬(2:Nat)=0 by decide),if_neg (show¬(2:Nat)=1 by decide),Option.some.injEq,Prod.mk.injEq]at h
  obtain⟨h1,h2⟩:=h
  subst h1 h2
  exact kK hr ha
 rcases Nat.decEq i 3 with q3 | q3
 rotate_left
 ·subst q3
  simp only[if_true,if_neg (show¬(3:Nat)=0 by decide),if_neg (show¬(3:Nat)=1 by decide),if_neg (show¬(3:Nat)=2 by decide),Option.some.injEq,Prod.mk.injEq]at h
  obtain⟨h1,h2⟩:=h
  subst h1 h2
  exact kK hr ha
 rcases Nat.decEq i 4 with q4 | q4
 rotate_left
 ·subst q4
  simp only[if_true,if_neg (show¬(4:Nat)=0 by decide),if_neg (show¬(4:Nat)=1 by decide),if_neg (show¬(4:Nat)=2 by decide),if_neg (show¬(4:Nat)=3 by decide),Option.some.injEq,Prod.mk.injEq]at h
  obtain⟨h1,h2⟩:=h
  subst h1 h2
  exact rb_stb hr ha
 rcases Nat.decEq i 5 with q5 | q5
 rotate_left
 ·subst q5
  simp only[if_true,if_neg (show¬(5:Nat)=4 by decide),if_neg (show¬(5:Nat)=0 by decide),if_neg (show¬(5:Nat)=1 by decide),if_neg (show¬(5:Nat)=2 by decide),if_neg (show¬(5:Nat)=3 by decide),Option.some.injEq,Prod.mk.injEq]at h
  obtain⟨h1,h2⟩:=h
  subst h1 h2
  exact rt_stb hr ha
 ·simp only[if_neg q0,if_neg q1,if_neg q2,if_neg q3,if_neg q4,if_neg q5]at h
  cases h
theorem lY:(Try.prog.info? 60).map (fun i=>(i.zero,i.size,i.bytes))=some (some (.float .f64 0),1,8):=by kernel_rfl
theorem dC(w:World):Calls prog 4 #[] w fun e w'=>e=.returned (.bool true)/\Below w.heap.size w w':=by
 have M1: ∀v:World,(Instr.makeSlice 39 (.int .i64 6) (.int .i64 6)).run prog v=.ok (.slice (some ⟨v.heap.size,0,none⟩) 6 6) (v.alloc (Obj.cells (madeCells #[.float .f64 0] 6) 60)):=fun v=>run_make_row' (P:=prog) 39 60 (.float .f64 0) 8 underlying39 lY rfl .i64 .i64 6 (by omega) (by omega) v
 have M2: ∀v:World,(Instr.makeSlice 40 (.int .i64 6) (.int .i64 6)).run prog v=.ok (.slice (some ⟨v.heap.size,0,none⟩) 6 6) (v.alloc (Obj.cells (madeCells #[.int .i64 0] 6) 2)):=fun v=>run_make_row' (P:=prog) 40 2 (.int .i64 0) 8 underlying40 Sh.info64 rfl .i64 .i64 6 (by omega) (by omega) v
 have M3: ∀v:World,(Instr.makeSlice 39 (.int .i64 12) (.int .i64 12)).run prog v=.ok (.slice (some ⟨v.heap.size,0,none⟩) 12 12) (v.alloc (Obj.cells (madeCells #[.float .f64 0] 12) 60)):=fun v=>run_make_row' (P:=prog) 39 60 (.float .f64 0) 8 underlying39 lY rfl .i64 .i64 12 (by omega) (by omega) v
 have BL: ∀v:World,(Instr.buildSlice 40 6 #[(0,.int .i64 1431655765),(1,.int .i64 0),(2,.int .i64 0),(3,.int .i64 0),(4,.int .i64 0),(5,.int .i64 0)]).run prog v=.ok (.slice (some ⟨v.heap.size,0,none⟩) 6 6) (v.alloc (.cells #[.int .i64 1431655765,.int .i64 0,.int .i64 0,.int .i64 0,.int .i64 0,.int .i64 0] 2)):=fun v=>by simp[go_sem,Instr.buildSlice,run_underlying underlying40]
 go_enter func4,ntmps4
 go_wp2_with fail
 refine(oP _).mono ?_
 rintro e9 v1 ⟨g,rfl,b1,l1,r1⟩
 have A1:Hid (Ab w v1):=b1
 have IW:=hid (dE (M:=4294967296) r1 (fun i hi=>by
  have c:i=0\/i=1\/i=2\/i=3:=by omega
  rcases c with rfl | rfl | rfl | rfl<;>decide))
 have CE:=hid (dX 5 0 1073741824 (some ⟨g,0,none⟩) 4 4 f4 v1 (by decide) (by decide) (by decide) IW.out ok4)
 clear b1 l1 r1
 rw[sd4]at CE
 go_wp2_with fail
 refine CE.out.mono ?_
 rintro e9 v2 ⟨gb,rfl,b2,l2,r2⟩
 have A2:Hid (Ab w v2):=A1.out.trans b2
 have E2:Hid (v2.rowIs gb 5 30 (fun i=>.int .u8 ((E30 i:Nat):Int))):=r2
 have I2:=hid (dE (M:=256) E2.out (fun i _=>kC (by decide) (by decide)))
 have CD:=hid (dY (some ⟨gb,0,none⟩) 30 30 E30 v2 (by decide) I2.out e30)
 rw[e30_h.1,e30_h.2.1,e30_h.2.2.1,e30_h.2.2.2]at CD
 clear b2 l2 r2 CE IW A1
 go_wp2_with fail
 refine CD.out.mono ?_
 rintro e9 v3 ⟨gd,rfl,b3,l3,r3⟩
 have A3:Hid (Ab w v3):=A2.out.trans b3
 have E3:=hid (Sh.aV E2.out b3)
 have D3:=hid (r3.congr (g:=fun i=>.int .u32 ((f4 i:Nat):Int)) (fun i hi=>by rw[e30_d i hi]))
 clear b3 l3 r3 CD I2 A2 E2
 obtain⟨X4,T4⟩:=aD v3 (.cells #[.int .i64 5,.int .u32 0,.int .u32 1073741824,.slice (some ⟨gd,0,none⟩) 4 4] 25)
 go_upto_region 3 with fail
 generalize hV:World.alloc v3 _=v4 at*
 obtain⟨gt,hgt⟩:=aB v3.heap.size
 rw[hgt]at T4 ⊢
 clear hV hgt
 have A4:Hid (Ab w v4):=A3.out.trans X4.out
 have E4:=hid (Sh.aV E3.out X4.out)
 have D4:=hid (Sh.aV D3.out X4.out)
 clear A3 E3 D3 X4
 have CN:=hid (fK none 0 0 (fun _=>0) v4 (by decide) (IsW.nil _ _ _ _ _) (by rw[e0];decide))
 rw[e0]at CN
 go_wp2_with fail
 refine CN.out.mono ?_
 rintro e9 v5 ⟨rfl,b5⟩
 have X6:Hid (Ab v4 (v5.alloc (.cells #[.int .i64 0,.int .u32 0,.int .u32 0,.slice none 0 0] 25))):=Ab.alloc b5 _
 clear CN b5
 go_upto_region 4 with fail
 generalize hV:World.alloc v5 _=v6 at*
 clear hV
 have A6:Hid (Ab w v6):=A4.out.trans X6.out
 have E6:=hid (Sh.aV E4.out X6.out)
 have D6:=hid (Sh.aV D4.out X6.out)
 have T6:=hid (X6.out.heap T4.out)
 clear A4 E4 D4 T4 X6
 obtain⟨gp,hgp⟩:=aB v5.heap.size
 rw[hgp]
 clear hgp
 go_cut [7,8]from 24 to 31 (fun s7 s8 wx=> ∃gl gs,s7=.slice (some ⟨gl,0,none⟩) 6 6/\s8=.int .i64 0/\Ab v6 wx/\wx.rowIs gl 25 24 (tcv 1 1 W6 gs))
 case first=>
  obtain⟨UU,E,hF1,hF2⟩:=cls v6.drew
  have HU:=hid hF2
  clear hF1 hF2
  refine Cx.lX 10 (fun k=>if k=0 then some (RL (Obj.cells (madeCells #[.float .f64 0] 6) 60),fun x=>.slice (some ⟨hdB x.1,0,none⟩) 6 6)else if k=1 then some (RL (Obj.cells #[.int .i64 1431655765,.int .i64 0,.int .i64 0,.int .i64 0,.int .i64 0,.int .i64 0] 2),fun x=>.slice (some ⟨hdB x.1,0,none⟩) 6 6)else if k=2 then some (RL (Obj.cells (madeCells #[.int .i64 0] 6) 2),fun x=>.slice (some ⟨hdB x.1,0,none⟩) 6 6)else if k=3 then some (RL (Obj.cells (madeCells #[.float .f64 0] 12) 60),fun x=>.slice (some ⟨hdB x.1,0,none⟩) 12 12)else if k=4 then some (RB,fun x=>x.2)else if k=5 then some (RT,fun x=>.tuple #[.slice (some ⟨hdB x.1,0,none⟩) 6 6,.int .i64 0])else none) (fun j=>if j=4 then [0,1,2,3]else if j=5 then [4]else []) stb_aw (by kernel_rfl) (by kernel_rfl) (by kernel_rfl) (by kernel_rfl) ?_
  simp only[List.take_succ_cons,List.take_zero]
  refine Cx.bM (ob:=RL (Obj.cells (madeCells #[.float .f64 0] 6) 60)) (mk:=fun x=>.slice (some ⟨hdB x.1,0,none⟩) 6 6) (by rfl) (by kernel_rfl) ?_ ?_
  ·refine Cx.gH (O:=(Obj.cells (madeCells #[.float .f64 0] 6) 60)) (u:=fun _=>.bool true) (fun v _=> ?_) (fun v _=>⟨v.heap.size,rfl,heap_alloc_new _ _⟩)
   exact Cx.run_make (vx:=.int .i64 6) (vy:=.int .i64 6) (by rfl) (by rfl) (by rfl) (M1 v)
  intro x0 fx0
  simp only[Act.put,List.setIfInBounds_toArray,List.set_cons_succ,List.set_cons_zero]
  refine Cx.bM (ob:=RL (Obj.cells #[.int .i64 1431655765,.int .i64 0,.int .i64 0,.int .i64 0,.int .i64 0,.int .i64 0] 2)) (mk:=fun x=>.slice (some ⟨hdB x.1,0,none⟩) 6 6) (by rfl) (by kernel_rfl) ?_ ?_
  ·refine Cx.gH (O:=(Obj.cells #[.int .i64 1431655765,.int .i64 0,.int .i64 0,.int .i64 0,.int .i64 0,.int .i64 0] 2)) (u:=fun _=>.bool true) (fun v _=> ?_) (fun v _=>⟨v.heap.size,rfl,heap_alloc_new _ _⟩)
   exact run_bs (P:=prog) (vs:= #[(0,.int .i64 1431655765),(1,.int .i64 0),(2,.int .i64 0),(3,.int .i64 0),(4,.int .i64 0),(5,.int .i64 0)]) (by rfl) (by simp[Act.eval]) (BL v)
  intro x1 fx1
  simp only[Act.put,List.setIfInBounds_toArray,List.set_cons_succ,List.set_cons_zero]
  refine Cx.bM (ob:=RL (Obj.cells (madeCells #[.int .i64 0] 6) 2)) (mk:=fun x=>.slice (some ⟨hdB x.1,0,none⟩) 6 6) (by rfl) (by kernel_rfl) ?_ ?_
  ·refine Cx.gH (O:=(Obj.cells (madeCells #[.int .i64 0] 6) 2)) (u:=fun _=>.bool true) (fun v _=> ?_) (fun v _=>⟨v.heap.size,rfl,heap_alloc_new _ _⟩)
   exact Cx.run_make (vx:=.int .i64 6) (vy:=.int .i64 6) (by rfl) (by rfl) (by rfl) (M2 v)
  intro x2 fx2
  simp only[Act.put,List.setIfInBounds_toArray,List.set_cons_succ,List.set_cons_zero]
  refine Cx.bM (ob:=RL (Obj.cells (madeCells #[.float .f64 0] 12) 60)) (mk:=fun x=>.slice (some ⟨hdB x.1,0,none⟩) 12 12) (by rfl) (by kernel_rfl) ?_ ?_
  ·refine Cx.gH (O:=(Obj.cells (madeCells #[.float .f64 0] 12) 60)) (u:=fun _=>.bool true) (fun v _=> ?_) (fun v _=>⟨v.heap.size,rfl,heap_alloc_new _ _⟩)
   exact Cx.run_make (vx:=.int .i64 12) (vy:=.int .i64 12) (by rfl) (by rfl) (by rfl) (M3 v)
  intro x3 fx3
  simp only[Act.put,List.setIfInBounds_toArray,List.set_cons_succ,List.set_cons_zero]
  refine Cx.bM (ob:=RB) (mk:=fun x=>x.2) (by rfl) (by kernel_rfl) ?_ ?_
  ·intro v hv
   obtain⟨⟨b1,e1,h1⟩,-⟩:=hv.at (i:=0) (x:=x0) (R:=RL (Obj.cells (madeCells #[.float .f64 0] 6) 60)) (mk:=fun x=>.slice (some ⟨hdB x.1,0,none⟩) 6 6) (by rfl) (by rfl)
   obtain⟨⟨b2,e2,h2⟩,-⟩:=hv.at (i:=1) (x:=x1) (R:=RL (Obj.cells #[.int .i64 1431655765,.int .i64 0,.int .i64 0,.int .i64 0,.int .i64 0,.int .i64 0] 2)) (mk:=fun x=>.slice (some ⟨hdB x.1,0,none⟩) 6 6) (by rfl) (by rfl)
   obtain⟨⟨b3,e3,h3⟩,-⟩:=hv.at (i:=2) (x:=x2) (R:=RL (Obj.cells (madeCells #[.int .i64 0] 6) 2)) (mk:=fun x=>.slice (some ⟨hdB x.1,0,none⟩) 6 6) (by rfl) (by rfl)
   obtain⟨⟨b4,e4,h4⟩,-⟩:=hv.at (i:=3) (x:=x3) (R:=RL (Obj.cells (madeCells #[.float .f64 0] 12) 60)) (mk:=fun x=>.slice (some ⟨hdB x.1,0,none⟩) 12 12) (by rfl) (by rfl)
   have q: ∀(o:Oper) (a:Act),(execOp a.eval o).run prog v=.ok (.value (.agg #[.slice (some ⟨hdB x0.1,0,none⟩) 6 6,.slice (some ⟨hdB x1.1,0,none⟩) 6 6,.slice (some ⟨hdB x2.1,0,none⟩) 6 6,.slice (some ⟨hdB x3.1,0,none⟩) 12 12,.int .i64 0,.int .i64 0])) v->Cx.LayR prog v RB (fun x=>x.2) ((execOp a.eval o).run prog v):=fun o a q=>by
    rw[q]
    exact⟨([],.agg #[.slice (some ⟨hdB x0.1,0,none⟩) 6 6,.slice (some ⟨hdB x1.1,0,none⟩) 6 6,.slice (some ⟨hdB x2.1,0,none⟩) 6 6,.slice (some ⟨hdB x3.1,0,none⟩) 12 12,.int .i64 0,.int .i64 0]),rfl,Ab.refl v,(fun b hb=>by cases hb),b1,b2,b3,b4,by rw[e1,e2,e3,e4];rfl,h1,h2,h3,h4⟩
   refine q _ _ ?_
   simp[execOp,go_sem,Act.eval]
  intro x4 fx4
  simp only[Act.put,List.setIfInBounds_toArray,List.set_cons_succ,List.set_cons_zero]
  refine Cx.bM (ob:=RT) (mk:=fun x=>.tuple #[.slice (some ⟨hdB x.1,0,none⟩) 6 6,.int .i64 0]) (by rfl) (by kernel_rfl) ?_ ?_
  ·refine Cx.lay_call (f:=11) (args:= #[.int .i64 1,x4.2]) ?_ (fun v hv=> ?_)
   ·intro v
    exact pZ (x:=.const (.int .i64 1)) (y:=.tmp 28) (by rfl) (by rfl) (by rfl) func11 (by kernel_rfl) (by kernel_rfl) v
   ·obtain⟨⟨b1,b2,b3,b4,e,h1,h2,h3,h4⟩,-⟩:=hv.at (i:=4) (x:=x4) (R:=RB) (mk:=fun x=>x.2) (by rfl) (by rfl)
    rw[e]
    have F1:IsFl v (some ⟨b1,0,none⟩) 6 (fun _=>0):=rowIs.fl (cQ h1) (fun _ _=>by decide)
    have F2:Sh.IsI v (some ⟨b2,0,none⟩) 6 W6:=Sh.row_in ⟨_,h2,rfl,fun i hi=>by
     have c:i=0\/i=1\/i=2\/i=3\/i=4\/i=5:=by omega
     rcases c with rfl | rfl | rfl | rfl | rfl | rfl<;>rfl⟩ (fun i _=>by unfold W6;split<;>decide)
    have F3:Sh.IsI v (some ⟨b3,0,none⟩) 6 (fun _=>0):=Sh.row_in (cQ h3) (fun _ _=>by decide)
    have F4:IsFl v (some ⟨b4,0,none⟩) 12 (fun _=>0):=rowIs.fl (cQ h4) (fun _ _=>by decide)
    exact(tiles_ok 1 _ 6 6 _ _ 6 6 _ _ 6 6 _ _ 12 12 _ 0 0 v F1 F2 F3 F4 (by rw[chk6])).mono fun e w' q=>by
     obtain⟨gl,gs,rfl,q1,q2,q3,q4,q5⟩:=q
     exact⟨([gl],.bool true),rfl,q1,(fun b hb=>by
      have hb:b=gl:=by simpa using hb
      subst hb
      exact⟨q2,q3.lt⟩),gl,gs,rfl,q3⟩
  intro x5 fx5
  simp only[Act.put,List.setIfInBounds_toArray,List.set_cons_succ,List.set_cons_zero]
  refine Cx.dB HU (by rfl) (by rfl) ?_
  go_big_quiet_step (with_reducible rfl)
  refine wpQuiet_nil ?_
  refine Cx.dB HU (by rfl) (by rfl) ?_
  go_big_quiet_step (with_reducible rfl)
  refine wpQuiet_nil ?_
  refine Cx.dB HU (by rfl) (by rfl) ?_
  go_big_quiet_step (with_reducible rfl)
  refine wpQuiet_nil ?_
  refine Cx.dB HU (by rfl) (by rfl) ?_
  go_big_quiet_step (with_reducible rfl)
  refine wpQuiet_nil ?_
  refine Cx.nJ ?_
  intro wz hz
  obtain⟨⟨gl,gs,e5,r5⟩,-⟩:=hz.at (i:=5) (x:=x5) (R:=RT) (mk:=fun x=>.tuple #[.slice (some ⟨hdB x.1,0,none⟩) 6 6,.int .i64 0]) (by rfl) (by rfl)
  have AZ:Hid (Ab v6 wz):=(Ab.refl v6).drew.trans hz.1
  have R5:=hid r5
  have E5:=hid e5
  clear r5 e5 hz HU fx0 fx1 fx2 fx3 fx4 fx5
  simp only[List.drop_succ_cons,List.drop_zero]
  go_wp2
  try go_meet
  exact⟨gl,gs,by rw[E5.out];rfl,rfl,AZ.out,R5.out⟩
 case rest=>
 obtain⟨gl,gs,rfl,rfl,a7,r7⟩:=hcut
 have A7:Hid (Ab w wc):=A6.out.trans a7
 have E7:=hid (Sh.aV E6.out a7)
 have D7:=hid (dE (M:=4294967296) (Sh.aV D6.out a7) (fun i hi=>by
  have c:i=0\/i=1\/i=2\/i=3:=by omega
  rcases c with rfl | rfl | rfl | rfl<;>decide))
 have T7:=hid (a7.heap T6.out)
 have L7:=hid (r7.cell (i:=2) (by decide))
 have L8:Hid (gl<wc.heap.size):=r7.lt
 have eL:tcv 1 1 W6 gs 2=.int .u32 1065353216:=by
  show Value.int .u32 ((hi (fun k=>tb 1 W6 (0*1+k)) 0:Nat):Int)=_
  rw[tb6]
  rfl
 rw[eL]at L7
 clear a7 r7 A6 E6 D6 T6 M1 M2 M3 BL eL
 have MK:=e30_b
 have KS:Hid (∀v,Ab wc v->Ab wc v/\v.cell? ⟨gt,0,none⟩=some (.int .i64 5)/\v.cell? ⟨gt,1,none⟩=some (.int .u32 0)/\v.cell? ⟨gt,2,none⟩=some (.int .u32 1073741824)/\v.cell? ⟨gt,3,none⟩=some (.slice (some ⟨gd,0,none⟩) 4 4)/\v.cell? ⟨gl,2,none⟩=some (.int .u32 1065353216)/\(convert 26 9 (.slice (some ⟨gb,0,none⟩) 30 30)).run prog v=.ok (.string (str E30 30)) v):=fun v a=>by
  have t:=a.heap T7.out
  exact⟨a,aA 0 t,aA 1 t,aA 2 t,aA 3 t,(Below.cell a L8.out).trans L7.out,aJ underlying26 underlying5 underlying9 (dE (Sh.aV E7.out a) (fun i _=>kC (by decide) (by decide))) (fun e=>by cases e)⟩
 have X0:Ab wc wc:=Ab.refl wc
 go_wp2_with fail
 go_region_held3 (fun v=>Ab wc v/\v.cell? ⟨gt,0,none⟩=some (.int .i64 5)/\v.cell? ⟨gt,1,none⟩=some (.int .u32 0)/\v.cell? ⟨gt,2,none⟩=some (.int .u32 1073741824)/\v.cell? ⟨gt,3,none⟩=some (.slice (some ⟨gd,0,none⟩) 4 4)/\v.cell? ⟨gl,2,none⟩=some (.int .u32 1065353216)/\(convert 26 9 (.slice (some ⟨gb,0,none⟩) 30 30)).run prog v=.ok (.string (str E30 30)) v) ((refine KS.out _ ?_;(with_reducible (repeat(first | assumption | apply Ab.drew)));done)) (first
  | (go_at_call 10;refine(oP _).mono ?_;rintro e9 z1 ⟨g9,rfl,b9,l9,r9⟩;have az1:Ab wc z1:=Ab.trans (show Ab wc _ by with_reducible (repeat(first | assumption | apply Ab.drew))) b9;have I9:=hid (dE (M:=4294967296) r9 f4_lt))
  | (go_at_call 9;refine(gD _ _ _ _ _ _ _ _ _ _ _ _ f4 f4 _ (by decide) (D7.out.below az1) I9.out).mono ?_;rintro e9 z2 ⟨rfl,b8⟩;have az2:Ab wc z2:=Ab.trans az1 b8))
 go_wp2
 go_ret
 exact⟨by rw[show eqT 5 5 0 0 1073741824 1073741824 4 4 f4 f4=true from decide_eq_true ⟨rfl,rfl,rfl,rfl,fun _ _=>rfl⟩];rfl,A7.out.trans az2⟩
end Ti
end
section
open Go.RowKit Go.Deep Tf Cu
namespace Ti
theorem dec_ok{L:Nat}{f:Nat->Nat}(hb: ∀i,f i<256)(h:dErr L f=0):okT ((f 4:Nat):Int) (f 5*f 5) (dec f) (num f 6) (num f 10)=true/\sideN (f 5*f 5)=f 5/\14+4*(f 5*f 5)=L/\ ∀i,enc (f 4) (f 5) (num f 6) (num f 10) (dec f) i=f i:=by
 obtain⟨e1,e2⟩:=kE h
 obtain⟨h1,h2,h3,h4⟩:=nB e1
 exact⟨e2,sideN_sq h3.1 h3.2,h4,fun i=>enc_dec hb h1⟩
def cutN(L:Nat)(f:Nat->Nat)(i:Nat):Nat:=if i<L then f i else 0
theorem IsW.cutN{kd:IntKind}{M:Nat}{w:World}{a0:Option Addr}{len:Nat}{xs:Nat->Nat}(h:IsW kd M w a0 len xs):IsW kd M w a0 len (Ti.cutN len xs):=h.congr fun k hk=>by unfold Ti.cutN;rw[if_pos hk]
theorem cutN_lt{M L:Nat}{f:Nat->Nat}(h0:0<M)(h: ∀i,i<L->f i<M)(i:Nat):cutN L f i<M:=by
 unfold cutN
 split
 ·rename_i c;exact h i c
 ·exact h0
end Ti
end
section
open Go.RowKit Go.Deep
namespace T8
def Own(B:Nat)(v:Value)(l:List Nat)(w:World):Prop:=w.ownsRow B 5 1 v l.length (l.map fun x:Nat=>Value.int .u8 (x:Int))
theorem Own.at{B:Nat}{v:Value}{l:List Nat}{w:World}(h:Own B v l w)(hl: ∀x ∈ l,x<256): ∃a0 cap,v=.slice a0 l.length cap/\Ti.IsW .u8 256 w a0 l.length (fun j=>l.getD j 0)/\l.length<=cap/\cap<=9223372036854775807:=by
 rcases h.2 with⟨rfl,h0⟩ | ⟨g,cap,cur,rfl,hb,hg,h1,h2,h3,h4⟩
 ·exact⟨none,0,by rw[h0],fun k hk=>by omega,by omega,by omega⟩
 ·refine⟨some ⟨g,0,none⟩,cap,rfl,fun k hk=> ?_,h1,by unfold maxLen at h2;omega⟩
  have hx:l.getD k 0=l[k]:=by simp[List.getD,hk]
  refine⟨by dsimp only;rw[hx];exact hl _ (List.getElem_mem _),g,0,rfl,lt_of_block hg,?_⟩
  have e:=h.cells (g:=g) rfl k (.int .u8 ((l.getD k 0:Nat):Int)) (by simp[hk])
  rw[Sh.eU]at e
  exact e
theorem Own.new(w:World)(B:Nat):Own B (.slice none 0 0) [] w:=⟨by simp,.inl ⟨rfl,rfl⟩⟩
theorem Own.to{B:Nat}{v:Value}{l:List Nat}{w w':World}(h:Own B v l w)(hb:Ab w w'):Own B v l w':=by
 refine⟨h.1,?_⟩
 rcases h.2 with h0 | ⟨g,cap,cur,e,hb',hg,h1,h2,h3,h4⟩
 ·exact .inl h0
 ·exact .inr ⟨g,cap,cur,e,hb',hb.heap hg,h1,h2,h3,h4⟩
theorem Own.alloc{B:Nat}{v:Value}{l:List Nat}{w:World}(h:Own B v l w)(O:Obj):Own B v l (w.alloc O):=World.ownsRow.alloc h O
theorem dD{ops:Array Oper}{rest:List Oper}{o:Oper}{a:Act}{w:World}{Q:Exit->Act->World->Prop}(hgd:o.guard=none)(s x:Operand)
  (ho:o.op=.call {callee:=.builtin .append,args:= #[s,x],argTypes:= #[26,26]})
  (B:Nat) (v:Value) (l:List Nat) (hs:a.eval s=v) (hown:Own B v l w)
  (ad:Addr) (m c:Nat) (news:List Nat) (hx:a.eval x=.slice (some ad) m c) (hl:news.length=m) (hnews: ∀j u,(news.map fun x:Nat=>Value.int .u8 (x:Int))[j]? =some u->w.cell? (ad.add j)=some u)
  (hm:0<m) (hlen:l.length+m<=1048576) (hB:B<=w.heap.size) (nm:Nat) (hnm:l.length+m=nm)
  (h: ∀g cap w',Own B (.slice (some ⟨g,0,none⟩) nm cap) (l++news) w'->w.grownBy w' v.ownBlock->(v.ownBlock=some g\/g=w.heap.size)->B<=g->wpList prog ops Q rest (a.put o.dst (.slice (some ⟨g,0,none⟩) nm cap)) w'):wpList prog ops Q (o :: rest) a w:=by
 subst hnm
 obtain⟨i0,hi,hz⟩:=Option.map_eq_some_iff.1 Ti.gA
 simp only[Prod.mk.injEq]at hz
 obtain⟨hz0,hz1,hz2⟩:=hz
 refine wpList_append_lies w hgd s x _ ho B 5 i0 (.int .u8 0) 1 1 underlying26 hi hz0 hz1 hz2 rfl (by decide) v l.length (l.map fun x:Nat=>Value.int .u8 (x:Int)) hs hown ad m c (news.map fun x:Nat=>Value.int .u8 (x:Int)) hx (by simpa using hl) hnews (fun u hu=>by
  obtain⟨y,_,rfl⟩:=List.mem_map.1 hu
  rfl) hm (by unfold maxLen;omega) (by omega) hB _ rfl ?_
 intro g cap w' o1 g1 e1 _
 have hb:B<=g:=by
  rcases o1.2 with⟨q,_⟩ | ⟨g2,_,_,q,hb,_⟩
  ·cases q
  ·injection q with q1 q2 q3
   injection q1 with q4
   injection q4 with q5
   omega
 refine h g cap w' ?_ g1 e1 hb
 unfold Own
 rw[List.length_append,List.map_append,hl]
 exact o1
end T8
namespace T32
def Own(B:Nat)(v:Value)(l:List Nat)(w:World):Prop:=w.ownsRow B 22 1 v l.length (l.map fun x:Nat=>Value.int .u32 (x:Int))
theorem Own.at{B:Nat}{v:Value}{l:List Nat}{w:World}(h:Own B v l w)(hl: ∀x ∈ l,x<4294967296): ∃a0 cap,v=.slice a0 l.length cap/\Ti.IsW .u32 4294967296 w a0 l.length (fun j=>l.getD j 0)/\l.length<=cap/\cap<=9223372036854775807:=by
 rcases h.2 with⟨rfl,h0⟩ | ⟨g,cap,cur,rfl,hb,hg,h1,h2,h3,h4⟩
 ·exact⟨none,0,by rw[h0],fun k hk=>by omega,by omega,by omega⟩
 ·refine⟨some ⟨g,0,none⟩,cap,rfl,fun k hk=> ?_,h1,by unfold maxLen at h2;omega⟩
  have hx:l.getD k 0=l[k]:=by simp[List.getD,hk]
  refine⟨by dsimp only;rw[hx];exact hl _ (List.getElem_mem _),g,0,rfl,lt_of_block hg,?_⟩
  have e:=h.cells (g:=g) rfl k (.int .u32 ((l.getD k 0:Nat):Int)) (by simp[hk])
  rw[Sh.eU]at e
  exact e
theorem Own.new(w:World)(B:Nat):Own B (.slice none 0 0) [] w:=⟨by simp,.inl ⟨rfl,rfl⟩⟩
theorem Own.to{B:Nat}{v:Value}{l:List Nat}{w w':World}(h:Own B v l w)(hb:Ab w w'):Own B v l w':=by
 refine⟨h.1,?_⟩
 rcases h.2 with h0 | ⟨g,cap,cur,e,hb',hg,h1,h2,h3,h4⟩
 ·exact .inl h0
 ·exact .inr ⟨g,cap,cur,e,hb',hb.heap hg,h1,h2,h3,h4⟩
theorem Own.alloc{B:Nat}{v:Value}{l:List Nat}{w:World}(h:Own B v l w)(O:Obj):Own B v l (w.alloc O):=World.ownsRow.alloc h O
theorem dD{ops:Array Oper}{rest:List Oper}{o:Oper}{a:Act}{w:World}{Q:Exit->Act->World->Prop}(hgd:o.guard=none)(s x:Operand)
  (ho:o.op=.call {callee:=.builtin .append,args:= #[s,x],argTypes:= #[23,23]})
  (B:Nat) (v:Value) (l:List Nat) (hs:a.eval s=v) (hown:Own B v l w)
  (ad:Addr) (m c:Nat) (news:List Nat) (hx:a.eval x=.slice (some ad) m c) (hl:news.length=m) (hnews: ∀j u,(news.map fun x:Nat=>Value.int .u32 (x:Int))[j]? =some u->w.cell? (ad.add j)=some u)
  (hm:0<m) (hlen:l.length+m<=1048576) (hB:B<=w.heap.size) (nm:Nat) (hnm:l.length+m=nm)
  (h: ∀g cap w',Own B (.slice (some ⟨g,0,none⟩) nm cap) (l++news) w'->w.grownBy w' v.ownBlock->(v.ownBlock=some g\/g=w.heap.size)->B<=g->wpList prog ops Q rest (a.put o.dst (.slice (some ⟨g,0,none⟩) nm cap)) w'):wpList prog ops Q (o :: rest) a w:=by
 subst hnm
 obtain⟨i0,hi,hz⟩:=Option.map_eq_some_iff.1 Ti.iA
 simp only[Prod.mk.injEq]at hz
 obtain⟨hz0,hz1,hz2⟩:=hz
 refine wpList_append_lies w hgd s x _ ho B 22 i0 (.int .u32 0) 1 4 underlying23 hi hz0 hz1 hz2 rfl (by decide) v l.length (l.map fun x:Nat=>Value.int .u32 (x:Int)) hs hown ad m c (news.map fun x:Nat=>Value.int .u32 (x:Int)) hx (by simpa using hl) hnews (fun u hu=>by
  obtain⟨y,_,rfl⟩:=List.mem_map.1 hu
  rfl) hm (by unfold maxLen;omega) (by omega) hB _ rfl ?_
 intro g cap w' o1 g1 e1 _
 have hb:B<=g:=by
  rcases o1.2 with⟨q,_⟩ | ⟨g2,_,_,q,hb,_⟩
  ·cases q
  ·injection q with q1 q2 q3
   injection q1 with q4
   injection q4 with q5
   omega
 refine h g cap w' ?_ g1 e1 hb
 unfold Own
 rw[List.length_append,List.map_append,hl]
 exact o1
end T32
end
section
open Go.RowKit Go.Deep
namespace Ti
theorem lZ(m:Nat)(w:World):Calls prog 18 #[.int .i64 (m:Int)] w fun e w'=>e=.returned (.int .i64 ((sideN m:Nat):Int))/\w'=w:=by
 obtain⟨s,hs⟩:=aB (sideN m)
 have SC:=hid (cH m)
 rw[hs]at SC ⊢
 clear hs
 go_enter func18,ntmps18
 go_wp2
 go_loopw [3] (fun iv wr=> ∃c:Nat,1<=c/\c<=33/\iv=.int .i64 (c:Nat)/\(∀i,1<=i->i<c->i*i≠m)/\wr=w) (fun iv _=>33 - (intOf iv).toNat)
 case atStart=>exact⟨1,by omega,by omega,rfl,fun i h1 hi=>by omega,rfl⟩
 case round=>
  obtain⟨c,hc0,hc,rfl,g1,hwr⟩:=hrel
  have hwr2:=hwr.symm
  subst hwr2
  have G1:=hid g1
  clear g1
  by_cases hcn:c<33
  ·have hcI:(c:Int)<=32:=by omega
   have HC:=hid (show 1<=c/\c<33 from⟨hc0,hcn⟩)
   have p1:(c:Int)*c<=1024:=by
    have:c*c<=32*32:=Nat.mul_le_mul (by omega) (by omega)
    have e:((c*c:Nat):Int)=(c:Int)*c:=Int.natCast_mul c c
    omega
   have p0:0<=(c:Int)*c:=Int.mul_nonneg (by omega) (by omega)
   obtain⟨q,hq⟩: ∃q:Int,(c:Int)*c=q:=⟨_,rfl⟩
   have hqN:((c*c:Nat):Int)=q:=by rw[<- hq];exact Int.natCast_mul c c
   have HN:=hid hqN
   clear hqN hcn hc hc0
   by_cases e:c*c=m
   ·have e1:(q==(m:Int))=true:=by rw[<- HN.out,e];simp
    have e2:s=c:=by
     rcases SC.out with⟨z,h⟩ | ⟨h1,h2,h3⟩
     ·exact absurd e (h c HC.out.1 (by have:=HC.out;omega))
     ·exact mR (h3.trans e.symm)
    have E2:=hid e2
    clear e e2
    go_wp2
    go_ret
    exact⟨by rw[E2.out];rfl,by first | trivial | rfl⟩
   ·have e1:(q==(m:Int))=false:=by
     have:=HN.out
     simp
     omega
    have E:=hid e
    clear e
    go_wp2
    refine⟨⟨c+1,by omega,by have:=HC.out;omega,by simp,fun i h1 hi=> ?_,by first | trivial | rfl⟩,by have:=HC.out;simp[intOf];omega⟩
    by_cases l:i<c
    ·exact G1.out i h1 l
    ·rw[show i=c by omega];exact E.out
  ·have e6:c=33:=by omega
   subst e6
   have z:s=0:=by
    rcases SC.out with⟨z,_⟩ | ⟨h1,h2,h3⟩
    ·exact z
    ·exact absurd h3 (G1.out s h1 (by omega))
   have Z:=hid z
   clear z
   go_wp2
   go_ret
   exact⟨by rw[Z.out];rfl,by first | trivial | rfl⟩
theorem rends_at(b o n cp:Nat)(f:Nat->Nat)(w:World)(hn:n+1<=70368744177664)(hf:IsW .u32 4294967296 w (some ⟨b,o,none⟩) (n+1) f):
  Calls prog 29 #[.slice (some ⟨b,o,none⟩) (n+1:Nat) cp] w fun e w'=>e=.returned (.tuple #[.int .u32 ((lo f n:Nat):Int),.int .u32 ((hi f n:Nat):Int)])/\w'=w:=by
 have HF:=hid hf
 have HN:=hid hn
 have c0:w.cell? ⟨b,o,none⟩=some (.int .u32 ((f 0:Nat):Int)):=(hf.at0 (k:=0) (by omega)).2.2
 obtain⟨x0,hx0⟩:=aB (f 0)
 rw[hx0]at c0
 have X0:=hid hx0
 obtain⟨L,hL⟩:=aB (n+1)
 have EL:=hid hL
 rw[hL]
 have L0:(0:Int)<(L:Int):=by omega
 clear hf hx0 hL hn
 go_enter func29,ntmps29
 go_wp2
 go_loopw [4,5,6] (fun lv mv iv wr=> ∃k:Nat,k<=n/\iv=.int .i64 (((k+1:Nat):Int))/\lv=.int .u32 ((lo f k:Nat):Int)/\mv=.int .u32 ((hi f k:Nat):Int)/\wr=w) (fun _ _ iv _=>n+1 - (intOf iv).toNat)
 case atStart=>exact⟨0,by omega,rfl,by rw[<- X0.out];rfl,by rw[<- X0.out];rfl,rfl⟩
 case round=>
  obtain⟨k,hk,rfl,rfl,rfl,hwr⟩:=hrel
  have hwr2:=hwr.symm
  subst hwr2
  clear c0
  obtain⟨j,hj⟩:=aB (k+1)
  rw[hj]
  by_cases hlt:k<n
  ·have cn:=(HF.out.at0 (k:=k+1) (by omega)).2.2
   obtain⟨l,hl⟩:=aB (lo f k)
   obtain⟨m,hm⟩:=aB (hi f k)
   obtain⟨x,hx⟩:=aB (f (k+1))
   have e1:lo f (k+1)=min l x:=by show min _ _=_;rw[hl,hx]
   have e2:hi f (k+1)=max m x:=by show max _ _=_;rw[hm,hx]
   rw[hx,hj]at cn
   rw[hl,hm]
   have HJ:=hid (show k+1=j/\k<n from⟨hj,hlt⟩)
   have jI:(j:Int)<(L:Int):=by have:=EL.out;omega
   have jI0:(0:Int)<=(j:Int):=by omega
   have jB:(j:Int)<=70368744177664:=by have:=EL.out;have:=HN.out;omega
   have E1:=hid e1
   have E2:=hid e2
   clear hl hm hx e1 e2 hlt hk hj
   by_cases c1:x<l
   ·have d1:decide ((x:Int)<(l:Int))=true:=decide_eq_true (by omega)
    have d1n:decide (x<l)=true:=decide_eq_true c1
    have F1:Hid (lo f (k+1)=x):=by show _=_;rw[E1.out];omega
    clear c1
    by_cases c2:m<x
    ·have d2:decide ((m:Int)<(x:Int))=true:=decide_eq_true (by omega)
     have d2n:decide (m<x)=true:=decide_eq_true c2
     have F2:Hid (hi f (k+1)=x):=by show _=_;rw[E2.out];omega
     clear c2
     go_wp2
     exact⟨⟨k+1,HJ.out.2,by rw[<- HJ.out.1];simp,by rw[F1.out],by rw[F2.out],by first | trivial | rfl⟩,by have:=HJ.out;simp[intOf];omega⟩
    ·have d2:decide ((m:Int)<(x:Int))=false:=decide_eq_false (by omega)
     have d2n:decide (m<x)=false:=decide_eq_false c2
     have F2:Hid (hi f (k+1)=m):=by show _=_;rw[E2.out];omega
     clear c2
     go_wp2
     exact⟨⟨k+1,HJ.out.2,by rw[<- HJ.out.1];simp,by rw[F1.out],by rw[F2.out],by first | trivial | rfl⟩,by have:=HJ.out;simp[intOf];omega⟩
   ·have d1:decide ((x:Int)<(l:Int))=false:=decide_eq_false (by omega)
    have d1n:decide (x<l)=false:=decide_eq_false c1
    have F1:Hid (lo f (k+1)=l):=by show _=_;rw[E1.out];omega
    clear c1
    by_cases c2:m<x
    ·have d2:decide ((m:Int)<(x:Int))=true:=decide_eq_true (by omega)
     have d2n:decide (m<x)=true:=decide_eq_true c2
     have F2:Hid (hi f (k+1)=x):=by show _=_;rw[E2.out];omega
     clear c2
     go_wp2
     exact⟨⟨k+1,HJ.out.2,by rw[<- HJ.out.1];simp,by rw[F1.out],by rw[F2.out],by first | trivial | rfl⟩,by have:=HJ.out;simp[intOf];omega⟩
    ·have d2:decide ((m:Int)<(x:Int))=false:=decide_eq_false (by omega)
     have d2n:decide (m<x)=false:=decide_eq_false c2
     have F2:Hid (hi f (k+1)=m):=by show _=_;rw[E2.out];omega
     clear c2
     go_wp2
     exact⟨⟨k+1,HJ.out.2,by rw[<- HJ.out.1];simp,by rw[F1.out],by rw[F2.out],by first | trivial | rfl⟩,by have:=HJ.out;simp[intOf];omega⟩
  ·have e:n=k:=by omega
   subst e
   have e2:L=j:=by have:=EL.out;omega
   subst e2
   clear hj hlt hk
   go_wp2
   go_ret2
   exact⟨rfl,by first | trivial | rfl⟩
theorem good_0(face:Int)(ls ms:Nat)(p:Option Addr)(m cp:Nat)(hf0:face<0)(w:World)
  :Calls prog 17 #[.agg #[.int .i64 face,.int .u32 (ls:Int),.int .u32 (ms:Int),.slice p m cp]] w fun e w'=>e=.returned (.bool false)/\Below w.heap.size w w':=by
 obtain⟨A0,R0⟩:=aD w (.cells #[.int .i64 face,.int .u32 (ls:Int),.int .u32 (ms:Int),.slice p m cp] 25)
 go_enter func17,ntmps17
 go_upto_region 1 with fail
 generalize hW:World.alloc w _=V0 at*
 obtain⟨gw,hgw⟩:=aB w.heap.size
 rw[hgw]at R0 ⊢
 clear hgw hW
 have y0:=aA 0 R0.out
 have y1:=aA 1 R0.out
 have y2:=aA 2 R0.out
 have y3:=aA 3 R0.out
 go_wp2
 go_ret
 exact⟨rfl,A0.out⟩
theorem good_1(face:Int)(ls ms:Nat)(p:Option Addr)(m cp:Nat)(hf0: ¬face<0)(hf5:(5:Int)<face)(w:World)
  :Calls prog 17 #[.agg #[.int .i64 face,.int .u32 (ls:Int),.int .u32 (ms:Int),.slice p m cp]] w fun e w'=>e=.returned (.bool false)/\Below w.heap.size w w':=by
 obtain⟨A0,R0⟩:=aD w (.cells #[.int .i64 face,.int .u32 (ls:Int),.int .u32 (ms:Int),.slice p m cp] 25)
 go_enter func17,ntmps17
 go_upto_region 1 with fail
 generalize hW:World.alloc w _=V0 at*
 obtain⟨gw,hgw⟩:=aB w.heap.size
 rw[hgw]at R0 ⊢
 clear hgw hW
 have y0:=aA 0 R0.out
 have y1:=aA 1 R0.out
 have y2:=aA 2 R0.out
 have y3:=aA 3 R0.out
 go_wp2
 go_ret
 exact⟨rfl,A0.out⟩
theorem good_2(face:Int)(ls ms:Nat)(p:Option Addr)(m cp:Nat)(hf0: ¬face<0)(hf5: ¬(5:Int)<face)(sd:Nat)(hs:(((sd:Nat):Int)==(0:Int))=true)(w:World)
  (CS:Hid (∀v,Calls prog 18 #[.int .i64 (m:Int)] v fun e w'=>e=.returned (.int .i64 ((sd:Nat):Int))/\w'=v))
  :Calls prog 17 #[.agg #[.int .i64 face,.int .u32 (ls:Int),.int .u32 (ms:Int),.slice p m cp]] w fun e w'=>e=.returned (.bool false)/\Below w.heap.size w w':=by
 obtain⟨A0,R0⟩:=aD w (.cells #[.int .i64 face,.int .u32 (ls:Int),.int .u32 (ms:Int),.slice p m cp] 25)
 go_enter func17,ntmps17
 go_upto_region 1 with fail
 generalize hW:World.alloc w _=V0 at*
 obtain⟨gw,hgw⟩:=aB w.heap.size
 rw[hgw]at R0 ⊢
 clear hgw hW
 have y0:=aA 0 R0.out
 have y1:=aA 1 R0.out
 have y2:=aA 2 R0.out
 have y3:=aA 3 R0.out
 go_wp2_with fail
 refine(CS.out V0).mono ?_
 rintro e9 v9 ⟨rfl,hv9⟩
 have hv8:=hv9.symm
 subst hv8
 go_wp2
 go_ret
 exact⟨rfl,A0.out⟩
theorem good_3(face:Int)(ls ms:Nat)(p:Option Addr)(m cp:Nat)(hf0: ¬face<0)(hf5: ¬(5:Int)<face)(sd:Nat)(hs:(((sd:Nat):Int)==(0:Int))=false)(l1 m1:Nat)(h1:decide ((m1:Int)<2139095040)=false)(w:World)
  (CS:Hid (∀v,Calls prog 18 #[.int .i64 (m:Int)] v fun e w'=>e=.returned (.int .i64 ((sd:Nat):Int))/\w'=v))
  (CE:Hid (∀v,Ab w v->Calls prog 29 #[.slice p m cp] v fun e w'=>e=.returned (.tuple #[.int .u32 (l1:Nat),.int .u32 (m1:Nat)])/\w'=v))
  :Calls prog 17 #[.agg #[.int .i64 face,.int .u32 (ls:Int),.int .u32 (ms:Int),.slice p m cp]] w fun e w'=>e=.returned (.bool false)/\Below w.heap.size w w':=by
 obtain⟨A0,R0⟩:=aD w (.cells #[.int .i64 face,.int .u32 (ls:Int),.int .u32 (ms:Int),.slice p m cp] 25)
 go_enter func17,ntmps17
 go_upto_region 1 with fail
 generalize hW:World.alloc w _=V0 at*
 obtain⟨gw,hgw⟩:=aB w.heap.size
 rw[hgw]at R0 ⊢
 clear hgw hW
 have y0:=aA 0 R0.out
 have y1:=aA 1 R0.out
 have y2:=aA 2 R0.out
 have y3:=aA 3 R0.out
 go_wp2_with fail
 refine(CS.out V0).mono ?_
 rintro e9 v9 ⟨rfl,hv9⟩
 have hv8:=hv9.symm
 subst hv8
 go_wp2_with fail
 refine(CE.out V0 A0.out).mono ?_
 rintro e9 v9 ⟨rfl,hv9⟩
 have hv8:=hv9.symm
 subst hv8
 go_wp2
 go_ret
 exact⟨rfl,A0.out⟩
theorem good_4(face:Int)(ls ms:Nat)(p:Option Addr)(m cp:Nat)(hf0: ¬face<0)(hf5: ¬(5:Int)<face)(sd:Nat)(hs:(((sd:Nat):Int)==(0:Int))=false)(l1 m1:Nat)(h1:decide ((m1:Int)<2139095040)=true)(h2:((ls:Int)==(l1:Int))=false)(w:World)
  (CS:Hid (∀v,Calls prog 18 #[.int .i64 (m:Int)] v fun e w'=>e=.returned (.int .i64 ((sd:Nat):Int))/\w'=v))
  (CE:Hid (∀v,Ab w v->Calls prog 29 #[.slice p m cp] v fun e w'=>e=.returned (.tuple #[.int .u32 (l1:Nat),.int .u32 (m1:Nat)])/\w'=v))
  :Calls prog 17 #[.agg #[.int .i64 face,.int .u32 (ls:Int),.int .u32 (ms:Int),.slice p m cp]] w fun e w'=>e=.returned (.bool false)/\Below w.heap.size w w':=by
 obtain⟨A0,R0⟩:=aD w (.cells #[.int .i64 face,.int .u32 (ls:Int),.int .u32 (ms:Int),.slice p m cp] 25)
 go_enter func17,ntmps17
 go_upto_region 1 with fail
 generalize hW:World.alloc w _=V0 at*
 obtain⟨gw,hgw⟩:=aB w.heap.size
 rw[hgw]at R0 ⊢
 clear hgw hW
 have y0:=aA 0 R0.out
 have y1:=aA 1 R0.out
 have y2:=aA 2 R0.out
 have y3:=aA 3 R0.out
 go_wp2_with fail
 refine(CS.out V0).mono ?_
 rintro e9 v9 ⟨rfl,hv9⟩
 have hv8:=hv9.symm
 subst hv8
 go_wp2_with fail
 refine(CE.out V0 A0.out).mono ?_
 rintro e9 v9 ⟨rfl,hv9⟩
 have hv8:=hv9.symm
 subst hv8
 go_wp2
 go_ret
 exact⟨rfl,A0.out⟩
theorem good_5(face:Int)(ls ms:Nat)(p:Option Addr)(m cp:Nat)(hf0: ¬face<0)(hf5: ¬(5:Int)<face)(sd:Nat)(hs:(((sd:Nat):Int)==(0:Int))=false)(l1 m1:Nat)(h1:decide ((m1:Int)<2139095040)=true)(h2:((ls:Int)==(l1:Int))=true)(r:Bool)(h3:((ms:Int)==(m1:Int))=r)(w:World)
  (CS:Hid (∀v,Calls prog 18 #[.int .i64 (m:Int)] v fun e w'=>e=.returned (.int .i64 ((sd:Nat):Int))/\w'=v))
  (CE:Hid (∀v,Ab w v->Calls prog 29 #[.slice p m cp] v fun e w'=>e=.returned (.tuple #[.int .u32 (l1:Nat),.int .u32 (m1:Nat)])/\w'=v))
  :Calls prog 17 #[.agg #[.int .i64 face,.int .u32 (ls:Int),.int .u32 (ms:Int),.slice p m cp]] w fun e w'=>e=.returned (.bool r)/\Below w.heap.size w w':=by
 obtain⟨A0,R0⟩:=aD w (.cells #[.int .i64 face,.int .u32 (ls:Int),.int .u32 (ms:Int),.slice p m cp] 25)
 go_enter func17,ntmps17
 go_upto_region 1 with fail
 generalize hW:World.alloc w _=V0 at*
 obtain⟨gw,hgw⟩:=aB w.heap.size
 rw[hgw]at R0 ⊢
 clear hgw hW
 have y0:=aA 0 R0.out
 have y1:=aA 1 R0.out
 have y2:=aA 2 R0.out
 have y3:=aA 3 R0.out
 go_wp2_with fail
 refine(CS.out V0).mono ?_
 rintro e9 v9 ⟨rfl,hv9⟩
 have hv8:=hv9.symm
 subst hv8
 go_wp2_with fail
 refine(CE.out V0 A0.out).mono ?_
 rintro e9 v9 ⟨rfl,hv9⟩
 have hv8:=hv9.symm
 subst hv8
 have H3:=hid h3
 clear h3
 go_wp2
 go_ret
 exact⟨by rw[<- H3.out];rfl,A0.out⟩
theorem gI(face:Int)(ls ms:Nat)(p:Option Addr)(m cp:Nat)(f:Nat->Nat)(w:World)(hm:m<=70368744177664)(hf:IsW .u32 4294967296 w p m f):
  Calls prog 17 #[.agg #[.int .i64 face,.int .u32 (ls:Int),.int .u32 (ms:Int),.slice p m cp]] w fun e w'=>e=.returned (.bool (okT face m f ls ms))/\Below w.heap.size w w':=by
 have CS:=fun v=>lZ m v
 by_cases c1:0<=face/\face<6
 ·by_cases c2:sideN m=0
  ·rw[show okT face m f ls ms=false by unfold okT;simp[c2]]
   exact good_2 face ls ms p m cp (by omega) (by omega) (sideN m) (by rw[c2];rfl) w (hid CS)
  ·have s0:(((sideN m:Nat):Int)==(0:Int))=false:=by simp;exact c2
   have m0:1<=m:=by
    rcases Nat.eq_zero_or_pos m with z | z
    ·subst z;exact absurd (by decide+kernel) c2
    ·exact z
   obtain⟨b,o,rfl⟩:=hf.some0 m0
   obtain⟨n,rfl⟩: ∃n,m=n+1:=⟨m - 1,by omega⟩
   have CE:=fun v (a:Ab w v)=>rends_at b o n cp f v hm (hf.below a)
   by_cases c3:hi f n<2139095040
   ·have ff:fits (n+1) f=true:=cS.2 fun k hk=>Nat.lt_of_le_of_lt (le_hi f n k (by omega)) c3
    have e:okT face (n+1) f ls ms=(decide (ls=lo f n)&&decide (ms=hi f n)):=by unfold okT;rw[ff,decide_eq_true c1,decide_eq_true c2];rfl
    rw[e]
    by_cases c4:ls=lo f n
    ·rw[decide_eq_true c4,Bool.true_and]
     exact good_5 face ls ms _ (n+1) cp (by omega) (by omega) (sideN (n+1)) s0 _ _ (decide_eq_true (by omega)) (by simp;omega) (decide (ms=hi f n)) (by rw[Bool.eq_iff_iff];simp;omega) w (hid CS) (hid CE)
    ·rw[decide_eq_false c4,Bool.false_and]
     exact good_4 face ls ms _ (n+1) cp (by omega) (by omega) (sideN (n+1)) s0 _ _ (decide_eq_true (by omega)) (by simp;omega) w (hid CS) (hid CE)
   ·have ff:fits (n+1) f=false:=by
     cases h:fits (n+1) f with
     | false=>rfl
     | true=>exact absurd (hP (fun k hk=>cS.1 h k (by omega))) c3
    rw[show okT face (n+1) f ls ms=false by unfold okT;rw[ff];simp]
    exact good_3 face ls ms _ (n+1) cp (by omega) (by omega) (sideN (n+1)) s0 _ _ (decide_eq_false (by omega)) w (hid CS) (hid CE)
 ·have e:okT face m f ls ms=false:=by unfold okT;rw[decide_eq_false c1];rfl
  rw[e]
  by_cases c5:face<0
  ·exact good_0 face ls ms p m cp c5 w
  ·exact good_1 face ls ms p m cp c5 (by omega) w
end Ti
end
section
open Go.RowKit Go.Deep
namespace Ti
theorem range_4(E:Nat->Nat)(K:Nat){a b c d:Nat}(h0:a=E K)(h1:b=E (K+1))(h2:c=E (K+2))(h3:d=E (K+3)):(List.range K).map E++[a,b,c,d]=(List.range (K+4)).map E:=by
 rw[show K+4=K+1+1+1+1 from rfl,List.range_succ,List.range_succ,List.range_succ,List.range_succ,h0,h1,h2,h3]
 simp
theorem word_at(B:Nat)(v:Value)(l:List Nat)(x:Nat)(w:World)(hx:x<4294967296)(hown:T8.Own B v l w)(hlen:l.length+4<=1048576)(hB:B<=w.heap.size):
  Calls prog 19 #[v,.int .u32 (x:Int)] w fun e w'=> ∃g c,e=.returned (.slice (some ⟨g,0,none⟩) (l.length+4) c)/\T8.Own B (.slice (some ⟨g,0,none⟩) (l.length+4) c) (l++[byt x 0,byt x 1,byt x 2,byt x 3]) w'/\Below B w w':=by
 obtain⟨e0,e1,e2,e3⟩:=bytI hx
 obtain⟨b0,h0⟩:=aB (byt x 0)
 obtain⟨b1,h1⟩:=aB (byt x 1)
 obtain⟨b2,h2⟩:=aB (byt x 2)
 obtain⟨b3,h3⟩:=aB (byt x 3)
 rw[h0]at e0
 rw[h1]at e1
 rw[h2]at e2
 rw[h3]at e3
 rw[h0,h1,h2,h3]
 have HO:=hid hown
 have HL:=hid (show l.length+4<=1048576/\B<=w.heap.size from⟨hlen,hB⟩)
 have x0:(0:Int)<=(x:Int):=by omega
 have x1:(x:Int)<4294967296:=by omega
 have e0':=e0.symm
 have e1':=e1.symm
 have e2':=e2.symm
 have e3':=e3.symm
 clear e0 e1 e2 e3 h0 h1 h2 h3 hown hlen hB hx
 have x2:(0:Int)<=(x:Int)/256:=by omega
 have x3:(0:Int)<=(x:Int)/65536:=by omega
 have x4:(x:Int)/16777216<256:=by omega
 have x5:(0:Int)<=(x:Int)/16777216:=by omega
 have NW: ∀j u,([b0,b1,b2,b3].map fun x:Nat=>Value.int .u8 (x:Int))[j]? =some u->(w.alloc (.cells #[.int .u8 (b0:Int),.int .u8 (b1:Int),.int .u8 (b2:Int),.int .u8 (b3:Int)] 5)).cell? ((⟨w.heap.size,0,none⟩:Addr).add j)=some u:=World.news_of_block (cs:= #[.int .u8 (b0:Int),.int .u8 (b1:Int),.int .u8 (b2:Int),.int .u8 (b3:Int)]) (t:=5) (fr:=(0,0)) (heap_alloc_new _ _)
 have NH:=hid NW
 clear NW
 have BT:Hid ((x:Int)%256=(b0:Int)/\(x:Int)/256%256=(b1:Int)/\(x:Int)/65536%256=(b2:Int)/\(x:Int)/16777216=(b3:Int)):=⟨e0',e1',e2',e3'⟩
 have f0:=BT.out.1
 have f1:=BT.out.2.1
 have f2:=BT.out.2.2.1
 have f3:=BT.out.2.2.2
 clear e0' e1' e2' e3'
 go_enter func19,ntmps19
 go_wp2_with (at_builtin;refine T8.dD rfl (.tmp 5) (.tmp 20) rfl B v l rfl (HO.out.alloc _) ⟨w.heap.size,0,none⟩ 4 4 [b0,b1,b2,b3] rfl rfl NH.out (by decide) HL.out.1 (by have:=HL.out.2;simp;omega) (l.length+4) rfl ?_;intro g c w4 o4 g4 e4 l4)
 go_ret
 exact⟨g,c,rfl,o4,((Below.refl _ _).alloc HL.out.2 _).grown g4 (by have:=HL.out.2;simp;omega) (fun k hk=>(World.ownsRow.lt HO.out k hk).1)⟩
theorem jH(b o L cp:Nat)(f:Nat->Nat)(w:World)(hL:4<=L)(hf:IsW .u8 256 w (some ⟨b,o,none⟩) L f):
  Calls prog 23 #[.slice (some ⟨b,o,none⟩) L cp] w fun e w'=>e=.returned (.int .u32 ((num f 0:Nat):Int))/\ ∃k,w'=w.drewN k:=by
 have z0:w.cell? ⟨b,o,none⟩=some (.int .u8 ((f 0:Nat):Int)):=(hf.at0 (k:=0) (by omega)).2.2
 have z1:w.cell? ⟨b,o+1,none⟩=some (.int .u8 ((f 1:Nat):Int)):=(hf.at0 (k:=1) (by omega)).2.2
 have z2:w.cell? ⟨b,o+2,none⟩=some (.int .u8 ((f 2:Nat):Int)):=(hf.at0 (k:=2) (by omega)).2.2
 have z3:w.cell? ⟨b,o+3,none⟩=some (.int .u8 ((f 3:Nat):Int)):=(hf.at0 (k:=3) (by omega)).2.2
 have a0:=(hf.at0 (k:=0) (by omega)).1
 have a1:=(hf.at0 (k:=1) (by omega)).1
 have a2:=(hf.at0 (k:=2) (by omega)).1
 have a3:=(hf.at0 (k:=3) (by omega)).1
 have E:num f 0=f 0+256*f 1+65536*f 2+16777216*f 3:=rfl
 obtain⟨y0,h0⟩:=aB (f 0)
 obtain⟨y1,h1⟩:=aB (f 1)
 obtain⟨y2,h2⟩:=aB (f 2)
 obtain⟨y3,h3⟩:=aB (f 3)
 rw[h0]at z0 a0 E
 rw[h1]at z1 a1 E
 rw[h2]at z2 a2 E
 rw[h3]at z3 a3 E
 have b0:(0:Int)<=(y0:Int):=by omega
 have b1:(0:Int)<=(y1:Int):=by omega
 have b2:(0:Int)<=(y2:Int):=by omega
 have b3:(0:Int)<=(y3:Int):=by omega
 have c0:(y0:Int)<256:=by omega
 have c1:(y1:Int)<256:=by omega
 have c2:(y2:Int)<256:=by omega
 have c3:(y3:Int)<256:=by omega
 have l0:(4:Int)<=(L:Int):=by omega
 have l1:(0:Int)<(L:Int):=by omega
 have l2:(1:Int)<(L:Int):=by omega
 have l3:(2:Int)<(L:Int):=by omega
 have l4:(3:Int)<(L:Int):=by omega
 have HE:Hid (((num f 0:Nat):Int)=(y0:Int)+256*(y1:Int)+65536*(y2:Int)+16777216*(y3:Int)):=by show _=_;rw[E];omega
 clear h0 h1 h2 h3 E a0 a1 a2 a3 hf hL
 go_enter func23,ntmps23
 go_wp2_with fail
 go_region
 go_wp2
 go_ret
 exact⟨by rw[HE.out];rfl,1,rfl⟩
end Ti
end
section
open Go.RowKit Go.Deep
namespace Ti
theorem renc_no(face:Int)(ls ms:Nat)(p:Option Addr)(m cp:Nat)(w:World)
  (CB:Hid (∀v,Ab w v->Calls prog 17 #[.agg #[.int .i64 face,.int .u32 (ls:Int),.int .u32 (ms:Int),.slice p m cp]] v fun e w'=>e=.returned (.bool false)/\Below v.heap.size v w')):
  Calls prog 6 #[.agg #[.int .i64 face,.int .u32 (ls:Int),.int .u32 (ms:Int),.slice p m cp]] w fun e w'=>e=.returned (.tuple #[.slice none 0 0,.int .i64 1])/\Below w.heap.size w w':=by
 obtain⟨A0,R0⟩:=aD w (.cells #[.int .i64 face,.int .u32 (ls:Int),.int .u32 (ms:Int),.slice p m cp] 25)
 go_enter func6,ntmps6
 go_upto_region 1 with fail
 generalize hW:World.alloc w _=V0 at*
 obtain⟨gw,hgw⟩:=aB w.heap.size
 rw[hgw]at R0 ⊢
 clear hgw hW
 have y0:=aA 0 R0.out
 have y1:=aA 1 R0.out
 have y2:=aA 2 R0.out
 have y3:=aA 3 R0.out
 go_wp2_with fail
 refine(CB.out V0 A0.out).mono ?_
 rintro e9 v1 ⟨rfl,b1⟩
 have A1:Hid (Ab w v1):=Ab.trans A0.out b1
 clear b1 y0 y1 y2 y3
 go_wp2
 go_ret2
 exact⟨rfl,A1.out⟩
theorem enc_ls{fc n ls ms i:Nat}{f:Nat->Nat}(hi:i<4):byt ls i=enc fc n ls ms f (6+i):=by
 unfold enc
 rw[if_neg (by omega),if_pos (by omega),show 6+i - 6=i by omega]
theorem enc_ms{fc n ls ms i:Nat}{f:Nat->Nat}(hi:i<4):byt ms i=enc fc n ls ms f (10+i):=by
 unfold enc
 rw[if_neg (by omega),if_neg (by omega),if_pos (by omega),show 10+i - 10=i by omega]
theorem enc_cl{fc n ls ms i k:Nat}{f:Nat->Nat}(hi:i<4):byt (xr f k) i=enc fc n ls ms f (14+4*k+i):=by
 unfold enc
 rw[if_neg (by omega),if_neg (by omega),if_neg (by omega),show(14+4*k+i - 14)/4=k by omega,show(14+4*k+i - 14)%4=i by omega]
theorem fM{W u v:World}(h:Ab W u)(b:Below W.heap.size u v):Ab W v:=Below.trans h b
theorem qA{B C:Nat}{v:Value}{l:List Nat}{w:World}(h:T8.Own B v l w)(hc:C<=B):T8.Own C v l w:=by
 refine⟨h.1,?_⟩
 rcases h.2 with h0 | ⟨g,cap,cur,e,hb',rest⟩
 ·exact .inl h0
 ·exact .inr ⟨g,cap,cur,e,by omega,rest⟩
theorem wordE(B:Nat)(v:Value)(E:Nat->Nat)(K x:Nat)(w:World)(hx:x<4294967296)(hE: ∀i,i<4->byt x i=E (K+i))(hown:T8.Own B v ((List.range K).map E) w)(hlen:K+4<=1048576)(hB:B<=w.heap.size):
  Calls prog 19 #[v,.int .u32 (x:Int)] w fun e w'=> ∃g c,e=.returned (.slice (some ⟨g,0,none⟩) (K+4) c)/\T8.Own B (.slice (some ⟨g,0,none⟩) (K+4) c) ((List.range (K+4)).map E) w'/\Below B w w':=by
 have q:=word_at B v _ x w hx hown (by simpa using hlen) hB
 rw[range_4 E K (hE 0 (by omega)) (hE 1 (by omega)) (hE 2 (by omega)) (hE 3 (by omega)),List.length_map,List.length_range]at q
 exact q
theorem own_e{w:World}{B:Nat}(hB:B<=w.heap.size):T8.Own B (.slice (some ⟨w.heap.size,0,none⟩) 0 0) [] (w.alloc (.cells #[] 5)):=
 ⟨by simp,.inr ⟨w.heap.size,0,#[],rfl,hB,heap_alloc_new _ _,Nat.le_refl _,by unfold maxLen;omega,by simp,by simp⟩⟩
theorem range_2(E:Nat->Nat)(K:Nat){a b:Nat}(h0:a=E K)(h1:b=E (K+1)):(List.range K).map E++[a,b]=(List.range (K+2)).map E:=by
 rw[show K+2=K+1+1 from rfl,List.range_succ,List.range_succ,h0,h1]
 simp
theorem renc_yes(fc ls ms pb po m cp n N:Nat)(f:Nat->Nat)(w:World)(hfc:fc<6)(hls:ls<4294967296)(hms:ms<4294967296)(hn:n<=32)(hm:1<=m/\m<=1024)(hN:14+4*m=N)(hf:IsW .u32 4294967296 w (some ⟨pb,po,none⟩) m f)
  (CB:Hid (∀v,Ab w v->Calls prog 17 #[.agg #[.int .i64 (fc:Int),.int .u32 (ls:Int),.int .u32 (ms:Int),.slice (some ⟨pb,po,none⟩) m cp]] v fun e w'=>e=.returned (.bool true)/\Below v.heap.size v w'))
  (CS:Hid (∀v,Calls prog 18 #[.int .i64 (m:Int)] v fun e w'=>e=.returned (.int .i64 (n:Int))/\w'=v)):
  Calls prog 6 #[.agg #[.int .i64 (fc:Int),.int .u32 (ls:Int),.int .u32 (ms:Int),.slice (some ⟨pb,po,none⟩) m cp]] w fun e w'=> ∃g c,e=.returned (.tuple #[.slice (some ⟨g,0,none⟩) N c,.int .i64 0])/\Below w.heap.size w w'/\T8.Own w.heap.size (.slice (some ⟨g,0,none⟩) N c) ((List.range N).map (enc fc n ls ms f)) w':=by
 obtain⟨E,hE⟩:=aB (enc fc n ls ms f)
 have HE:=hid hE
 have HN:=hid (show 14+4*m=N/\1<=m/\m<=1024/\fc<6/\n<=32 from⟨hN,hm.1,hm.2,hfc,hn⟩)
 have HX:=hid (show ls<4294967296/\ms<4294967296 from⟨hls,hms⟩)
 have HF:=hid hf
 rw[hE]
 have fc0:(0:Int)<=(fc:Int):=by omega
 have fc1:(fc:Int)<6:=by omega
 have n0:(0:Int)<=(n:Int):=by omega
 have n1:(n:Int)<=32:=by omega
 clear hN hm hfc hn hls hms hf hE
 obtain⟨i0,hi,hz⟩:=Option.map_eq_some_iff.1 gA
 simp only[Prod.mk.injEq]at hz
 have IP:=hid (show Try.prog.info? 5=some i0/\i0.zero=some (.int .u8 0)/\i0.size=1/\i0.bytes=1 from⟨hi,hz.1,hz.2.1,hz.2.2⟩)
 clear hi hz
 obtain⟨A0,R0⟩:=aD w (.cells #[.int .i64 (fc:Int),.int .u32 (ls:Int),.int .u32 (ms:Int),.slice (some ⟨pb,po,none⟩) m cp] 25)
 go_enter func6,ntmps6
 go_upto_region 1 with fail
 generalize hW:World.alloc w _=V0 at*
 obtain⟨gw,hgw⟩:=aB w.heap.size
 rw[hgw]at R0 ⊢
 have HGW:=hid hgw
 clear hgw hW
 have y0:=aA 0 R0.out
 have y1:=aA 1 R0.out
 have y2:=aA 2 R0.out
 have y3:=aA 3 R0.out
 go_wp2_with fail
 refine(CB.out V0 A0.out).mono ?_
 rintro e9 v1 ⟨rfl,b1⟩
 have A1:Hid (Ab w v1):=Ab.trans A0.out b1
 have R1:=hid (Ab.heap b1 R0.out)
 clear b1 y0 y1 y2 y3 A0 R0 CB
 have O2:Hid (T8.Own v1.heap.size (.slice (some ⟨v1.heap.size,0,none⟩) 0 0) [] (v1.alloc (.cells #[] 5))):=own_e (Nat.le_refl _)
 have A2:=hO (bl1 v1 (.cells #[] 5))
 go_upto_region 4 with fail
 generalize hV:World.alloc v1 _=v2 at*
 obtain⟨g2,hg2⟩:=aB v1.heap.size
 have HG2:=hid hg2
 rw[hg2]at O2 ⊢
 clear hV hg2
 go_upto_region 5 with(at_builtin;refine Go.Lib.wpList_append_own_string _ rfl (.tmp 11) (.const (.string {data:= #[84,73,76,69]})) 26 9 rfl g2 5 i0 underlying26 underlying9 IP.out.1 IP.out.2.1 IP.out.2.2.1 IP.out.2.2.2 (.slice (some ⟨g2,0,none⟩) 0 0) 0 [] rfl O2.out {data:= #[84,73,76,69]} rfl (by show 0+4<=maxLen;unfold maxLen;omega) (by show 0+4<=140737488355328;omega) (by have:=HG2.out;have:=A2.out.size;omega) ?_;intro v' v3 o3 g3 e3)
 obtain⟨g,c3,rfl,hg3,-⟩:=World.ownsRow.form o3 (show 0<0+4 by omega)
 have A3:Hid (Ab v1 v3):=A2.out.grown g3 A2.out.size (fun k hk=>by simp[Value.ownBlock]at hk;have:=HG2.out;omega)
 have O3:Hid (T8.Own v1.heap.size (.slice (some ⟨g,0,none⟩) 4 c3) ((List.range 4).map E) v3):=by
  have e:(List.range 4).map E=[84,73,76,69]:=by rw[<- HE.out];rfl
  rw[e,HG2.out]
  exact o3
 clear o3 g3 e3 O2 A2 hg3
 have R3:=hid (A3.out.heap R1.out)
 have wf:IntKind.u8.wrap (fc:Int)=(fc:Int):=by show(fc:Int)%256=_;omega
 have wn:IntKind.u8.wrap (n:Int)=(n:Int):=by show(n:Int)%256=_;omega
 have KS:Hid (∀v,Ab v3 v->v.cell? ⟨gw,0,none⟩=some (.int .i64 (fc:Int))/\v.cell? ⟨gw,3,none⟩=some (.slice (some ⟨pb,po,none⟩) m cp)):=fun v a=>by
  have r:=a.heap R3.out
  exact⟨aA 0 r,aA 3 r⟩
 have X3:Ab v3 v3:=Ab.refl v3
 obtain⟨w1,w2⟩:=KS.out v3 X3
 go_wp2_with fail
 clear w1 w2
 go_region_held3 (fun v=>v.cell? ⟨gw,0,none⟩=some (.int .i64 (fc:Int))/\v.cell? ⟨gw,3,none⟩=some (.slice (some ⟨pb,po,none⟩) m cp)) (first | exact⟨by assumption,by assumption⟩ | (refine KS.out _ ?_;(with_reducible (repeat(first | assumption | apply Ab.drew | apply Ab.alloc)));done)) (first
  | (go_at_call 18;refine(CS.out _).mono ?_;rintro e9 z2 ⟨rfl,hz2⟩;have hz3:=hz2.symm;subst hz3)
  | (refine step_append_lies _ (by rfl) _ _ 26 (by rfl) v1.heap.size 5 i0 (.int .u8 0) 1 1 underlying26 IP.out.1 IP.out.2.1 IP.out.2.2.1 IP.out.2.2.2 rfl (by decide) _ 4 (((List.range 4).map E).map fun x:Nat=>Value.int .u8 (x:Int)) (by rfl) (World.ownsRow.alloc O3.out _) ⟨v3.heap.size,0,none⟩ 2 2 [.int .u8 (fc:Int),.int .u8 (n:Int)] (by rfl) (by rfl) (World.news_of_block (cs:= #[.int .u8 (fc:Int),.int .u8 (n:Int)]) (t:=5) (fr:=(0,0)) (heap_alloc_new _ _)) (by intro u hu;simp at hu;rcases hu with rfl | rfl<;>rfl) (by decide) (by unfold maxLen;omega) (by omega) (by have:=A3.out.size;simp;omega) _ rfl ?_;intro g5 c5 v5 o5 q5 e5 l5;have A5:Ab v1 v5:=Below.grown ((show Ab v1 _ by with_reducible (repeat(first | exact A3.out | apply Ab.drew | apply Ab.alloc)))) q5 (by have:=A3.out.size;simp;omega) (fun k hk=>(World.ownsRow.lt O3.out k hk).1);have rz:=Ab.heap A5 R1.out;have rz0:=aA 0 rz;have rz3:=aA 3 rz))
 have AH:=hid A5
 have O5:Hid (T8.Own v1.heap.size (.slice (some ⟨g5,0,none⟩) 6 c5) ((List.range 6).map E) v5):=by
  have e:=range_2 E 4 (a:=fc) (b:=n) (by rw[<- HE.out];rfl) (by rw[<- HE.out];rfl)
  have q:T8.Own v1.heap.size (.slice (some ⟨g5,0,none⟩) 6 c5) ((List.range 4).map E++[fc,n]) v5:=by
   unfold T8.Own
   rw[List.map_append]
   exact o5
  rw[e]at q
  exact q
 have R5:=hid rz
 clear o5 q5 e5 l5 A5 rz rz0 rz3 X3 KS O3 A3 R3
 have W5:=hid (wordE v1.heap.size _ E 6 ls v5 HX.out.1 (fun i hi=>by rw[<- HE.out];exact enc_ls hi) O5.out (by omega) AH.out.size)
 have y1:=aA 1 R5.out
 go_wp2_with fail
 refine W5.out.mono ?_
 rintro e9 v6 ⟨g6,c6,rfl,o6,b6⟩
 have A6:Hid (Ab v1 v6):=fM AH.out b6
 have R6:=hid (A6.out.heap R1.out)
 have O6:=hid o6
 clear o6 b6 W5 y1 O5 R5 AH
 have W6:=hid (wordE v1.heap.size _ E 10 ms v6 HX.out.2 (fun i hi=>by rw[<- HE.out];exact enc_ms hi) O6.out (by omega) A6.out.size)
 have y2:=aA 2 R6.out
 go_wp2_with fail
 refine W6.out.mono ?_
 rintro e9 v7 ⟨g7,c7,rfl,o7,b7⟩
 have A7:Hid (Ab v1 v7):=fM A6.out b7
 have O7:=hid o7
 clear o7 b7 W6 y2 O6 R6 A6
 have mI:(m:Int)<=1024:=by have:=HN.out;omega
 go_wp2
 go_loopw [4,5,6] (fun lv xv iv wr=> ∃k g c:Nat,k<=m/\iv=.int .i64 (k:Nat)/\xv=.int .u32 ((pv f k:Nat):Int)/\lv=.slice (some ⟨g,0,none⟩) (14+4*k) c/\T8.Own v1.heap.size (.slice (some ⟨g,0,none⟩) (14+4*k) c) ((List.range (14+4*k)).map E) wr/\Ab v1 wr) (fun _ _ iv _=>m - (intOf iv).toNat)
 case atStart=>exact⟨0,g7,c7,by omega,rfl,rfl,rfl,O7.out,A7.out⟩
 case round=>
  obtain⟨k,g8,c8,hk,rfl,rfl,rfl,o8,a8⟩:=hrel
  have O8:=hid o8
  have A8:=hid a8
  clear o8 a8 O7 A7
  have R8:=hid (A8.out.heap R1.out)
  have y3:=aA 3 R8.out
  obtain⟨K,hK⟩:=aB (14+4*k)
  rw[hK]at O8 ⊢
  by_cases hkm:k<m
  ·have HK:=hid (show 14+4*k=K/\k<m from⟨hK,hkm⟩)
   have kI:(k:Int)<(m:Int):=by omega
   have kI0:(0:Int)<=(k:Int):=by omega
   have z:=((HF.out.below (A1.out.trans A8.out)).at0 hkm).2.2
   have bf: ∀i,i<k+1->f i<4294967296:=fun i hi=>HF.out.lt i (by omega)
   have b1:=bf k (by omega)
   have b2:=lK (k:=k) (by decide) (fun i hi=>bf i (by omega))
   have q:=lJ b1 b2
   rw[<- xr_pv]at q
   have b3:=xr_lt (f:=f) (k:=k) (fun i hi=>bf i (by omega))
   have W8:=hid (wordE v1.heap.size _ E K (xr f k) wr b3 (fun i hi=>by rw[<- HE.out,<- hK];exact enc_cl hi) O8.out (by have:=HN.out;omega) A8.out.size)
   obtain⟨x,hx⟩:=aB (f k)
   obtain⟨y,hy⟩:=aB (pv f k)
   obtain⟨u,hu⟩:=aB (xr f k)
   rw[hx]at z q
   rw[hy]at q
   rw[hu]at q W8
   rw[hy]
   have HX2:=hid hx
   clear hx hy hu b1 b2 b3 bf hkm hk hK
   go_wp2_with fail
   refine W8.out.mono ?_
   rintro e9 v9 ⟨g9,c9,rfl,o9,b9⟩
   have A9:Hid (Ab v1 v9):=fM A8.out b9
   have O9:=hid o9
   have R9:=hid (A9.out.heap R1.out)
   clear o9 b9 W8 y3 z
   have y3:=aA 3 R9.out
   have z:=((HF.out.below (A1.out.trans A9.out)).at0 HK.out.2).2.2
   rw[HX2.out]at z
   go_wp2
   exact⟨⟨k+1,g9,c9,by have:=HK.out;omega,by simp,by rw[<- HX2.out];rfl,by rw[show 14+4*(k+1)=K+4 by have:=HK.out;omega],by rw[show 14+4*(k+1)=K+4 by have:=HK.out;omega];exact O9.out,A9.out⟩,by have:=HK.out;simp[intOf];omega⟩
  ·have e6:m=k:=by omega
   subst e6
   have eN:K=N:=by rw[<- hK];exact HN.out.1
   subst eN
   clear hK hkm hk
   go_wp2
   go_ret2
   exact⟨g8,c8,rfl,A1.out.trans A8.out,qA O8.out A1.out.size⟩
end Ti
end
end Go.Proofs.Ytmjldplhhgfnaaa
