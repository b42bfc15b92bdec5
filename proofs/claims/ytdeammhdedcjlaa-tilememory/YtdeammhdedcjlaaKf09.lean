/-
  Some of the texts of this proof, one behind the other.
-/
import Derived.Deep.AppendSrc
import Derived.Deep.AppendLies
import Derived.Deep.QuietTactic
import Derived.BigQuiet
import Derived.Test.YtdeammhdedcjlaaKf08
set_option maxRecDepth 100000
set_option maxHeartbeats 400000000
namespace Go.Proofs.Ytdeammhdedcjlaa
open _root_.Go.Proofs.Try
section
open Go.RowKit Go.Deep Tf Cu
namespace Ti
theorem cJ(side:Int)(pb:Option Addr)(lb cb:Nat)(B:Nat->Nat)(pw:Option Addr)(lw cw:Nat)(W:Nat->Int)(pt:Option Addr)(lt ct:Nat)(T:Nat->Int)(ps:Option Addr)(ls cs:Nat)(S:Nat->Nat)(sky st:Int)(w:World)(i1:IsFl w pb lb B)(i2:Sh.IsI w pw lw W)(i3:Sh.IsI w pt lt T)(i4:IsFl w ps ls S)(h:(Ss.chk side lb lw lt ls B W T S sky st).2≠0):
  Calls prog 12 #[.int .i64 side,.agg #[.slice pb lb cb,.slice pw lw cw,.slice pt lt ct,.slice ps ls cs,.int .i64 sky,.int .i64 st]] w fun e w'=>e=.returned (.tuple #[.slice none 0 0,.int .i64 (Ss.chk side lb lw lt ls B W T S sky st).2])/\Below w.heap.size w w':=
 tiles_no side pb lb cb pw lw cw pt lt ct ps ls cs sky st _ _ w (by simpa using h) (hid fun v a=>Ss.mI side pb lb cb B pw lw cw W pt lt ct T ps ls cs S sky st v (i1.below a) (i2.below a) (i3.below a) (i4.below a))
def TilesAt(W0:World)(n m:Nat)(W:Nat->Int)(gl:Nat)(gs:Nat->Nat)(w:World):Prop:=
 Below W0.heap.size W0 w/\W0.heap.size<=gl/\w.rowIs gl 25 24 (tcv n m W gs)/\(∀j,j<6->gl<gs j/\w.rowIs (gs j) 22 m (fun k=>.int .u32 ((tb n W (j*m+k):Nat):Int)))/\ ∀i j,i<j->j<6->gs i<gs j
theorem cP(side:Int)(pb:Option Addr)(lb cb:Nat)(B:Nat->Nat)(pw:Option Addr)(lw cw:Nat)(W:Nat->Int)(pt:Option Addr)(lt ct:Nat)(T:Nat->Int)(ps:Option Addr)(ls cs:Nat)(S:Nat->Nat)(sky st:Int)(w:World)(i1:IsFl w pb lb B)(i2:Sh.IsI w pw lw W)(i3:Sh.IsI w pt lt T)(i4:IsFl w ps ls S)(h:(Ss.chk side lb lw lt ls B W T S sky st).2=0):
  Calls prog 12 #[.int .i64 side,.agg #[.slice pb lb cb,.slice pw lw cw,.slice pt lt ct,.slice ps ls cs,.int .i64 sky,.int .i64 st]] w fun e w'=> ∃gl gs,e=.returned (.tuple #[.slice (some ⟨gl,0,none⟩) 6 6,.int .i64 0])/\TilesAt w side.toNat (side.toNat*side.toNat) W gl gs w':=by
 obtain⟨n,rfl,hn,hl,h0⟩:=kM h
 have m1:=dG hn.1 hn.2
 obtain⟨b,o,rfl⟩:=i2.some0 (by omega)
 rw[Int.toNat_natCast]
 exact tiles_go n (n*n) pb lb cb b o lw cw W pt lt ct ps ls cs sky st _ w hn rfl hl i2 h0 (hid fun v a=>by
  have q:=Ss.mI (n:Nat) pb lb cb B (some ⟨b,o,none⟩) lw cw W pt lt ct T ps ls cs S sky st v (i1.below a) (i2.below a) (i3.below a) (i4.below a)
  rw[h]at q
  exact q)
theorem f4_lt(i:Nat)(hi:i<4):f4 i<4294967296:=by
 have c:i=0\/i=1\/i=2\/i=3:=by omega
 rcases c with rfl | rfl | rfl | rfl<;>decide
theorem pM(w:World):Calls prog 18 #[] w fun e w'=> ∃g,e=.returned (.agg #[.int .i64 5,.int .u32 0,.int .u32 1073741824,.slice (some ⟨g,0,none⟩) 4 4])/\Below w.heap.size w w'/\w.heap.size<=g/\w'.rowIs g 22 4 (fun i=>.int .u32 ((f4 i:Nat):Int)):=by
 have BL: ∀v:World,(Instr.buildSlice 23 4 #[(0,.int .u32 1065353216),(1,.int .u32 1073741824),(2,.int .u32 0),(3,.int .u32 1065353216)]).run prog v=.ok (.slice (some ⟨v.heap.size,0,none⟩) 4 4) (v.alloc (.cells #[.int .u32 1065353216,.int .u32 1073741824,.int .u32 0,.int .u32 1065353216] 22)):=fun v=>by simp[go_sem,Instr.buildSlice,run_underlying underlying23]
 obtain⟨A0,R0⟩:=aF w (.cells #[.int .i64 0,.int .u32 0,.int .u32 0,.slice none 0 0] 25)
 go_enter func18,ntmps18
 go_upto_region 1 with fail
 generalize hW:World.alloc w _=V0 at*
 obtain⟨gr,hgr⟩:=aB w.heap.size
 have HG:Hid (w.heap.size<=gr):=by show _<=_;omega
 rw[hgr]at R0 ⊢
 clear hgr hW
 obtain⟨A1,R1⟩:=aF V0 (.cells #[.int .u32 1065353216,.int .u32 1073741824,.int .u32 0,.int .u32 1065353216] 22)
 have R2:=hid (A1.out.heap R0.out)
 have A2:=hid (A0.out.trans A1.out)
 have t0:=aA 0 R2.out
 have t1:=aA 1 R2.out
 have t2:=aA 2 R2.out
 have t3:=aA 3 R2.out
 have f0:=aC R2.out 0
 have f1:=aC R2.out 1
 have f2:=aC R2.out 2
 have f3:=aC R2.out 3
 have LZ:Hid (gr<V0.heap.size/\w.heap.size<=V0.heap.size):=⟨lt_of_block R0.out,A0.out.size⟩
 go_wp2_with fail
 (try simp only[Exit.inBlock,Exit.then])
 have ne:V0.heap.size≠gr:=by have:=LZ.out;omega
 have RW:(V0.alloc (.cells #[.int .u32 1065353216,.int .u32 1073741824,.int .u32 0,.int .u32 1065353216] 22)).rowIs V0.heap.size 22 4 (fun i=>.int .u32 ((f4 i:Nat):Int)):=⟨_,R1.out,rfl,fun i hi=>by
  have c:i=0\/i=1\/i=2\/i=3:=by omega
  rcases c with rfl | rfl | rfl | rfl<;>rfl⟩
 refine bodyPost_ret (v:=.agg #[.int .i64 5,.int .u32 0,.int .u32 1073741824,.slice (some ⟨V0.heap.size,0,none⟩) 4 4]) ?_ rfl ?_
 ·exact results_cell_row results18 _ _ gr _ _ (0,0) _ rfl (gG R2.out) underlying25 rfl (by kernel_rfl)
 ·exact⟨_,rfl,(((A2.out.setk HG.out _).setk HG.out _).setk HG.out _).setk HG.out _,LZ.out.2,(((RW.setOther (a:=⟨gr,0,none⟩) ne _).setOther (a:=⟨gr,1,none⟩) ne _).setOther (a:=⟨gr,2,none⟩) ne _).setOther (a:=⟨gr,3,none⟩) ne _⟩
theorem run_bs{P:Program}{a:Act}{o:Oper}{t:TypeId}{n:Nat}{ps:Array (Nat × Operand)}{vs:Array (Nat × Value)}{u:Value}{w w':World}(ho:o.op=.buildSlice t n ps)(hv:(ps.map fun(i,x)=>(i,a.eval x))=vs)(M:(Instr.buildSlice t n vs).run P w=.ok u w'):(execOp a.eval o).run P w=.ok (.value u) w':=by
 unfold execOp
 rw[ho]
 simp only[hv]
 exact Cx.run_val M
theorem qV{P:Program}{a:Act}{o:Oper}{x y:Operand}{f:FuncId}{fn:Func}{ats:Array TypeId}{v u:Value}(ho:o.op=.call {callee:=.value (.func f),args:= #[x,y],argTypes:=ats})(hx:a.eval x=v)(hy:a.eval y=u)(hf:P.funcs[f]? =some fn)(hn:(fn.name== "runtime.NumGoroutine")=false)(hb:fn.body.isNone=false)(w:World):(execOp a.eval o).run P w=.ok (.enter f #[v,u]) w:=by
 have h1:fn.name≠ "runtime.NumGoroutine" :=by simpa using hn
 have ef:a.eval (.func f)=.func (.func f) #[] #[]:=rfl
 have e:execOp a.eval o=callFunc f #[v,u]:=by
  unfold execOp
  simp[ho,resolve,Deferred.ofValue,invoke,ef,hx,hy]
 obtain⟨c,hc⟩: ∃c,fn.body=some c:=by
  cases h:fn.body with
  | none=>simp[h]at hb
  | some c=>exact⟨c,rfl⟩
 rw[e]
 simp[callFunc,hf,h1,hc]
def hdB(l:List Nat):Nat:=l.headD 0
def RL(ob:Obj)(x:Cx.Ix)(w:World):Prop:= ∃b,x.1=[b]/\w.heap[b]? =some ob
def RB(x:Cx.Ix)(w:World):Prop:= ∃b1 b2 b3 b4,x.2=.agg #[.slice (some ⟨b1,0,none⟩) 6 6,.slice (some ⟨b2,0,none⟩) 6 6,.slice (some ⟨b3,0,none⟩) 6 6,.slice (some ⟨b4,0,none⟩) 12 12,.int .i64 0,.int .i64 0]/\w.heap[b1]? =some (Obj.cells (madeCells #[.float .f64 0] 6) 47)/\w.heap[b2]? =some (Obj.cells #[.int .i64 1431655765,.int .i64 0,.int .i64 0,.int .i64 0,.int .i64 0,.int .i64 0] 2)/\w.heap[b3]? =some (Obj.cells (madeCells #[.int .i64 0] 6) 2)/\w.heap[b4]? =some (Obj.cells (madeCells #[.float .f64 0] 12) 47)
def RT(x:Cx.Ix)(w:World):Prop:= ∃gl gs,x.1=[gl]/\w.rowIs gl 25 24 (tcv 1 1 W6 gs)
theorem kO{ob:Obj}{x:Cx.Ix}{w w':World}(h:RL ob x w)(a:Ab w w'):RL ob x w':=by
 obtain⟨b,e,h⟩:=h
 exact⟨b,e,a.heap h⟩
theorem rb_stb{x:Cx.Ix}{w w':World}(h:RB x w)(a:Ab w w'):RB x w':=by
 obtain⟨b1,b2,b3,b4,e,h1,h2,h3,h4⟩:=h
 exact⟨b1,b2,b3,b4,e,a.heap h1,a.heap h2,a.heap h3,a.heap h4⟩
theorem rt_stb{x:Cx.Ix}{w w':World}(h:RT x w)(a:Ab w w'):RT x w':=by
 obtain⟨gl,gs,e,h⟩:=h
 exact⟨gl,gs,e,Sh.aD h a⟩
theorem stb_aw:Cx.Stable (fun k=>if k=0 then some (RL (Obj.cells (madeCells #[.float .f64 0] 6) 47),fun x=>.slice (some ⟨hdB x.1,0,none⟩) 6 6)else if k=1 then some (RL (Obj.cells #[.int .i64 1431655765,.int .i64 0,.int .i64 0,.int .i64 0,.int .i64 0,.int .i64 0] 2),fun x=>.slice (some ⟨hdB x.1,0,none⟩) 6 6)else if k=2 then some (RL (Obj.cells (madeCells #[.int .i64 0] 6) 2),fun x=>.slice (some ⟨hdB x.1,0,none⟩) 6 6)else if k=3 then some (RL (Obj.cells (madeCells #[.float .f64 0] 12) 47),fun x=>.slice (some ⟨hdB x.1,0,none⟩) 12 12)else if k=4 then some (RB,fun x=>x.2)else if k=5 then some (RT,fun x=>.tuple #[.slice (some ⟨hdB x.1,0,none⟩) 6 6,.int .i64 0])else none):=fun i R mk h x v v' hr ha=>by
 rcases Nat.decEq i 0 with q0 | q0
 rotate_left
 ·subst q0
  simp only[if_true,Option.some.injEq,Prod.mk.injEq]at h
  obtain⟨h1,h2⟩:=h
  subst h1 h2
  exact kO hr ha
 rcases Nat.decEq i 1 with q1 | q1
 rotate_left
 ·subst q1
  simp only[if_true,if_neg (show¬(1:Nat)=0 by decide),Option.some.injEq,Prod.mk.injEq]at h
  obtain⟨h1,h2⟩:=h
  subst h1 h2
  exact kO hr ha
 rcases Nat.decEq i 2 with q2 | q2
 rotate_left
 ·subst q2
  simp only[if_true,if_neg (show¬(2:Nat)=0 by decide),if_neg (show¬(2:Nat)=1 by decide),Option.some.injEq,Prod.mk.injEq]at h
  obtain⟨h1,h2⟩:=h
  subst h1 h2
  exact kO hr ha
 rcases Nat.decEq i 3 with q3 | q3
 rotate_left
 ·subst q3
  simp only[if_true,if_neg (show¬(3:Nat)=0 by decide),if_neg (show¬(3:Nat)=1 by decide),if_neg (show¬(3:Nat)=2 by decide),Option.some.injEq,Prod.mk.injEq]at h
  obtain⟨h1,h2⟩:=h
  subst h1 h2
  exact kO hr ha
 rcases Nat.decEq i 4 with q4 | q4
 rotate_left
 ·subst q4
  simp only[if_true,if_neg (show¬(4:Nat)=0 by decide),if_neg (show¬(4:Nat)=1 by decide),if_neg (show¬(4:Nat)=2 by decide),if_neg (show¬(4:Nat)=3 by decide),Option.some.injEq,Prod.mk.injEq]at h
  obtain⟨h1,h2⟩:=h
  subst h1 h2
  exact rb_stb hr ha
 rcases Nat.decEq i 5 with q5 | q5
 rotate_left
 ·subst q5
  simp only[if_true,if_neg (show¬(5:Nat)=4 by decide),if_neg (show¬(5:Nat)=0 by decide),if_neg (show¬(5:Nat)=1 by decide),if_neg (show¬(5:Nat)=2 by decide),if_neg (show¬(5:Nat)=3 by decide),Option.some.injEq,Prod.mk.injEq]at h
  obtain⟨h1,h2⟩:=h
  subst h1 h2
  exact rt_stb hr ha
 ·simp only[if_neg q0,if_neg q1,if_neg q2,if_neg q3,if_neg q4,if_neg q5]at h
  cases h
theorem mN:(Try.prog.info? 47).map (fun i=>(i.zero,i.size,i.bytes))=some (some (.float .f64 0),1,8):=by kernel_rfl
theorem cQ(w:World):Calls prog 8 #[] w fun e w'=>e=.returned (.bool true)/\Below w.heap.size w w':=by
 have M1: ∀v:World,(Instr.makeSlice 37 (.int .i64 6) (.int .i64 6)).run prog v=.ok (.slice (some ⟨v.heap.size,0,none⟩) 6 6) (v.alloc (Obj.cells (madeCells #[.float .f64 0] 6) 47)):=fun v=>run_make_row' (P:=prog) 37 47 (.float .f64 0) 8 underlying37 mN rfl .i64 .i64 6 (by omega) (by omega) v
 have M2: ∀v:World,(Instr.makeSlice 38 (.int .i64 6) (.int .i64 6)).run prog v=.ok (.slice (some ⟨v.heap.size,0,none⟩) 6 6) (v.alloc (Obj.cells (madeCells #[.int .i64 0] 6) 2)):=fun v=>run_make_row' (P:=prog) 38 2 (.int .i64 0) 8 underlying38 Sh.info64 rfl .i64 .i64 6 (by omega) (by omega) v
 have M3: ∀v:World,(Instr.makeSlice 37 (.int .i64 12) (.int .i64 12)).run prog v=.ok (.slice (some ⟨v.heap.size,0,none⟩) 12 12) (v.alloc (Obj.cells (madeCells #[.float .f64 0] 12) 47)):=fun v=>run_make_row' (P:=prog) 37 47 (.float .f64 0) 8 underlying37 mN rfl .i64 .i64 12 (by omega) (by omega) v
 have BL: ∀v:World,(Instr.buildSlice 38 6 #[(0,.int .i64 1431655765),(1,.int .i64 0),(2,.int .i64 0),(3,.int .i64 0),(4,.int .i64 0),(5,.int .i64 0)]).run prog v=.ok (.slice (some ⟨v.heap.size,0,none⟩) 6 6) (v.alloc (.cells #[.int .i64 1431655765,.int .i64 0,.int .i64 0,.int .i64 0,.int .i64 0,.int .i64 0] 2)):=fun v=>by simp[go_sem,Instr.buildSlice,run_underlying underlying38]
 go_enter func8,ntmps8
 go_wp2_with fail
 refine(pM _).mono ?_
 rintro e9 v1 ⟨g,rfl,b1,l1,r1⟩
 have A1:Hid (Ab w v1):=b1
 have IW:=hid (bF (M:=4294967296) r1 (fun i hi=>by
  have c:i=0\/i=1\/i=2\/i=3:=by omega
  rcases c with rfl | rfl | rfl | rfl<;>decide))
 have CE:=hid (cO 5 0 1073741824 (some ⟨g,0,none⟩) 4 4 f4 v1 (by decide) (by decide) (by decide) IW.out ok4)
 clear b1 l1 r1
 rw[sd4]at CE
 go_wp2_with fail
 refine CE.out.mono ?_
 rintro e9 v2 ⟨gb,rfl,b2,l2,r2⟩
 have A2:Hid (Ab w v2):=A1.out.trans b2
 have E2:Hid (v2.rowIs gb 5 30 (fun i=>.int .u8 ((E30 i:Nat):Int))):=r2
 have I2:=hid (bF (M:=256) E2.out (fun i _=>kF (by decide) (by decide)))
 have CD:=hid (eR (some ⟨gb,0,none⟩) 30 30 E30 v2 (by decide) I2.out e30)
 rw[e30_h.1,e30_h.2.1,e30_h.2.2.1,e30_h.2.2.2]at CD
 clear b2 l2 r2 CE IW A1
 go_wp2_with fail
 refine CD.out.mono ?_
 rintro e9 v3 ⟨gd,rfl,b3,l3,r3⟩
 have A3:Hid (Ab w v3):=A2.out.trans b3
 have E3:=hid (Sh.aD E2.out b3)
 have D3:=hid (r3.congr (g:=fun i=>.int .u32 ((f4 i:Nat):Int)) (fun i hi=>by rw[e30_d i hi]))
 clear b3 l3 r3 CD I2 A2 E2
 obtain⟨X4,T4⟩:=aF v3 (.cells #[.int .i64 5,.int .u32 0,.int .u32 1073741824,.slice (some ⟨gd,0,none⟩) 4 4] 25)
 go_upto_region 3 with fail
 generalize hV:World.alloc v3 _=v4 at*
 obtain⟨gt,hgt⟩:=aB v3.heap.size
 rw[hgt]at T4 ⊢
 clear hV hgt
 have A4:Hid (Ab w v4):=A3.out.trans X4.out
 have E4:=hid (Sh.aD E3.out X4.out)
 have D4:=hid (Sh.aD D3.out X4.out)
 clear A3 E3 D3 X4
 have CN:=hid (qK none 0 0 (fun _=>0) v4 (by decide) (IsW.nil _ _ _ _ _) (by rw[e0];decide))
 rw[e0]at CN
 go_wp2_with fail
 refine CN.out.mono ?_
 rintro e9 v5 ⟨rfl,b5⟩
 have X6:Hid (Ab v4 (v5.alloc (.cells #[.int .i64 0,.int .u32 0,.int .u32 0,.slice none 0 0] 25))):=Ab.alloc b5 _
 clear CN b5
 go_upto_region 4 with fail
 generalize hV:World.alloc v5 _=v6 at*
 clear hV
 have A6:Hid (Ab w v6):=A4.out.trans X6.out
 have E6:=hid (Sh.aD E4.out X6.out)
 have D6:=hid (Sh.aD D4.out X6.out)
 have T6:=hid (X6.out.heap T4.out)
 clear A4 E4 D4 T4 X6
 obtain⟨gp,hgp⟩:=aB v5.heap.size
 rw[hgp]
 clear hgp
 go_cut [7,8]from 24 to 31 (fun s7 s8 wx=> ∃gl gs,s7=.slice (some ⟨gl,0,none⟩) 6 6/\s8=.int .i64 0/\Ab v6 wx/\wx.rowIs gl 25 24 (tcv 1 1 W6 gs))
 case first=>
  obtain⟨UU,E,hF1,hF2⟩:=cls v6.drew
  have HU:=hid hF2
  clear hF1 hF2
  refine Cx.mM 10 (fun k=>if k=0 then some (RL (Obj.cells (madeCells #[.float .f64 0] 6) 47),fun x=>.slice (some ⟨hdB x.1,0,none⟩) 6 6)else if k=1 then some (RL (Obj.cells #[.int .i64 1431655765,.int .i64 0,.int .i64 0,.int .i64 0,.int .i64 0,.int .i64 0] 2),fun x=>.slice (some ⟨hdB x.1,0,none⟩) 6 6)else if k=2 then some (RL (Obj.cells (madeCells #[.int .i64 0] 6) 2),fun x=>.slice (some ⟨hdB x.1,0,none⟩) 6 6)else if k=3 then some (RL (Obj.cells (madeCells #[.float .f64 0] 12) 47),fun x=>.slice (some ⟨hdB x.1,0,none⟩) 12 12)else if k=4 then some (RB,fun x=>x.2)else if k=5 then some (RT,fun x=>.tuple #[.slice (some ⟨hdB x.1,0,none⟩) 6 6,.int .i64 0])else none) (fun j=>if j=4 then [0,1,2,3]else if j=5 then [4]else []) stb_aw (by kernel_rfl) (by kernel_rfl) (by kernel_rfl) (by kernel_rfl) ?_
  simp only[List.take_succ_cons,List.take_zero]
  refine Cx.bU (ob:=RL (Obj.cells (madeCells #[.float .f64 0] 6) 47)) (mk:=fun x=>.slice (some ⟨hdB x.1,0,none⟩) 6 6) (by rfl) (by kernel_rfl) ?_ ?_
  ·refine Cx.gR (O:=(Obj.cells (madeCells #[.float .f64 0] 6) 47)) (u:=fun _=>.bool true) (fun v _=> ?_) (fun v _=>⟨v.heap.size,rfl,heap_alloc_new _ _⟩)
   exact Cx.run_make (vx:=.int .i64 6) (vy:=.int .i64 6) (by rfl) (by rfl) (by rfl) (M1 v)
  intro x0 fx0
  simp only[Act.put,List.setIfInBounds_toArray,List.set_cons_succ,List.set_cons_zero]
  refine Cx.bU (ob:=RL (Obj.cells #[.int .i64 1431655765,.int .i64 0,.int .i64 0,.int .i64 0,.int .i64 0,.int .i64 0] 2)) (mk:=fun x=>.slice (some ⟨hdB x.1,0,none⟩) 6 6) (by rfl) (by kernel_rfl) ?_ ?_
  ·refine Cx.gR (O:=(Obj.cells #[.int .i64 1431655765,.int .i64 0,.int .i64 0,.int .i64 0,.int .i64 0,.int .i64 0] 2)) (u:=fun _=>.bool true) (fun v _=> ?_) (fun v _=>⟨v.heap.size,rfl,heap_alloc_new _ _⟩)
   exact run_bs (P:=prog) (vs:= #[(0,.int .i64 1431655765),(1,.int .i64 0),(2,.int .i64 0),(3,.int .i64 0),(4,.int .i64 0),(5,.int .i64 0)]) (by rfl) (by simp[Act.eval]) (BL v)
  intro x1 fx1
  simp only[Act.put,List.setIfInBounds_toArray,List.set_cons_succ,List.set_cons_zero]
  refine Cx.bU (ob:=RL (Obj.cells (madeCells #[.int .i64 0] 6) 2)) (mk:=fun x=>.slice (some ⟨hdB x.1,0,none⟩) 6 6) (by rfl) (by kernel_rfl) ?_ ?_
  ·refine Cx.gR (O:=(Obj.cells (madeCells #[.int .i64 0] 6) 2)) (u:=fun _=>.bool true) (fun v _=> ?_) (fun v _=>⟨v.heap.size,rfl,heap_alloc_new _ _⟩)
   exact Cx.run_make (vx:=.int .i64 6) (vy:=.int .i64 6) (by rfl) (by rfl) (by rfl) (M2 v)
  intro x2 fx2
  simp only[Act.put,List.setIfInBounds_toArray,List.set_cons_succ,List.set_cons_zero]
  refine Cx.bU (ob:=RL (Obj.cells (madeCells #[.float .f64 0] 12) 47)) (mk:=fun x=>.slice (some ⟨hdB x.1,0,none⟩) 12 12) (by rfl) (by kernel_rfl) ?_ ?_
  ·refine Cx.gR (O:=(Obj.cells (madeCells #[.float .f64 0] 12) 47)) (u:=fun _=>.bool true) (fun v _=> ?_) (fun v _=>⟨v.heap.size,rfl,heap_alloc_new _ _⟩)
   exact Cx.run_make (vx:=.int .i64 12) (vy:=.int .i64 12) (by rfl) (by rfl) (by rfl) (M3 v)
  intro x3 fx3
  simp only[Act.put,List.setIfInBounds_toArray,List.set_cons_succ,List.set_cons_zero]
  refine Cx.bU (ob:=RB) (mk:=fun x=>x.2) (by rfl) (by kernel_rfl) ?_ ?_
  ·intro v hv
   obtain⟨⟨b1,e1,h1⟩,-⟩:=hv.at (i:=0) (x:=x0) (R:=RL (Obj.cells (madeCells #[.float .f64 0] 6) 47)) (mk:=fun x=>.slice (some ⟨hdB x.1,0,none⟩) 6 6) (by rfl) (by rfl)
   obtain⟨⟨b2,e2,h2⟩,-⟩:=hv.at (i:=1) (x:=x1) (R:=RL (Obj.cells #[.int .i64 1431655765,.int .i64 0,.int .i64 0,.int .i64 0,.int .i64 0,.int .i64 0] 2)) (mk:=fun x=>.slice (some ⟨hdB x.1,0,none⟩) 6 6) (by rfl) (by rfl)
   obtain⟨⟨b3,e3,h3⟩,-⟩:=hv.at (i:=2) (x:=x2) (R:=RL (Obj.cells (madeCells #[.int .i64 0] 6) 2)) (mk:=fun x=>.slice (some ⟨hdB x.1,0,none⟩) 6 6) (by rfl) (by rfl)
   obtain⟨⟨b4,e4,h4⟩,-⟩:=hv.at (i:=3) (x:=x3) (R:=RL (Obj.cells (madeCells #[.float .f64 0] 12) 47)) (mk:=fun x=>.slice (some ⟨hdB x.1,0,none⟩) 12 12) (by rfl) (by rfl)
   have q: ∀(o:Oper) (a:Act),(execOp a.eval o).run prog v=.ok (.value (.agg #[.slice (some ⟨hdB x0.1,0,none⟩) 6 6,.slice (some ⟨hdB x1.1,0,none⟩) 6 6,.slice (some ⟨hdB x2.1,0,none⟩) 6 6,.slice (some ⟨hdB x3.1,0,none⟩) 12 12,.int .i64 0,.int .i64 0])) v->Cx.LayR prog v RB (fun x=>x.2) ((execOp a.eval o).run prog v):=fun o a q=>by
    rw[q]
    exact⟨([],.agg #[.slice (some ⟨hdB x0.1,0,none⟩) 6 6,.slice (some ⟨hdB x1.1,0,none⟩) 6 6,.slice (some ⟨hdB x2.1,0,none⟩) 6 6,.slice (some ⟨hdB x3.1,0,none⟩) 12 12,.int .i64 0,.int .i64 0]),rfl,Ab.refl v,(fun b hb=>by cases hb),b1,b2,b3,b4,by rw[e1,e2,e3,e4];rfl,h1,h2,h3,h4⟩
   refine q _ _ ?_
   simp[execOp,go_sem,Act.eval]
  intro x4 fx4
  simp only[Act.put,List.setIfInBounds_toArray,List.set_cons_succ,List.set_cons_zero]
  refine Cx.bU (ob:=RT) (mk:=fun x=>.tuple #[.slice (some ⟨hdB x.1,0,none⟩) 6 6,.int .i64 0]) (by rfl) (by kernel_rfl) ?_ ?_
  ·refine Cx.lay_call (f:=12) (args:= #[.int .i64 1,x4.2]) ?_ (fun v hv=> ?_)
   ·intro v
    exact qV (x:=.const (.int .i64 1)) (y:=.tmp 28) (by rfl) (by rfl) (by rfl) func12 (by kernel_rfl) (by kernel_rfl) v
   ·obtain⟨⟨b1,b2,b3,b4,e,h1,h2,h3,h4⟩,-⟩:=hv.at (i:=4) (x:=x4) (R:=RB) (mk:=fun x=>x.2) (by rfl) (by rfl)
    rw[e]
    have F1:IsFl v (some ⟨b1,0,none⟩) 6 (fun _=>0):=rowIs.fl (dD h1) (fun _ _=>by decide)
    have F2:Sh.IsI v (some ⟨b2,0,none⟩) 6 W6:=Sh.row_in ⟨_,h2,rfl,fun i hi=>by
     have c:i=0\/i=1\/i=2\/i=3\/i=4\/i=5:=by omega
     rcases c with rfl | rfl | rfl | rfl | rfl | rfl<;>rfl⟩ (fun i _=>by unfold W6;split<;>decide)
    have F3:Sh.IsI v (some ⟨b3,0,none⟩) 6 (fun _=>0):=Sh.row_in (dD h3) (fun _ _=>by decide)
    have F4:IsFl v (some ⟨b4,0,none⟩) 12 (fun _=>0):=rowIs.fl (dD h4) (fun _ _=>by decide)
    exact(cP 1 _ 6 6 _ _ 6 6 _ _ 6 6 _ _ 12 12 _ 0 0 v F1 F2 F3 F4 (by rw[chk6])).mono fun e w' q=>by
     obtain⟨gl,gs,rfl,q1,q2,q3,q4,q5⟩:=q
     exact⟨([gl],.bool true),rfl,q1,(fun b hb=>by
      have hb:b=gl:=by simpa using hb
      subst hb
      exact⟨q2,q3.lt⟩),gl,gs,rfl,q3⟩
  intro x5 fx5
  simp only[Act.put,List.setIfInBounds_toArray,List.set_cons_succ,List.set_cons_zero]
  refine Cx.dQ HU (by rfl) (by rfl) ?_
  go_big_quiet_step (with_reducible rfl)
  refine wpQuiet_nil ?_
  refine Cx.dQ HU (by rfl) (by rfl) ?_
  go_big_quiet_step (with_reducible rfl)
  refine wpQuiet_nil ?_
  refine Cx.dQ HU (by rfl) (by rfl) ?_
  go_big_quiet_step (with_reducible rfl)
  refine wpQuiet_nil ?_
  refine Cx.dQ HU (by rfl) (by rfl) ?_
  go_big_quiet_step (with_reducible rfl)
  refine wpQuiet_nil ?_
  refine Cx.oB ?_
  intro wz hz
  obtain⟨⟨gl,gs,e5,r5⟩,-⟩:=hz.at (i:=5) (x:=x5) (R:=RT) (mk:=fun x=>.tuple #[.slice (some ⟨hdB x.1,0,none⟩) 6 6,.int .i64 0]) (by rfl) (by rfl)
  have AZ:Hid (Ab v6 wz):=(Ab.refl v6).drew.trans hz.1
  have R5:=hid r5
  have E5:=hid e5
  clear r5 e5 hz HU fx0 fx1 fx2 fx3 fx4 fx5
  simp only[List.drop_succ_cons,List.drop_zero]
  go_wp2
  try go_meet
  exact⟨gl,gs,by rw[E5.out];rfl,rfl,AZ.out,R5.out⟩
 case rest=>
 obtain⟨gl,gs,rfl,rfl,a7,r7⟩:=hcut
 have A7:Hid (Ab w wc):=A6.out.trans a7
 have E7:=hid (Sh.aD E6.out a7)
 have D7:=hid (bF (M:=4294967296) (Sh.aD D6.out a7) (fun i hi=>by
  have c:i=0\/i=1\/i=2\/i=3:=by omega
  rcases c with rfl | rfl | rfl | rfl<;>decide))
 have T7:=hid (a7.heap T6.out)
 have L7:=hid (r7.cell (i:=2) (by decide))
 have L8:Hid (gl<wc.heap.size):=r7.lt
 have eL:tcv 1 1 W6 gs 2=.int .u32 1065353216:=by
  show Value.int .u32 ((hi (fun k=>tb 1 W6 (0*1+k)) 0:Nat):Int)=_
  rw[tb6]
  rfl
 rw[eL]at L7
 clear a7 r7 A6 E6 D6 T6 M1 M2 M3 BL eL
 have MK:=e30_b
 have KS:Hid (∀v,Ab wc v->Ab wc v/\v.cell? ⟨gt,0,none⟩=some (.int .i64 5)/\v.cell? ⟨gt,1,none⟩=some (.int .u32 0)/\v.cell? ⟨gt,2,none⟩=some (.int .u32 1073741824)/\v.cell? ⟨gt,3,none⟩=some (.slice (some ⟨gd,0,none⟩) 4 4)/\v.cell? ⟨gl,2,none⟩=some (.int .u32 1065353216)/\(convert 26 9 (.slice (some ⟨gb,0,none⟩) 30 30)).run prog v=.ok (.string (str E30 30)) v):=fun v a=>by
  have t:=a.heap T7.out
  exact⟨a,aA 0 t,aA 1 t,aA 2 t,aA 3 t,(Below.cell a L8.out).trans L7.out,aL underlying26 underlying5 underlying9 (bF (Sh.aD E7.out a) (fun i _=>kF (by decide) (by decide))) (fun e=>by cases e)⟩
 have X0:Ab wc wc:=Ab.refl wc
 go_wp2_with fail
 go_region_held3 (fun v=>Ab wc v/\v.cell? ⟨gt,0,none⟩=some (.int .i64 5)/\v.cell? ⟨gt,1,none⟩=some (.int .u32 0)/\v.cell? ⟨gt,2,none⟩=some (.int .u32 1073741824)/\v.cell? ⟨gt,3,none⟩=some (.slice (some ⟨gd,0,none⟩) 4 4)/\v.cell? ⟨gl,2,none⟩=some (.int .u32 1065353216)/\(convert 26 9 (.slice (some ⟨gb,0,none⟩) 30 30)).run prog v=.ok (.string (str E30 30)) v) ((refine KS.out _ ?_;(with_reducible (repeat(first | assumption | apply Ab.drew)));done)) (first
  | (go_at_call 18;refine(pM _).mono ?_;rintro e9 z1 ⟨g9,rfl,b9,l9,r9⟩;have az1:Ab wc z1:=Ab.trans (show Ab wc _ by with_reducible (repeat(first | assumption | apply Ab.drew))) b9;have I9:=hid (bF (M:=4294967296) r9 f4_lt))
  | (go_at_call 11;refine(cE _ _ _ _ _ _ _ _ _ _ _ _ f4 f4 _ (by decide) (D7.out.below az1) I9.out).mono ?_;rintro e9 z2 ⟨rfl,b8⟩;have az2:Ab wc z2:=Ab.trans az1 b8))
 go_wp2
 go_ret
 exact⟨by rw[show eqT 5 5 0 0 1073741824 1073741824 4 4 f4 f4=true from decide_eq_true ⟨rfl,rfl,rfl,rfl,fun _ _=>rfl⟩];rfl,A7.out.trans az2⟩
end Ti
end
section
open Go.RowKit Go.Deep Tf Cu
namespace Ti
theorem enc_hd{fc n ls ms:Nat}{f:Nat->Nat}:enc fc n ls ms f 0=84/\enc fc n ls ms f 1=73/\enc fc n ls ms f 2=76/\enc fc n ls ms f 3=69/\enc fc n ls ms f 4=fc/\enc fc n ls ms f 5=n:=⟨rfl,rfl,rfl,rfl,rfl,rfl⟩
theorem enc_ok{face:Int}{m ls ms:Nat}{f:Nat->Nat}(h:okT face m f ls ms=true)(hf: ∀i,i<m->f i<4294967296)(hls:ls<4294967296)(hms:ms<4294967296):
  dErr (14+4*m) (enc face.toNat (sideN m) ls ms f)=0/\sideN m*sideN m=m/\num (enc face.toNat (sideN m) ls ms f) 6=ls/\num (enc face.toNat (sideN m) ls ms f) 10=ms/\ ∀i,i<m->dec (enc face.toNat (sideN m) ls ms f) i=f i:=by
 obtain⟨h1,⟨h2,h3,h4⟩,h5⟩:=kH h
 have ends:=num_ends (face:=face.toNat) (n:=sideN m) (f:=f) hls hms
 have D: ∀i,i<m->dec (enc face.toNat (sideN m) ls ms f) i=f i:=fun i hi=>dec_enc (fun j hj=>hf j (by omega))
 refine⟨?_,h4,ends.1,ends.2,D⟩
 obtain⟨e0,e1,e2,e3,e4,e5⟩:=enc_hd (fc:=face.toNat) (n:=sideN m) (ls:=ls) (ms:=ms) (f:=f)
 have d0:derr (14+4*m) (enc face.toNat (sideN m) ls ms f)=0:=by
  unfold derr
  rw[e0,e1,e2,e3,e4,e5,h4,if_neg (by omega),if_neg (fun q=>q ⟨⟨rfl,rfl,rfl,rfl⟩,by omega,h2,h3⟩),if_neg (by omega),if_neg (by omega)]
 unfold dErr
 rw[d0,if_neg (by decide),e4,e5,h4,ends.1,ends.2,qF D,show((face.toNat:Nat):Int)=face by omega,if_pos h]
end Ti
end
section
open Go.RowKit Go.Deep
namespace T8
def Own(B:Nat)(v:Value)(l:List Nat)(w:World):Prop:=w.ownsRow B 5 1 v l.length (l.map fun x:Nat=>Value.int .u8 (x:Int))
theorem Own.at{B:Nat}{v:Value}{l:List Nat}{w:World}(h:Own B v l w)(hl: ∀x ∈ l,x<256): ∃a0 cap,v=.slice a0 l.length cap/\Ti.IsW .u8 256 w a0 l.length (fun j=>l.getD j 0)/\l.length<=cap/\cap<=9223372036854775807:=by
 rcases h.2 with⟨rfl,h0⟩ | ⟨g,cap,cur,rfl,hb,hg,h1,h2,h3,h4⟩
 ·exact⟨none,0,by rw[h0],fun k hk=>by omega,by omega,by omega⟩
 ·refine⟨some ⟨g,0,none⟩,cap,rfl,fun k hk=> ?_,h1,by unfold maxLen at h2;omega⟩
  have hx:l.getD k 0=l[k]:=by simp[List.getD,hk]
  refine⟨by dsimp only;rw[hx];exact hl _ (List.getElem_mem _),g,0,rfl,lt_of_block hg,?_⟩
  have e:=h.cells (g:=g) rfl k (.int .u8 ((l.getD k 0:Nat):Int)) (by simp[hk])
  rw[Sh.bL]at e
  exact e
theorem Own.alloc{B:Nat}{v:Value}{l:List Nat}{w:World}(h:Own B v l w)(O:Obj):Own B v l (w.alloc O):=World.ownsRow.alloc h O
theorem Own.row{B g n cap:Nat}{l:List Nat}{w:World}(h:Own B (.slice (some ⟨g,0,none⟩) n cap) l w):B<=g/\n<=cap/\ ∃cur:Array Value,w.heap[g]? =some (.cells cur 5)/\cur.size=cap/\ ∀i,i<l.length->cur[i]? =some (.int .u8 ((l.getD i 0:Nat):Int)):=by
 rcases h.2 with⟨e,_⟩ | ⟨g2,cap2,cur,e,hb,hg,h1,h2,h3,h4⟩
 ·cases e
 ·injection e with e1 e2 e3
  injection e1 with e4
  injection e4 with e5
  subst e5 e3
  refine⟨hb,by omega,cur,hg,by rw[h3,Nat.mul_one],fun i hi=> ?_⟩
  have q:=congrArg (fun z:List Value=>z[i]?) h4
  simp only[Nat.mul_one]at q
  rw[List.getElem?_take,if_pos hi]at q
  rw[<- Array.getElem?_toList,q]
  simp[hi]
theorem bM{ops:Array Oper}{rest:List Oper}{o:Oper}{a:Act}{w:World}{Q:Exit->Act->World->Prop}(hgd:o.guard=none)(s x:Operand)
  (ho:o.op=.call {callee:=.builtin .append,args:= #[s,x],argTypes:= #[26,26]})
  (B:Nat) (v:Value) (l:List Nat) (hs:a.eval s=v) (hown:Own B v l w)
  (ad:Addr) (m c:Nat) (news:List Nat) (hx:a.eval x=.slice (some ad) m c) (hl:news.length=m) (hnews: ∀j u,(news.map fun x:Nat=>Value.int .u8 (x:Int))[j]? =some u->w.cell? (ad.add j)=some u)
  (hm:0<m) (hlen:l.length+m<=1048576) (hB:B<=w.heap.size) (nm:Nat) (hnm:l.length+m=nm)
  (h: ∀g cap w',Own B (.slice (some ⟨g,0,none⟩) nm cap) (l++news) w'->w.grownBy w' v.ownBlock->(v.ownBlock=some g\/g=w.heap.size)->B<=g->wpList prog ops Q rest (a.put o.dst (.slice (some ⟨g,0,none⟩) nm cap)) w'):wpList prog ops Q (o :: rest) a w:=by
 subst hnm
 obtain⟨i0,hi,hz⟩:=Option.map_eq_some_iff.1 Ti.gL
 simp only[Prod.mk.injEq]at hz
 obtain⟨hz0,hz1,hz2⟩:=hz
 refine wpList_append_lies w hgd s x _ ho B 5 i0 (.int .u8 0) 1 1 underlying26 hi hz0 hz1 hz2 rfl (by decide) v l.length (l.map fun x:Nat=>Value.int .u8 (x:Int)) hs hown ad m c (news.map fun x:Nat=>Value.int .u8 (x:Int)) hx (by simpa using hl) hnews (fun u hu=>by
  obtain⟨y,_,rfl⟩:=List.mem_map.1 hu
  rfl) hm (by unfold maxLen;omega) (by omega) hB _ rfl ?_
 intro g cap w' o1 g1 e1 _
 have hb:B<=g:=by
  rcases o1.2 with⟨q,_⟩ | ⟨g2,_,_,q,hb,_⟩
  ·cases q
  ·injection q with q1 q2 q3
   injection q1 with q4
   injection q4 with q5
   omega
 refine h g cap w' ?_ g1 e1 hb
 unfold Own
 rw[List.length_append,List.map_append,hl]
 exact o1
theorem kP{w:World}{b o n:Nat}{f:Nat->Nat}(h:Ti.IsW .u8 256 w (some ⟨b,o,none⟩) n f): ∀j u,(((List.range n).map f).map fun x:Nat=>Value.int .u8 (x:Int))[j]? =some u->w.cell? ((⟨b,o,none⟩:Addr).add j)=some u:=fun j u hu=>by
 have hj:j<n:=by
  rcases Nat.lt_or_ge j n with h1 | h1
  ·exact h1
  ·rw[List.getElem?_eq_none (by simpa using h1)]at hu;cases hu
 simp[hj]at hu
 rw[Sh.bL,<- hu]
 exact(h.at0 hj).2.2
end T8
namespace T32
def Own(B:Nat)(v:Value)(l:List Nat)(w:World):Prop:=w.ownsRow B 22 1 v l.length (l.map fun x:Nat=>Value.int .u32 (x:Int))
theorem Own.at{B:Nat}{v:Value}{l:List Nat}{w:World}(h:Own B v l w)(hl: ∀x ∈ l,x<4294967296): ∃a0 cap,v=.slice a0 l.length cap/\Ti.IsW .u32 4294967296 w a0 l.length (fun j=>l.getD j 0)/\l.length<=cap/\cap<=9223372036854775807:=by
 rcases h.2 with⟨rfl,h0⟩ | ⟨g,cap,cur,rfl,hb,hg,h1,h2,h3,h4⟩
 ·exact⟨none,0,by rw[h0],fun k hk=>by omega,by omega,by omega⟩
 ·refine⟨some ⟨g,0,none⟩,cap,rfl,fun k hk=> ?_,h1,by unfold maxLen at h2;omega⟩
  have hx:l.getD k 0=l[k]:=by simp[List.getD,hk]
  refine⟨by dsimp only;rw[hx];exact hl _ (List.getElem_mem _),g,0,rfl,lt_of_block hg,?_⟩
  have e:=h.cells (g:=g) rfl k (.int .u32 ((l.getD k 0:Nat):Int)) (by simp[hk])
  rw[Sh.bL]at e
  exact e
theorem Own.alloc{B:Nat}{v:Value}{l:List Nat}{w:World}(h:Own B v l w)(O:Obj):Own B v l (w.alloc O):=World.ownsRow.alloc h O
theorem Own.row{B g n cap:Nat}{l:List Nat}{w:World}(h:Own B (.slice (some ⟨g,0,none⟩) n cap) l w):B<=g/\n<=cap/\ ∃cur:Array Value,w.heap[g]? =some (.cells cur 22)/\cur.size=cap/\ ∀i,i<l.length->cur[i]? =some (.int .u32 ((l.getD i 0:Nat):Int)):=by
 rcases h.2 with⟨e,_⟩ | ⟨g2,cap2,cur,e,hb,hg,h1,h2,h3,h4⟩
 ·cases e
 ·injection e with e1 e2 e3
  injection e1 with e4
  injection e4 with e5
  subst e5 e3
  refine⟨hb,by omega,cur,hg,by rw[h3,Nat.mul_one],fun i hi=> ?_⟩
  have q:=congrArg (fun z:List Value=>z[i]?) h4
  simp only[Nat.mul_one]at q
  rw[List.getElem?_take,if_pos hi]at q
  rw[<- Array.getElem?_toList,q]
  simp[hi]
theorem bM{ops:Array Oper}{rest:List Oper}{o:Oper}{a:Act}{w:World}{Q:Exit->Act->World->Prop}(hgd:o.guard=none)(s x:Operand)
  (ho:o.op=.call {callee:=.builtin .append,args:= #[s,x],argTypes:= #[23,23]})
  (B:Nat) (v:Value) (l:List Nat) (hs:a.eval s=v) (hown:Own B v l w)
  (ad:Addr) (m c:Nat) (news:List Nat) (hx:a.eval x=.slice (some ad) m c) (hl:news.length=m) (hnews: ∀j u,(news.map fun x:Nat=>Value.int .u32 (x:Int))[j]? =some u->w.cell? (ad.add j)=some u)
  (hm:0<m) (hlen:l.length+m<=1048576) (hB:B<=w.heap.size) (nm:Nat) (hnm:l.length+m=nm)
  (h: ∀g cap w',Own B (.slice (some ⟨g,0,none⟩) nm cap) (l++news) w'->w.grownBy w' v.ownBlock->(v.ownBlock=some g\/g=w.heap.size)->B<=g->wpList prog ops Q rest (a.put o.dst (.slice (some ⟨g,0,none⟩) nm cap)) w'):wpList prog ops Q (o :: rest) a w:=by
 subst hnm
 obtain⟨i0,hi,hz⟩:=Option.map_eq_some_iff.1 Ti.dZ
 simp only[Prod.mk.injEq]at hz
 obtain⟨hz0,hz1,hz2⟩:=hz
 refine wpList_append_lies w hgd s x _ ho B 22 i0 (.int .u32 0) 1 4 underlying23 hi hz0 hz1 hz2 rfl (by decide) v l.length (l.map fun x:Nat=>Value.int .u32 (x:Int)) hs hown ad m c (news.map fun x:Nat=>Value.int .u32 (x:Int)) hx (by simpa using hl) hnews (fun u hu=>by
  obtain⟨y,_,rfl⟩:=List.mem_map.1 hu
  rfl) hm (by unfold maxLen;omega) (by omega) hB _ rfl ?_
 intro g cap w' o1 g1 e1 _
 have hb:B<=g:=by
  rcases o1.2 with⟨q,_⟩ | ⟨g2,_,_,q,hb,_⟩
  ·cases q
  ·injection q with q1 q2 q3
   injection q1 with q4
   injection q4 with q5
   omega
 refine h g cap w' ?_ g1 e1 hb
 unfold Own
 rw[List.length_append,List.map_append,hl]
 exact o1
theorem kP{w:World}{b o n:Nat}{f:Nat->Nat}(h:Ti.IsW .u32 4294967296 w (some ⟨b,o,none⟩) n f): ∀j u,(((List.range n).map f).map fun x:Nat=>Value.int .u32 (x:Int))[j]? =some u->w.cell? ((⟨b,o,none⟩:Addr).add j)=some u:=fun j u hu=>by
 have hj:j<n:=by
  rcases Nat.lt_or_ge j n with h1 | h1
  ·exact h1
  ·rw[List.getElem?_eq_none (by simpa using h1)]at hu;cases hu
 simp[hj]at hu
 rw[Sh.bL,<- hu]
 exact(h.at0 hj).2.2
end T32
end
section
open Go.RowKit Go.Deep
namespace Ti
theorem fM{b:Nat}{t:TypeId}{N:Nat}: ∀(news:List Value) (n:Nat) (f:Nat->Value) (w:World),w.rowIs b t N f->n+news.length<=N->(w.setCells b n news).rowIs b t N (fun j=>if n<=j then(news[j - n]?).getD (f j)else f j)/\Abx w b N t (w.setCells b n news)
 | [],n,f,w,h,_=>by
  refine⟨h.congr (fun i _=>by simp),?_⟩
  obtain⟨c,hb,hn,_⟩:=h
  exact(Ab.refl w).x hn hb
 | x :: xs,n,f,w,h,hn=>by
  rw[List.length_cons]at hn
  have h1:=h.set n x
  obtain⟨r1,r2⟩:=fM xs (n+1) _ _ h1 (by omega)
  refine⟨r1.congr (fun j _=> ?_),?_⟩
  ·by_cases c:n<=j
   ·by_cases c2:j=n
    ·subst c2
     simp[show¬j+1<=j by omega]
    ·have e:j - n=(j - (n+1))+1:=by omega
     simp[c,c2,show n+1<=j by omega,e]
   ·simp[c,show¬n+1<=j by omega,show¬j=n by omega]
  ·obtain⟨c,hb,hc,_⟩:=h
   have a1:Abx w b N t (w.setCell ⟨b,n,none⟩ x):=((Ab.refl w).x hc hb).set n x
   obtain⟨⟨p1,p2,p3,p4,p5⟩,_⟩:=a1
   obtain⟨⟨q1,q2,q3,q4,q5⟩,q6⟩:=r2
   exact⟨⟨q1.trans p1,q2.trans p2,q3.trans p3,Nat.le_trans p4 q4,fun k hk hne=>(q5 k (by omega) hne).trans (p5 k hk hne)⟩,q6⟩
theorem aK{P:Program}{ops:Array Oper}{o:Oper}{a:Act}{w:World}{K:Act->World->Prop}{Q:Exit->Act->World->Prop}{E:Prop}(hgd:o.guard=none)(s x:Operand)(t:TypeId)
  (ho:o.op=.call {callee:=.builtin .append,args:= #[s,x],argTypes:= #[t,t]})
  (e:TypeId) (i:TypeInfo) (ht:P.underlying t=some (.slice e)) (hi:P.info? e=some i) (hsz:i.size=1)
  (b n cap:Nat) (f:Nat->Value) (hs:a.eval s=.slice (some ⟨b,0,none⟩) n cap) (row:w.rowIs b e cap f)
  (src:Value) (m:Nat) (news:List Value) (hx:a.eval x=src) (hsrc:Src P 1 t src m news w) (hroom:n+m<=cap) (nm:Nat) (hnm:n+m=nm)
  (h: ∀w',w'.rowIs b e cap (fun j=>if n<=j then(news[j - n]?).getD (f j)else f j)->Abx w b cap e w'->K (a.put o.dst (.slice (some ⟨b,0,none⟩) nm cap)) w'):
  if Region.wanted o (yielded ops a.tmps)=true then Oper.wp P o a w K Q else E:=by
 subst hnm
 have hw:Region.wanted o (yielded ops a.tmps)=true:=by simp[Region.wanted,hgd]
 rw[if_pos hw]
 have hl:news.length=m:=by have:=hsrc.newsLen;omega
 have hr:=run_append_room_src (P:=P) w t t o.type e i ht hi b 0 n cap src m news (by rw[hsz];exact hsrc) hroom
  (fun j hj=>by rw[hsz];simp only[Nat.zero_add,Nat.mul_one];rw[row.cell (by omega)];rfl) (fun j _=>by rw[hsz];exact row.frozen _)
 rw[hsz,Nat.zero_add,Nat.mul_one]at hr
 obtain⟨r1,r2⟩:=fM news n f w row (by omega)
 unfold Oper.wp execOp
 simp only[ho,resolve,invoke,builtin,Sem.run_bind,Sem.run_pure,Result.andThen_ok,List.map_toArray,List.map_cons,List.map_nil,hs,hx,hr]
 exact h _ r1 r2
theorem eM: ∃i,Try.prog.info? 22=some i/\i.size=1:=by
 obtain⟨i0,hi,hz⟩:=Option.map_eq_some_iff.1 dZ
 simp only[Prod.mk.injEq]at hz
 exact⟨i0,hi,hz.2.1⟩
theorem src_w{w:World}{pb:Option Addr}{L:Nat}{f:Nat->Nat}(h:IsW .u32 4294967296 w pb L f)(cb:Nat):Src prog 1 23 (.slice pb L cb) L ((List.range L).map fun k=>Value.int .u32 ((f k:Nat):Int)) w:=by
 have one: ∀u ∈ (List.range L).map (fun k=>Value.int .u32 ((f k:Nat):Int)),u.oneCell'=true:=fun u hu=>by
  obtain⟨k,_,rfl⟩:=List.mem_map.1 hu
  rfl
 cases pb with
 | none=>
  have:L=0:=by
   rcases Nat.eq_zero_or_pos L with h0 | h0
   ·exact h0
   ·obtain⟨b,o,h2⟩:=h.some0 h0
    cases h2
  subst this
  exact Src.ofNil w underlying23 cb
 | some a=>
  refine Src.ofSlice w underlying23 a L cb _ (by simp) (fun j u hu=> ?_) one
  have hj:j<L:=by
   rcases Nat.lt_or_ge j L with h1 | h1
   ·exact h1
   ·rw[List.getElem?_eq_none (by simpa using h1)]at hu;cases hu
  obtain⟨_,b,o,h2,_,h4⟩:=h j hj
  cases h2
  simp[hj]at hu
  rw[Sh.bL,<- hu]
  exact h4
theorem cV{w:World}{q x y:Nat}(h:w.heap[q]? =some (.cells #[.int .u32 (x:Int),.int .u32 (y:Int)] 22 (0,0))):Src prog 1 23 (.slice (some ⟨q,0,none⟩) 2 2) 2 [.int .u32 (x:Int),.int .u32 (y:Int)] w:=
 Src.ofSlice w underlying23 ⟨q,0,none⟩ 2 2 [.int .u32 (x:Int),.int .u32 (y:Int)] rfl (World.news_of_block h) (fun u hu=>by simp at hu;rcases hu with rfl | rfl<;>rfl)
theorem kQ(L:Nat)(hL:L<=1024)(w:World):(Instr.makeSlice 23 (.int .i64 0) (.int .i64 ((L:Int)+2))).run prog w=.ok (.slice (some ⟨w.heap.size,0,none⟩) 0 (L+2)) (w.alloc (.cells (madeCells #[.int .u32 0] (L+2)) 22)):=by
 obtain⟨i,hi,hzz⟩:=Option.map_eq_some_iff.1 dZ
 simp only[Prod.mk.injEq]at hzz
 obtain⟨h1,h2,h3⟩:=hzz
 have h:=run_make (P:=prog) w 23 22 i (.int .u32 0) underlying23 hi h1 .i64 .i64 0 ((L:Int)+2) (by omega) (by omega) (by rw[h3];omega) (by omega)
 rw[h2,Nat.mul_one]at h
 have e:((L:Int)+2).toNat=L+2:=by omega
 rw[e]at h
 exact h
theorem kR(L:Nat)(hL:L<=4110)(w:World):(Instr.makeSlice 26 (.int .i64 0) (.int .i64 ((L:Int)+2))).run prog w=.ok (.slice (some ⟨w.heap.size,0,none⟩) 0 (L+2)) (w.alloc (.cells (madeCells #[.int .u8 0] (L+2)) 5)):=by
 obtain⟨i,hi,hzz⟩:=Option.map_eq_some_iff.1 gL
 simp only[Prod.mk.injEq]at hzz
 obtain⟨h1,h2,h3⟩:=hzz
 have h:=run_make (P:=prog) w 26 5 i (.int .u8 0) underlying26 hi h1 .i64 .i64 0 ((L:Int)+2) (by omega) (by omega) (by rw[h3];omega) (by omega)
 rw[h2,Nat.mul_one]at h
 have e:((L:Int)+2).toNat=L+2:=by omega
 rw[e]at h
 exact h
def mk2(L:Nat)(g:Nat->Value)(m:Value)(j:Nat):Value:=if j<L then g j else m
theorem gS(L:Nat)(g:Nat->Value)(m z:Value)(j:Nat)(hj:j<L+2):
  (if L<=j then([m,m][j - L]?).getD (if 0<=j then(((List.range L).map g)[j - 0]?).getD z else z)else(if 0<=j then(((List.range L).map g)[j - 0]?).getD z else z))=mk2 L g m j:=by
 unfold mk2
 by_cases c:j<L
 ·simp[c,show¬L<=j by omega]
 ·have e:j - L=0\/j - L=1:=by omega
  rcases e with e | e<;>rw[e]<;>simp[c,show L<=j by omega]
theorem mk2_lo{L:Nat}{g:Nat->Value}{m:Value}{j:Nat}(h:j<L):mk2 L g m j=g j:=if_pos h
theorem kS{L:Nat}{g:Nat->Value}{m:Value}{j:Nat}(h:L<=j):mk2 L g m j=m:=if_neg (by omega)
theorem kT(V:World)(z:Value)(n:Nat)(t:TypeId):(V.drew.alloc (.cells (madeCells #[z] n) t)).rowIs V.heap.size t n (fun _=>z):=World.rowIs_made V.drew z n t
theorem kU(V:World)(z:Value)(n:Nat)(t:TypeId)(O:Obj):((V.drew.alloc (.cells (madeCells #[z] n) t)).alloc O).rowIs V.heap.size t n (fun _=>z):=(World.rowIs_made V.drew z n t).alloc O
theorem kV(V:World)(z:Value)(n:Nat)(t:TypeId)(O:Obj):((V.drew.alloc O).alloc (.cells (madeCells #[z] n) t)).rowIs (V.heap.size+1) t n (fun _=>z):=by
 have h:=World.rowIs_made (V.drew.alloc O) z n t
 have e:(V.drew.alloc O).heap.size=V.heap.size+1:=by
  show(V.heap.push O).size=_
  simp
 rwa [e]at h
theorem kW(V:World)(M O:Obj):((V.drew.alloc M).alloc O).heap[V.heap.size+1]? =some O:=heap_alloc2_new V.drew M O
theorem kX(V:World)(M O:Obj):((V.drew.alloc O).alloc M).heap[V.heap.size]? =some O:=heap_alloc2_old V.drew O M
theorem bR{w w':World}{b N q:Nat}{e:TypeId}{o:Obj}(k:Abx w b N e w')(h:w.heap[q]? =some o)(hne:q≠b):w'.heap[q]? =some o:=k.heap hne h
def Blk(g n:Nat)(T:TypeId)(w:World):Prop:= ∃cs:Array Value,cs.size=n/\w.heap[g]? =some (.cells cs T)
theorem Blk.free{g n:Nat}{T:TypeId}{w:World}(h:Blk g n T w)(k:Nat):w.frozen? ⟨g,k,none⟩=false:=by
 obtain⟨cs,_,h7⟩:=h
 exact aC h7 k
theorem Blk.cell{g n:Nat}{T:TypeId}{w:World}(h:Blk g n T w){k:Nat}(hk:k<n): ∃u,w.cell? ⟨g,k,none⟩=some u:=by
 obtain⟨cs,h6,h7⟩:=h
 have e:=cell_of_row w g k cs T (0,0) h7
 rw[Array.getElem?_eq_getElem (by omega)]at e
 exact⟨_,e⟩
theorem Blk.set{g n:Nat}{T:TypeId}{w:World}(h:Blk g n T w)(k:Nat)(v:Value):Blk g n T (w.setCell ⟨g,k,none⟩ v):=by
 obtain⟨cs,h6,h7⟩:=h
 exact⟨cs.setIfInBounds k v,by simpa using h6,aH h7⟩
theorem Blk.lt{g n:Nat}{T:TypeId}{w:World}(h:Blk g n T w):g<w.heap.size:=by
 obtain⟨cs,h6,h7⟩:=h
 exact lt_of_block h7
theorem Blk.of{g n:Nat}{T:TypeId}{w:World}{f:Nat->Value}(h:w.rowIs g T n f):Blk g n T w:=by
 obtain⟨c,hb,hn,_⟩:=h
 exact⟨c,hn,hb⟩
end Ti
end
section
open Go.RowKit Go.Deep Tf Cu
namespace Ti
theorem mO{n c:Nat}{W:Nat->Int}(hn:1<=n/\n<=32)(hc:c<6)(h0: ∀i,i<6*(n*n)->0<=W i/\W i<=4503599627370496):
  (∀k,k<n*n->tb n W (c*(n*n)+k)<2139095040)/\okT ((c:Nat):Int) (n*n) (fun k=>tb n W (c*(n*n)+k)) (lo (fun k=>tb n W (c*(n*n)+k)) (n*n - 1)) (hi (fun k=>tb n W (c*(n*n)+k)) (n*n - 1))=true:=by
 have p:c*(n*n)+n*n<=6*(n*n):=by
  have e:c*(n*n)+n*n=(c+1)*(n*n):=(Nat.succ_mul c (n*n)).symm
  rw[e]
  exact Nat.mul_le_mul_right _ (by omega)
 have b: ∀k,k<n*n->tb n W (c*(n*n)+k)<2139095040:=fun k hk=>tb_lt (h0 _ (by omega)).2
 refine⟨b,oX.2 ⟨by omega,?_,b,rfl,rfl⟩⟩
 rw[sideN_sq hn.1 hn.2]
 omega
theorem tcv_0(n m:Nat)(W:Nat->Int)(gs:Nat->Nat)(c:Nat):tcv n m W gs (c*4)=.int .i64 ((c:Nat):Int):=by
 unfold tcv
 rw[if_pos (by omega),show c*4/4=c by omega]
theorem tcv_1(n m:Nat)(W:Nat->Int)(gs:Nat->Nat)(c:Nat):tcv n m W gs (c*4+1)=.int .u32 ((lo (fun k=>tb n W (c*m+k)) (m - 1):Nat):Int):=by
 unfold tcv
 rw[if_neg (by omega),if_pos (by omega),show(c*4+1)/4=c by omega]
theorem tcv_2(n m:Nat)(W:Nat->Int)(gs:Nat->Nat)(c:Nat):tcv n m W gs (c*4+2)=.int .u32 ((hi (fun k=>tb n W (c*m+k)) (m - 1):Nat):Int):=by
 unfold tcv
 rw[if_neg (by omega),if_neg (by omega),if_pos (by omega),show(c*4+2)/4=c by omega]
theorem mP(n m:Nat)(W:Nat->Int)(gs:Nat->Nat)(c:Nat):tcv n m W gs (c*4+3)=.slice (some ⟨gs c,0,none⟩) m m:=by
 unfold tcv
 rw[if_neg (by omega),if_neg (by omega),if_neg (by omega),show(c*4+3)/4=c by omega]
end Ti
end
section
open Go.RowKit Go.Deep
namespace Ti
def AbP(V:World)(lo hi:Nat)(w:World):Prop:=w.os=V.os/\w.tape=V.tape/\w.output=V.output/\V.heap.size<=w.heap.size/\ ∀k,k<V.heap.size->(k<lo\/hi<=k)->w.heap[k]? =V.heap[k]?
theorem AbP.refl(V:World)(lo hi:Nat):AbP V lo hi V:=⟨rfl,rfl,rfl,Nat.le_refl _,fun _ _ _=>rfl⟩
theorem AbP.to{V w w':World}{lo hi:Nat}(h:AbP V lo hi w)(a:Ab w w'):AbP V lo hi w':=by
 obtain⟨h1,h2,h3,h4,h5⟩:=h
 exact⟨a.os.trans h1,a.tape.trans h2,a.output.trans h3,Nat.le_trans h4 a.size,fun k hk hp=>(a.block k (by omega)).trans (h5 k hk hp)⟩
theorem AbP.set{V w:World}{lo hi:Nat}(h:AbP V lo hi w){g k:Nat}(hp:lo<=g/\g<hi)(v:Value):AbP V lo hi (w.setCell ⟨g,k,none⟩ v):=by
 obtain⟨h1,h2,h3,h4,h5⟩:=h
 refine⟨h1,h2,h3,by simpa [World.setCell]using h4,fun i hi hn=>(Below.heap_setCell _ _ _ _ (fun e=> ?_)).trans (h5 i hi hn)⟩
 have e2:i=g:=e
 omega
theorem AbP.grown{V wr w':World}{lo hi g:Nat}(h:AbP V lo hi wr)(hg:wr.grownBy w' (some g))(hr:lo<=g/\g<hi):AbP V lo hi w':=by
 obtain⟨h1,h2,h3,h4,h5⟩:=h
 refine⟨hg.os.trans h1,hg.tape.trans h2,hg.output.trans h3,by have:=hg.size;omega,fun k hk hn=> ?_⟩
 refine(hg.block k (by omega) (fun e=> ?_)).trans (h5 k hk hn)
 injection e with e
 omega
theorem AbP.ab{w0 V w:World}{lo hi:Nat}(h:AbP V lo hi w)(a:Ab w0 V)(hp:w0.heap.size<=lo):Ab w0 w:=by
 obtain⟨h1,h2,h3,h4,h5⟩:=h
 exact⟨h1.trans a.os,h2.trans a.tape,h3.trans a.output,Nat.le_trans (Below.size a) h4,fun k hk=>(h5 k (Nat.lt_of_lt_of_le hk (Below.size a)) (.inl (by omega))).trans (a.block k hk)⟩
def Geo(lo hi gl:Nat)(gs:Nat->Nat):Prop:=lo<=gl/\(∀j,j<6->gl<gs j/\gs j<hi)/\ ∀i j,i<j->j<6->gs i<gs j
theorem Geo.ne{lo hi gl:Nat}{gs:Nat->Nat}(g:Geo lo hi gl gs){i j:Nat}(hi':i<6)(hj:j<6)(h:i≠j):gs i≠gs j:=by
 rcases Nat.lt_or_ge i j with c | c
 ·have:=g.2.2 i j c hj
  omega
 ·have:=g.2.2 j i (by omega) hi'
  omega
def Wr(V:World)(lo hi gl:Nat)(gs:Nat->Nat)(m c:Nat)(w:World):Prop:=
 AbP V lo hi w/\Blk gl 24 25 w/\ ∀j,c<=j->j<6->w.cell? ⟨gl,j*4+3,none⟩=some (.slice (some ⟨gs j,0,none⟩) m m)/\ ∃f:Nat->Nat,w.rowIs (gs j) 22 m (fun k=>.int .u32 ((f k:Nat):Int))
theorem Blk.other{g n g' k:Nat}{T:TypeId}{w:World}(h:Blk g n T w)(hne:g≠g')(v:Value):Blk g n T (w.setCell ⟨g',k,none⟩ v):=by
 obtain⟨cs,h6,h7⟩:=h
 exact⟨cs,h6,(aN hne).trans h7⟩
theorem Wr.put{V w:World}{lo hi gl m c:Nat}{gs:Nat->Nat}(h:Wr V lo hi gl gs m c w)(g:Geo lo hi gl gs)(hc:c<6)(k:Nat):Wr V lo hi gl gs m c (w.setCell ⟨gs c,k,none⟩ (.int .u32 99)):=by
 obtain⟨h1,h2,h3⟩:=h
 have gc:=g.2.1 c hc
 refine⟨h1.set ⟨by have:=g.1;omega,gc.2⟩ _,h2.other (by omega) _,fun j hj hj6=> ?_⟩
 obtain⟨p,f,q⟩:=h3 j hj hj6
 refine⟨(World.cell?_of_block (aN (by show gl≠gs c;omega))).trans p,?_⟩
 by_cases e:j=c
 ·subst e
  refine⟨fun i=>if i=k then 99 else f i,(q.set k _).congr (fun i _=> ?_)⟩
  by_cases e2:i=k
  ·simp[e2]
  ·simp[e2]
 ·exact⟨f,q.setOther (a:=⟨gs c,k,none⟩) (g.ne hj6 hc e) _⟩
theorem jI{w:World}{g m:Nat}{f:Nat->Nat}(h:w.rowIs g 22 m (fun k=>.int .u32 ((f k:Nat):Int)))(hm:m<=1024):T32.Own g (.slice (some ⟨g,0,none⟩) m m) ((List.range m).map f) w:=by
 obtain⟨c,hb,hc,hf⟩:=h
 refine⟨by simp,.inr ⟨g,m,c,by simp,Nat.le_refl _,hb,by simp,by unfold maxLen;omega,by rw[hc,Nat.mul_one],?_⟩⟩
 apply List.ext_getElem?
 intro i
 rw[List.length_map,List.length_range,Nat.mul_one]
 by_cases hi:i<m
 ·rw[List.getElem?_take,if_pos hi,Array.getElem?_toList,hf i hi]
  simp[hi]
 ·rw[List.getElem?_eq_none (by simp;omega),List.getElem?_eq_none (by simp;omega)]
theorem Wr.mid{V w w1:World}{lo hi gl m c:Nat}{gs:Nat->Nat}{O:Obj}(h:Wr V lo hi gl gs m c w)(g:Geo lo hi gl gs)(hc:c<6)(hg:(w.alloc O).grownBy w1 (Value.slice (some ⟨gs c,0,none⟩) m m).ownBlock):Wr V lo hi gl gs m (c+1) w1/\Blk gl 24 25 w1:=by
 have e:(Value.slice (some ⟨gs c,0,none⟩) m m).ownBlock=some (gs c):=by simp[Value.ownBlock]
 rw[e]at hg
 obtain⟨h1,h2,h3⟩:=h
 have gc:=g.2.1 c hc
 have blk: ∀k,k<w.heap.size->k≠gs c->w1.heap[k]? =w.heap[k]? :=fun k hk hne=>by
  refine(hg.block k (by simp;omega) (fun q=>hne (by injection q))).trans (Below.heap_alloc _ _ _ hk)
 have b2:Blk gl 24 25 w1:=by
  obtain⟨cs,h6,h7⟩:=h2
  exact⟨cs,h6,(blk gl (lt_of_block h7) (by omega)).trans h7⟩
 refine⟨⟨(h1.to (bl1 _ _)).grown hg ⟨by have:=g.1;omega,gc.2⟩,b2,fun j hj hj6=> ?_⟩,b2⟩
 obtain⟨p,f,q⟩:=h3 j (by omega) hj6
 exact⟨(World.cell?_of_block (blk gl h2.lt (by omega))).trans p,f,q.of_block (blk _ q.lt (g.ne hj6 hc (by omega)))⟩
theorem Wr.link{V w:World}{lo hi gl m c:Nat}{gs:Nat->Nat}(h:Wr V lo hi gl gs m (c+1) w)(g:Geo lo hi gl gs)(hc:c<6)(v:Value):Wr V lo hi gl gs m (c+1) (w.setCell ⟨gl,c*4+3,none⟩ v):=by
 obtain⟨h1,h2,h3⟩:=h
 have gc:=g.2.1 c hc
 refine⟨h1.set ⟨g.1,by omega⟩ _,h2.set _ _,fun j hj hj6=> ?_⟩
 obtain⟨p,f,q⟩:=h3 j hj hj6
 have gj:=g.2.1 j hj6
 refine⟨?_,f,q.setOther (a:=⟨gl,c*4+3,none⟩) (show gs j≠gl by omega) _⟩
 obtain⟨cs,h6,h7⟩:=h2
 rw[<- p,cell_of_row _ _ _ _ _ _ (aH h7),cell_of_row _ _ _ _ _ _ h7]
 rw[Array.getElem?_setIfInBounds,if_neg (by omega)]
theorem Wr.new{V:World}{lo hi gl m n:Nat}{gs:Nat->Nat}{W:Nat->Int}(l:V.rowIs gl 25 24 (tcv n m W gs))(r: ∀j,j<6->V.rowIs (gs j) 22 m (fun k=>.int .u32 ((tb n W (j*m+k):Nat):Int))):Wr V lo hi gl gs m 0 V:=by
 refine⟨AbP.refl _ _ _,Blk.of l,fun j _ hj=>⟨?_,_,r j hj⟩⟩
 rw[l.cell (i:=j*4+3) (by omega),mP]
end Ti
end
section
open Go.RowKit Go.Deep Tf Cu
namespace Ti
theorem jJ{L:Nat}(hL:L<=65536):IntKind.i64.wrap ((L:Int)+2)=(L:Int)+2:=by
 rw[IntKind.wrap_i64]
 omega
theorem jK(v:World)(n:Nat)(hn:n<=70368744177664):T8.Own v.heap.size (.slice (some ⟨v.heap.size,0,none⟩) 0 n) [] (v.alloc (.cells (madeCells #[.int .u8 0] n) 5)):=by
 obtain⟨c,hb,hc,_⟩:=World.rowIs_made v (.int .u8 0) n 5
 exact⟨by simp,.inr ⟨v.heap.size,n,c,rfl,Nat.le_refl _,hb,Nat.zero_le _,by unfold maxLen;omega,by rw[hc,Nat.mul_one],by simp⟩⟩
theorem byl_n(E:Nat->Nat)(N:Nat):((List.range N).map E).length=N/\ ∀j,j<N->((List.range N).map E).getD j 0=E j:=⟨by simp,fun j hj=>by simp[List.getD,hj]⟩
theorem nb99(v:World): ∀j u,([9,9].map fun x:Nat=>Value.int .u8 (x:Int))[j]? =some u->(v.alloc (.cells #[.int .u8 9,.int .u8 9] 5)).cell? ((⟨v.heap.size,0,none⟩:Addr).add j)=some u:=fun j u hu=>by
 cases j with
 | zero=>
  simp at hu
  rw[Sh.bL,<- hu]
  exact aA 0 (heap_alloc_new _ _)
 | succ j=>
  cases j with
  | zero=>
   simp at hu
   rw[Sh.bL,<- hu]
   exact aA 1 (heap_alloc_new _ _)
  | succ j=>simp at hu
theorem mQ{B g n cap:Nat}{l:List Nat}{w:World}(h:T8.Own B (.slice (some ⟨g,0,none⟩) n cap) l w):n<=cap/\Blk g cap 5 w:=by
 obtain⟨_,h1,cur,hg,hs,_⟩:=h.row
 exact⟨h1,cur,hs,hg⟩
theorem pN{B g N cap:Nat}{E:Nat->Nat}{w:World}(h:T8.Own B (.slice (some ⟨g,0,none⟩) (N+2) cap) ((List.range N).map E++[9,9]) w)(hE: ∀i,E i<256):
  IsW .u8 256 w (some ⟨g,0,none⟩) N E/\w.cell? ⟨g,N,none⟩=some (.int .u8 9)/\w.cell? ⟨g,N+1,none⟩=some (.int .u8 9)/\cap<=9223372036854775807:=by
 obtain⟨_,cp,e,_,_,h3⟩:=h.at (fun x hx=>by
  rcases List.mem_append.1 hx with q | q
  ·obtain⟨j,_,rfl⟩:=List.mem_map.1 q
   exact hE j
  ·simp at q
   omega)
 injection e with _ _ e3
 obtain⟨_,_,cur,hg,hs,hc⟩:=h.row
 have ln:((List.range N).map E++[9,9]).length=N+2:=by simp
 have c: ∀i,i<N+2->w.cell? ⟨g,i,none⟩=some (.int .u8 ((((List.range N).map E++[9,9]).getD i 0:Nat):Int)):=fun i hi=>by
  rw[<- hc i (by omega)]
  exact cell_of_row _ _ i _ _ _ hg
 have d0:((List.range N).map E++[9,9]).getD N 0=9:=by simp[List.getD]
 have d1:((List.range N).map E++[9,9]).getD (N+1) 0=9:=by simp[List.getD]
 refine⟨fun k hk=>⟨hE k,g,0,rfl,lt_of_block hg,?_⟩,?_,?_,by omega⟩
 ·have q:=c k (by omega)
  have e0:((List.range N).map E++[9,9]).getD k 0=E k:=by simp[List.getD,hk,List.getElem?_append]
  rw[e0]at q
  rw[Nat.zero_add]
  exact q
 ·rw[c N (by omega),d0];rfl
 ·rw[c (N+1) (by omega),d1];rfl
theorem nc99(v:World): ∀j u,([99,99].map fun x:Nat=>Value.int .u32 (x:Int))[j]? =some u->(v.alloc (.cells #[.int .u32 99,.int .u32 99] 22)).cell? ((⟨v.heap.size,0,none⟩:Addr).add j)=some u:=fun j u hu=>by
 cases j with
 | zero=>
  simp at hu
  rw[Sh.bL,<- hu]
  exact aA 0 (heap_alloc_new _ _)
 | succ j=>
  cases j with
  | zero=>
   simp at hu
   rw[Sh.bL,<- hu]
   exact aA 1 (heap_alloc_new _ _)
  | succ j=>simp at hu
theorem mR{g m:Nat}{l:List Nat}{w:World}{O:Obj}(h:T32.Own g (.slice (some ⟨g,0,none⟩) m m) l w):g<=(w.alloc O).heap.size:=by
 obtain⟨_,_,cur,hg,_⟩:=h.row
 have:=lt_of_block hg
 simp
 omega
theorem dR{w:World}{g m:Nat}{F:Nat->Nat}{u:Value}(h:w.rowIs g 22 (m+2) (mk2 m (fun j=>.int .u32 ((F j:Nat):Int)) u))(hF: ∀i,i<m->F i<4294967296):IsW .u32 4294967296 w (some ⟨g,0,none⟩) m F:=fun k hk=>⟨hF k hk,g,0,rfl,h.lt,by
 have q:=h.cell (i:=k) (by omega)
 rw[mk2_lo hk]at q
 simpa using q⟩
end Ti
end
end Go.Proofs.Ytdeammhdedcjlaa
