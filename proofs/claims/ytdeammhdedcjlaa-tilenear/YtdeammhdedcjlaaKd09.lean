/-
  Some of the texts of this proof, one behind the other.
-/
import Derived.ProofKit
import Derived.OpenShut
import Derived.WalkLawsBesides
import Derived.Stop.Joined
import Derived.Carry
import Derived.Lib.SmallJoins
import Derived.Deep.SlicePairs
import Derived.Deep.Slices
import Derived.SizedLaws
import Derived.Test.YtdeammhdedcjlaaKd08
set_option maxRecDepth 100000
set_option maxHeartbeats 400000000
namespace Go.Proofs.Ytdeammhdedcjlaa
open _root_.Go.Proofs.Try
section
open Go.RowKit Go.Deep Tf Cu
namespace Ti
theorem pZ(side:Int)(pb:Option Addr)(lb cb:Nat)(B:Nat->Nat)(pw:Option Addr)(lw cw:Nat)(W:Nat->Int)(pt:Option Addr)(lt ct:Nat)(T:Nat->Int)(ps:Option Addr)(ls cs:Nat)(S:Nat->Nat)(sky st:Int)(w:World)(i1:IsFl w pb lb B)(i2:Sh.IsI w pw lw W)(i3:Sh.IsI w pt lt T)(i4:IsFl w ps ls S)(h:(Ss.chk side lb lw lt ls B W T S sky st).2≠0):
  Calls prog 12 #[.int .i64 side,.agg #[.slice pb lb cb,.slice pw lw cw,.slice pt lt ct,.slice ps ls cs,.int .i64 sky,.int .i64 st]] w fun e w'=>e=.returned (.tuple #[.slice none 0 0,.int .i64 (Ss.chk side lb lw lt ls B W T S sky st).2])/\Below w.heap.size w w':=
 tiles_no side pb lb cb pw lw cw pt lt ct ps ls cs sky st _ _ w (by simpa using h) (hid fun v a=>Ss.eY side pb lb cb B pw lw cw W pt lt ct T ps ls cs S sky st v (i1.below a) (i2.below a) (i3.below a) (i4.below a))
def TilesAt(W0:World)(n m:Nat)(W:Nat->Int)(gl:Nat)(gs:Nat->Nat)(w:World):Prop:=
 Below W0.heap.size W0 w/\W0.heap.size<=gl/\w.rowIs gl 25 24 (tcv n m W gs)/\(∀j,j<6->gl<gs j/\w.rowIs (gs j) 22 m (fun k=>.int .u32 ((tb n W (j*m+k):Nat):Int)))/\ ∀i j,i<j->j<6->gs i<gs j
theorem lH(side:Int)(pb:Option Addr)(lb cb:Nat)(B:Nat->Nat)(pw:Option Addr)(lw cw:Nat)(W:Nat->Int)(pt:Option Addr)(lt ct:Nat)(T:Nat->Int)(ps:Option Addr)(ls cs:Nat)(S:Nat->Nat)(sky st:Int)(w:World)(i1:IsFl w pb lb B)(i2:Sh.IsI w pw lw W)(i3:Sh.IsI w pt lt T)(i4:IsFl w ps ls S)(h:(Ss.chk side lb lw lt ls B W T S sky st).2=0):
  Calls prog 12 #[.int .i64 side,.agg #[.slice pb lb cb,.slice pw lw cw,.slice pt lt ct,.slice ps ls cs,.int .i64 sky,.int .i64 st]] w fun e w'=> ∃gl gs,e=.returned (.tuple #[.slice (some ⟨gl,0,none⟩) 6 6,.int .i64 0])/\TilesAt w side.toNat (side.toNat*side.toNat) W gl gs w':=by
 obtain⟨n,rfl,hn,hl,h0⟩:=oJ h
 have m1:=cG hn.1 hn.2
 obtain⟨b,o,rfl⟩:=i2.some0 (by omega)
 rw[Int.toNat_natCast]
 exact tiles_go n (n*n) pb lb cb b o lw cw W pt lt ct ps ls cs sky st _ w hn rfl hl i2 h0 (hid fun v a=>by
  have q:=Ss.eY (n:Nat) pb lb cb B (some ⟨b,o,none⟩) lw cw W pt lt ct T ps ls cs S sky st v (i1.below a) (i2.below a) (i3.below a) (i4.below a)
  rw[h]at q
  exact q)
theorem f4_lt(i:Nat)(hi:i<4):f4 i<4294967296:=by
 have c:i=0\/i=1\/i=2\/i=3:=by omega
 rcases c with rfl | rfl | rfl | rfl<;>decide
theorem oL(w:World):Calls prog 18 #[] w fun e w'=> ∃g,e=.returned (.agg #[.int .i64 5,.int .u32 0,.int .u32 1073741824,.slice (some ⟨g,0,none⟩) 4 4])/\Below w.heap.size w w'/\w.heap.size<=g/\w'.rowIs g 22 4 (fun i=>.int .u32 ((f4 i:Nat):Int)):=by
 have BL: ∀v:World,(Instr.buildSlice 23 4 #[(0,.int .u32 1065353216),(1,.int .u32 1073741824),(2,.int .u32 0),(3,.int .u32 1065353216)]).run prog v=.ok (.slice (some ⟨v.heap.size,0,none⟩) 4 4) (v.alloc (.cells #[.int .u32 1065353216,.int .u32 1073741824,.int .u32 0,.int .u32 1065353216] 22)):=fun v=>by simp[go_sem,Instr.buildSlice,run_underlying underlying23]
 obtain⟨A0,R0⟩:=aE w (.cells #[.int .i64 0,.int .u32 0,.int .u32 0,.slice none 0 0] 25)
 go_enter func18,ntmps18
 go_upto_region 1 with fail
 generalize hW:World.alloc w _=V0 at*
 obtain⟨gr,hgr⟩:=aB w.heap.size
 have HG:Hid (w.heap.size<=gr):=by show _<=_;omega
 rw[hgr]at R0 ⊢
 clear hgr hW
 obtain⟨A1,R1⟩:=aE V0 (.cells #[.int .u32 1065353216,.int .u32 1073741824,.int .u32 0,.int .u32 1065353216] 22)
 have R2:=hid (A1.out.heap R0.out)
 have A2:=hid (A0.out.trans A1.out)
 have t0:=aA 0 R2.out
 have t1:=aA 1 R2.out
 have t2:=aA 2 R2.out
 have t3:=aA 3 R2.out
 have f0:=aC R2.out 0
 have f1:=aC R2.out 1
 have f2:=aC R2.out 2
 have f3:=aC R2.out 3
 have LZ:Hid (gr<V0.heap.size/\w.heap.size<=V0.heap.size):=⟨lt_of_block R0.out,A0.out.size⟩
 go_wp2_with fail
 (try simp only[Exit.inBlock,Exit.then])
 have ne:V0.heap.size≠gr:=by have:=LZ.out;omega
 have RW:(V0.alloc (.cells #[.int .u32 1065353216,.int .u32 1073741824,.int .u32 0,.int .u32 1065353216] 22)).rowIs V0.heap.size 22 4 (fun i=>.int .u32 ((f4 i:Nat):Int)):=⟨_,R1.out,rfl,fun i hi=>by
  have c:i=0\/i=1\/i=2\/i=3:=by omega
  rcases c with rfl | rfl | rfl | rfl<;>rfl⟩
 refine bodyPost_ret (v:=.agg #[.int .i64 5,.int .u32 0,.int .u32 1073741824,.slice (some ⟨V0.heap.size,0,none⟩) 4 4]) ?_ rfl ?_
 ·exact results_cell_row results18 _ _ gr _ _ (0,0) _ rfl (fU R2.out) underlying25 rfl (by kernel_rfl)
 ·exact⟨_,rfl,(((A2.out.setk HG.out _).setk HG.out _).setk HG.out _).setk HG.out _,LZ.out.2,(((RW.setOther (a:=⟨gr,0,none⟩) ne _).setOther (a:=⟨gr,1,none⟩) ne _).setOther (a:=⟨gr,2,none⟩) ne _).setOther (a:=⟨gr,3,none⟩) ne _⟩
theorem run_bs{P:Program}{a:Act}{o:Oper}{t:TypeId}{n:Nat}{ps:Array (Nat × Operand)}{vs:Array (Nat × Value)}{u:Value}{w w':World}(ho:o.op=.buildSlice t n ps)(hv:(ps.map fun(i,x)=>(i,a.eval x))=vs)(M:(Instr.buildSlice t n vs).run P w=.ok u w'):(execOp a.eval o).run P w=.ok (.value u) w':=by
 unfold execOp
 rw[ho]
 simp only[hv]
 exact Cx.run_val M
theorem qA{P:Program}{a:Act}{o:Oper}{x y:Operand}{f:FuncId}{fn:Func}{ats:Array TypeId}{v u:Value}(ho:o.op=.call {callee:=.value (.func f),args:= #[x,y],argTypes:=ats})(hx:a.eval x=v)(hy:a.eval y=u)(hf:P.funcs[f]? =some fn)(hn:(fn.name== "runtime.NumGoroutine")=false)(hb:fn.body.isNone=false)(w:World):(execOp a.eval o).run P w=.ok (.enter f #[v,u]) w:=by
 have h1:fn.name≠ "runtime.NumGoroutine" :=by simpa using hn
 have ef:a.eval (.func f)=.func (.func f) #[] #[]:=rfl
 have e:execOp a.eval o=callFunc f #[v,u]:=by
  unfold execOp
  simp[ho,resolve,Deferred.ofValue,invoke,ef,hx,hy]
 obtain⟨c,hc⟩: ∃c,fn.body=some c:=by
  cases h:fn.body with
  | none=>simp[h]at hb
  | some c=>exact⟨c,rfl⟩
 rw[e]
 simp[callFunc,hf,h1,hc]
def hdB(l:List Nat):Nat:=l.headD 0
def RL(ob:Obj)(x:Cx.Ix)(w:World):Prop:= ∃b,x.1=[b]/\w.heap[b]? =some ob
def RB(x:Cx.Ix)(w:World):Prop:= ∃b1 b2 b3 b4,x.2=.agg #[.slice (some ⟨b1,0,none⟩) 6 6,.slice (some ⟨b2,0,none⟩) 6 6,.slice (some ⟨b3,0,none⟩) 6 6,.slice (some ⟨b4,0,none⟩) 12 12,.int .i64 0,.int .i64 0]/\w.heap[b1]? =some (Obj.cells (madeCells #[.float .f64 0] 6) 47)/\w.heap[b2]? =some (Obj.cells #[.int .i64 1431655765,.int .i64 0,.int .i64 0,.int .i64 0,.int .i64 0,.int .i64 0] 2)/\w.heap[b3]? =some (Obj.cells (madeCells #[.int .i64 0] 6) 2)/\w.heap[b4]? =some (Obj.cells (madeCells #[.float .f64 0] 12) 47)
def RT(x:Cx.Ix)(w:World):Prop:= ∃gl gs,x.1=[gl]/\w.rowIs gl 25 24 (tcv 1 1 W6 gs)
theorem jT{ob:Obj}{x:Cx.Ix}{w w':World}(h:RL ob x w)(a:Ab w w'):RL ob x w':=by
 obtain⟨b,e,h⟩:=h
 exact⟨b,e,a.heap h⟩
theorem rb_stb{x:Cx.Ix}{w w':World}(h:RB x w)(a:Ab w w'):RB x w':=by
 obtain⟨b1,b2,b3,b4,e,h1,h2,h3,h4⟩:=h
 exact⟨b1,b2,b3,b4,e,a.heap h1,a.heap h2,a.heap h3,a.heap h4⟩
theorem rt_stb{x:Cx.Ix}{w w':World}(h:RT x w)(a:Ab w w'):RT x w':=by
 obtain⟨gl,gs,e,h⟩:=h
 exact⟨gl,gs,e,Sh.bC h a⟩
theorem stb_aw:Cx.Stable (fun k=>if k=0 then some (RL (Obj.cells (madeCells #[.float .f64 0] 6) 47),fun x=>.slice (some ⟨hdB x.1,0,none⟩) 6 6)else if k=1 then some (RL (Obj.cells #[.int .i64 1431655765,.int .i64 0,.int .i64 0,.int .i64 0,.int .i64 0,.int .i64 0] 2),fun x=>.slice (some ⟨hdB x.1,0,none⟩) 6 6)else if k=2 then some (RL (Obj.cells (madeCells #[.int .i64 0] 6) 2),fun x=>.slice (some ⟨hdB x.1,0,none⟩) 6 6)else if k=3 then some (RL (Obj.cells (madeCells #[.float .f64 0] 12) 47),fun x=>.slice (some ⟨hdB x.1,0,none⟩) 12 12)else if k=4 then some (RB,fun x=>x.2)else if k=5 then some (RT,fun x=>.tuple #[.slice (some ⟨hdB x.1,0,none⟩) 6 6,.int .i64 0])else none):=fun i R mk h x v v' hr ha=>by
 rcases Nat.decEq i 0 with q0 | q0
 rotate_left
 ·subst q0
  simp only[if_true,Option.some.injEq,Prod.mk.injEq]at h
  obtain⟨h1,h2⟩:=h
  subst h1 h2
  exact jT hr ha
 rcases Nat.decEq i 1 with q1 | q1
 rotate_left
 ·subst q1
  simp only[if_true,if_neg (show¬(1:Nat)=0 by decide),Option.some.injEq,Prod.mk.injEq]at h
  obtain⟨h1,h2⟩:=h
  subst h1 h2
  exact jT hr ha
 rcases Nat.decEq i 2 with q2 | q2
 rotate_left
 ·subst q2
  simp only[if_true,if_neg (show¬(2:Nat)=0 by decide),if_neg (show¬(2:Nat)=1 by decide),Option.some.injEq,Prod.mk.injEq]at h
  obtain⟨h1,h2⟩:=h
  subst h1 h2
  exact jT hr ha
 rcases Nat.decEq i 3 with q3 | q3
 rotate_left
 ·subst q3
  simp only[if_true,if_neg (show¬(3:Nat)=0 by decide),if_neg (show¬(3:Nat)=1 by decide),if_neg (show¬(3:Nat)=2 by decide),Option.some.injEq,Prod.mk.injEq]at h
  obtain⟨h1,h2⟩:=h
  subst h1 h2
  exact jT hr ha
 rcases Nat.decEq i 4 with q4 | q4
 rotate_left
 ·subst q4
  simp only[if_true,if_neg (show¬(4:Nat)=0 by decide),if_neg (show¬(4:Nat)=1 by decide),if_neg (show¬(4:Nat)=2 by decide),if_neg (show¬(4:Nat)=3 by decide),Option.some.injEq,Prod.mk.injEq]at h
  obtain⟨h1,h2⟩:=h
  subst h1 h2
  exact rb_stb hr ha
 rcases Nat.decEq i 5 with q5 | q5
 rotate_left
 ·subst q5
  simp only[if_true,if_neg (show¬(5:Nat)=4 by decide),if_neg (show¬(5:Nat)=0 by decide),if_neg (show¬(5:Nat)=1 by decide),if_neg (show¬(5:Nat)=2 by decide),if_neg (show¬(5:Nat)=3 by decide),Option.some.injEq,Prod.mk.injEq]at h
  obtain⟨h1,h2⟩:=h
  subst h1 h2
  exact rt_stb hr ha
 ·simp only[if_neg q0,if_neg q1,if_neg q2,if_neg q3,if_neg q4,if_neg q5]at h
  cases h
theorem lI:(Try.prog.info? 47).map (fun i=>(i.zero,i.size,i.bytes))=some (some (.float .f64 0),1,8):=by kernel_rfl
theorem hO(w:World):Calls prog 8 #[] w fun e w'=>e=.returned (.bool true)/\Below w.heap.size w w':=by
 have M1: ∀v:World,(Instr.makeSlice 37 (.int .i64 6) (.int .i64 6)).run prog v=.ok (.slice (some ⟨v.heap.size,0,none⟩) 6 6) (v.alloc (Obj.cells (madeCells #[.float .f64 0] 6) 47)):=fun v=>run_make_row' (P:=prog) 37 47 (.float .f64 0) 8 underlying37 lI rfl .i64 .i64 6 (by omega) (by omega) v
 have M2: ∀v:World,(Instr.makeSlice 38 (.int .i64 6) (.int .i64 6)).run prog v=.ok (.slice (some ⟨v.heap.size,0,none⟩) 6 6) (v.alloc (Obj.cells (madeCells #[.int .i64 0] 6) 2)):=fun v=>run_make_row' (P:=prog) 38 2 (.int .i64 0) 8 underlying38 Sh.info64 rfl .i64 .i64 6 (by omega) (by omega) v
 have M3: ∀v:World,(Instr.makeSlice 37 (.int .i64 12) (.int .i64 12)).run prog v=.ok (.slice (some ⟨v.heap.size,0,none⟩) 12 12) (v.alloc (Obj.cells (madeCells #[.float .f64 0] 12) 47)):=fun v=>run_make_row' (P:=prog) 37 47 (.float .f64 0) 8 underlying37 lI rfl .i64 .i64 12 (by omega) (by omega) v
 have BL: ∀v:World,(Instr.buildSlice 38 6 #[(0,.int .i64 1431655765),(1,.int .i64 0),(2,.int .i64 0),(3,.int .i64 0),(4,.int .i64 0),(5,.int .i64 0)]).run prog v=.ok (.slice (some ⟨v.heap.size,0,none⟩) 6 6) (v.alloc (.cells #[.int .i64 1431655765,.int .i64 0,.int .i64 0,.int .i64 0,.int .i64 0,.int .i64 0] 2)):=fun v=>by simp[go_sem,Instr.buildSlice,run_underlying underlying38]
 go_enter func8,ntmps8
 go_wp2_with fail
 refine(oL _).mono ?_
 rintro e9 v1 ⟨g,rfl,b1,l1,r1⟩
 have A1:Hid (Ab w v1):=b1
 have IW:=hid (fO (M:=4294967296) r1 (fun i hi=>by
  have c:i=0\/i=1\/i=2\/i=3:=by omega
  rcases c with rfl | rfl | rfl | rfl<;>decide))
 have CE:=hid (mO 5 0 1073741824 (some ⟨g,0,none⟩) 4 4 f4 v1 (by decide) (by decide) (by decide) IW.out ok4)
 clear b1 l1 r1
 rw[sd4]at CE
 go_wp2_with fail
 refine CE.out.mono ?_
 rintro e9 v2 ⟨gb,rfl,b2,l2,r2⟩
 have A2:Hid (Ab w v2):=A1.out.trans b2
 have E2:Hid (v2.rowIs gb 5 30 (fun i=>.int .u8 ((E30 i:Nat):Int))):=r2
 have I2:=hid (fO (M:=256) E2.out (fun i _=>enc_lt (by decide) (by decide)))
 have CD:=hid (mP (some ⟨gb,0,none⟩) 30 30 E30 v2 (by decide) I2.out e30)
 rw[e30_h.1,e30_h.2.1,e30_h.2.2.1,e30_h.2.2.2]at CD
 clear b2 l2 r2 CE IW A1
 go_wp2_with fail
 refine CD.out.mono ?_
 rintro e9 v3 ⟨gd,rfl,b3,l3,r3⟩
 have A3:Hid (Ab w v3):=A2.out.trans b3
 have E3:=hid (Sh.bC E2.out b3)
 have D3:=hid (r3.congr (g:=fun i=>.int .u32 ((f4 i:Nat):Int)) (fun i hi=>by rw[e30_d i hi]))
 clear b3 l3 r3 CD I2 A2 E2
 obtain⟨X4,T4⟩:=aE v3 (.cells #[.int .i64 5,.int .u32 0,.int .u32 1073741824,.slice (some ⟨gd,0,none⟩) 4 4] 25)
 go_upto_region 3 with fail
 generalize hV:World.alloc v3 _=v4 at*
 obtain⟨gt,hgt⟩:=aB v3.heap.size
 rw[hgt]at T4 ⊢
 clear hV hgt
 have A4:Hid (Ab w v4):=A3.out.trans X4.out
 have E4:=hid (Sh.bC E3.out X4.out)
 have D4:=hid (Sh.bC D3.out X4.out)
 clear A3 E3 D3 X4
 have CN:=hid (pO none 0 0 (fun _=>0) v4 (by decide) (IsW.nil _ _ _ _ _) (by rw[e0];decide))
 rw[e0]at CN
 go_wp2_with fail
 refine CN.out.mono ?_
 rintro e9 v5 ⟨rfl,b5⟩
 have X6:Hid (Ab v4 (v5.alloc (.cells #[.int .i64 0,.int .u32 0,.int .u32 0,.slice none 0 0] 25))):=Ab.alloc b5 _
 clear CN b5
 go_upto_region 4 with fail
 generalize hV:World.alloc v5 _=v6 at*
 clear hV
 have A6:Hid (Ab w v6):=A4.out.trans X6.out
 have E6:=hid (Sh.bC E4.out X6.out)
 have D6:=hid (Sh.bC D4.out X6.out)
 have T6:=hid (X6.out.heap T4.out)
 clear A4 E4 D4 T4 X6
 obtain⟨gp,hgp⟩:=aB v5.heap.size
 rw[hgp]
 clear hgp
 go_cut [7,8]from 24 to 31 (fun s7 s8 wx=> ∃gl gs,s7=.slice (some ⟨gl,0,none⟩) 6 6/\s8=.int .i64 0/\Ab v6 wx/\wx.rowIs gl 25 24 (tcv 1 1 W6 gs))
 case first=>
  obtain⟨UU,E,hF1,hF2⟩:=cls v6.drew
  have HU:=hid hF2
  clear hF1 hF2
  refine Cx.lG 10 (fun k=>if k=0 then some (RL (Obj.cells (madeCells #[.float .f64 0] 6) 47),fun x=>.slice (some ⟨hdB x.1,0,none⟩) 6 6)else if k=1 then some (RL (Obj.cells #[.int .i64 1431655765,.int .i64 0,.int .i64 0,.int .i64 0,.int .i64 0,.int .i64 0] 2),fun x=>.slice (some ⟨hdB x.1,0,none⟩) 6 6)else if k=2 then some (RL (Obj.cells (madeCells #[.int .i64 0] 6) 2),fun x=>.slice (some ⟨hdB x.1,0,none⟩) 6 6)else if k=3 then some (RL (Obj.cells (madeCells #[.float .f64 0] 12) 47),fun x=>.slice (some ⟨hdB x.1,0,none⟩) 12 12)else if k=4 then some (RB,fun x=>x.2)else if k=5 then some (RT,fun x=>.tuple #[.slice (some ⟨hdB x.1,0,none⟩) 6 6,.int .i64 0])else none) (fun j=>if j=4 then [0,1,2,3]else if j=5 then [4]else []) stb_aw (by kernel_rfl) (by kernel_rfl) (by kernel_rfl) (by kernel_rfl) ?_
  simp only[List.take_succ_cons,List.take_zero]
  refine Cx.bP (ob:=RL (Obj.cells (madeCells #[.float .f64 0] 6) 47)) (mk:=fun x=>.slice (some ⟨hdB x.1,0,none⟩) 6 6) (by rfl) (by kernel_rfl) ?_ ?_
  ·refine Cx.gB (O:=(Obj.cells (madeCells #[.float .f64 0] 6) 47)) (u:=fun _=>.bool true) (fun v _=> ?_) (fun v _=>⟨v.heap.size,rfl,heap_alloc_new _ _⟩)
   exact Cx.run_make (vx:=.int .i64 6) (vy:=.int .i64 6) (by rfl) (by rfl) (by rfl) (M1 v)
  intro x0 fx0
  simp only[Act.put,List.setIfInBounds_toArray,List.set_cons_succ,List.set_cons_zero]
  refine Cx.bP (ob:=RL (Obj.cells #[.int .i64 1431655765,.int .i64 0,.int .i64 0,.int .i64 0,.int .i64 0,.int .i64 0] 2)) (mk:=fun x=>.slice (some ⟨hdB x.1,0,none⟩) 6 6) (by rfl) (by kernel_rfl) ?_ ?_
  ·refine Cx.gB (O:=(Obj.cells #[.int .i64 1431655765,.int .i64 0,.int .i64 0,.int .i64 0,.int .i64 0,.int .i64 0] 2)) (u:=fun _=>.bool true) (fun v _=> ?_) (fun v _=>⟨v.heap.size,rfl,heap_alloc_new _ _⟩)
   exact run_bs (P:=prog) (vs:= #[(0,.int .i64 1431655765),(1,.int .i64 0),(2,.int .i64 0),(3,.int .i64 0),(4,.int .i64 0),(5,.int .i64 0)]) (by rfl) (by simp[Act.eval]) (BL v)
  intro x1 fx1
  simp only[Act.put,List.setIfInBounds_toArray,List.set_cons_succ,List.set_cons_zero]
  refine Cx.bP (ob:=RL (Obj.cells (madeCells #[.int .i64 0] 6) 2)) (mk:=fun x=>.slice (some ⟨hdB x.1,0,none⟩) 6 6) (by rfl) (by kernel_rfl) ?_ ?_
  ·refine Cx.gB (O:=(Obj.cells (madeCells #[.int .i64 0] 6) 2)) (u:=fun _=>.bool true) (fun v _=> ?_) (fun v _=>⟨v.heap.size,rfl,heap_alloc_new _ _⟩)
   exact Cx.run_make (vx:=.int .i64 6) (vy:=.int .i64 6) (by rfl) (by rfl) (by rfl) (M2 v)
  intro x2 fx2
  simp only[Act.put,List.setIfInBounds_toArray,List.set_cons_succ,List.set_cons_zero]
  refine Cx.bP (ob:=RL (Obj.cells (madeCells #[.float .f64 0] 12) 47)) (mk:=fun x=>.slice (some ⟨hdB x.1,0,none⟩) 12 12) (by rfl) (by kernel_rfl) ?_ ?_
  ·refine Cx.gB (O:=(Obj.cells (madeCells #[.float .f64 0] 12) 47)) (u:=fun _=>.bool true) (fun v _=> ?_) (fun v _=>⟨v.heap.size,rfl,heap_alloc_new _ _⟩)
   exact Cx.run_make (vx:=.int .i64 12) (vy:=.int .i64 12) (by rfl) (by rfl) (by rfl) (M3 v)
  intro x3 fx3
  simp only[Act.put,List.setIfInBounds_toArray,List.set_cons_succ,List.set_cons_zero]
  refine Cx.bP (ob:=RB) (mk:=fun x=>x.2) (by rfl) (by kernel_rfl) ?_ ?_
  ·intro v hv
   obtain⟨⟨b1,e1,h1⟩,-⟩:=hv.at (i:=0) (x:=x0) (R:=RL (Obj.cells (madeCells #[.float .f64 0] 6) 47)) (mk:=fun x=>.slice (some ⟨hdB x.1,0,none⟩) 6 6) (by rfl) (by rfl)
   obtain⟨⟨b2,e2,h2⟩,-⟩:=hv.at (i:=1) (x:=x1) (R:=RL (Obj.cells #[.int .i64 1431655765,.int .i64 0,.int .i64 0,.int .i64 0,.int .i64 0,.int .i64 0] 2)) (mk:=fun x=>.slice (some ⟨hdB x.1,0,none⟩) 6 6) (by rfl) (by rfl)
   obtain⟨⟨b3,e3,h3⟩,-⟩:=hv.at (i:=2) (x:=x2) (R:=RL (Obj.cells (madeCells #[.int .i64 0] 6) 2)) (mk:=fun x=>.slice (some ⟨hdB x.1,0,none⟩) 6 6) (by rfl) (by rfl)
   obtain⟨⟨b4,e4,h4⟩,-⟩:=hv.at (i:=3) (x:=x3) (R:=RL (Obj.cells (madeCells #[.float .f64 0] 12) 47)) (mk:=fun x=>.slice (some ⟨hdB x.1,0,none⟩) 12 12) (by rfl) (by rfl)
   have q: ∀(o:Oper) (a:Act),(execOp a.eval o).run prog v=.ok (.value (.agg #[.slice (some ⟨hdB x0.1,0,none⟩) 6 6,.slice (some ⟨hdB x1.1,0,none⟩) 6 6,.slice (some ⟨hdB x2.1,0,none⟩) 6 6,.slice (some ⟨hdB x3.1,0,none⟩) 12 12,.int .i64 0,.int .i64 0])) v->Cx.LayR prog v RB (fun x=>x.2) ((execOp a.eval o).run prog v):=fun o a q=>by
    rw[q]
    exact⟨([],.agg #[.slice (some ⟨hdB x0.1,0,none⟩) 6 6,.slice (some ⟨hdB x1.1,0,none⟩) 6 6,.slice (some ⟨hdB x2.1,0,none⟩) 6 6,.slice (some ⟨hdB x3.1,0,none⟩) 12 12,.int .i64 0,.int .i64 0]),rfl,Ab.refl v,(fun b hb=>by cases hb),b1,b2,b3,b4,by rw[e1,e2,e3,e4];rfl,h1,h2,h3,h4⟩
   refine q _ _ ?_
   simp[execOp,go_sem,Act.eval]
  intro x4 fx4
  simp only[Act.put,List.setIfInBounds_toArray,List.set_cons_succ,List.set_cons_zero]
  refine Cx.bP (ob:=RT) (mk:=fun x=>.tuple #[.slice (some ⟨hdB x.1,0,none⟩) 6 6,.int .i64 0]) (by rfl) (by kernel_rfl) ?_ ?_
  ·refine Cx.lay_call (f:=12) (args:= #[.int .i64 1,x4.2]) ?_ (fun v hv=> ?_)
   ·intro v
    exact qA (x:=.const (.int .i64 1)) (y:=.tmp 28) (by rfl) (by rfl) (by rfl) func12 (by kernel_rfl) (by kernel_rfl) v
   ·obtain⟨⟨b1,b2,b3,b4,e,h1,h2,h3,h4⟩,-⟩:=hv.at (i:=4) (x:=x4) (R:=RB) (mk:=fun x=>x.2) (by rfl) (by rfl)
    rw[e]
    have F1:IsFl v (some ⟨b1,0,none⟩) 6 (fun _=>0):=rowIs.fl (cV h1) (fun _ _=>by decide)
    have F2:Sh.IsI v (some ⟨b2,0,none⟩) 6 W6:=Sh.row_in ⟨_,h2,rfl,fun i hi=>by
     have c:i=0\/i=1\/i=2\/i=3\/i=4\/i=5:=by omega
     rcases c with rfl | rfl | rfl | rfl | rfl | rfl<;>rfl⟩ (fun i _=>by unfold W6;split<;>decide)
    have F3:Sh.IsI v (some ⟨b3,0,none⟩) 6 (fun _=>0):=Sh.row_in (cV h3) (fun _ _=>by decide)
    have F4:IsFl v (some ⟨b4,0,none⟩) 12 (fun _=>0):=rowIs.fl (cV h4) (fun _ _=>by decide)
    exact(lH 1 _ 6 6 _ _ 6 6 _ _ 6 6 _ _ 12 12 _ 0 0 v F1 F2 F3 F4 (by rw[chk6])).mono fun e w' q=>by
     obtain⟨gl,gs,rfl,q1,q2,q3,q4,q5⟩:=q
     exact⟨([gl],.bool true),rfl,q1,(fun b hb=>by
      have hb:b=gl:=by simpa using hb
      subst hb
      exact⟨q2,q3.lt⟩),gl,gs,rfl,q3⟩
  intro x5 fx5
  simp only[Act.put,List.setIfInBounds_toArray,List.set_cons_succ,List.set_cons_zero]
  refine Cx.dD HU (by rfl) (by rfl) ?_
  go_big_quiet_step (with_reducible rfl)
  refine wpQuiet_nil ?_
  refine Cx.dD HU (by rfl) (by rfl) ?_
  go_big_quiet_step (with_reducible rfl)
  refine wpQuiet_nil ?_
  refine Cx.dD HU (by rfl) (by rfl) ?_
  go_big_quiet_step (with_reducible rfl)
  refine wpQuiet_nil ?_
  refine Cx.dD HU (by rfl) (by rfl) ?_
  go_big_quiet_step (with_reducible rfl)
  refine wpQuiet_nil ?_
  refine Cx.nA ?_
  intro wz hz
  obtain⟨⟨gl,gs,e5,r5⟩,-⟩:=hz.at (i:=5) (x:=x5) (R:=RT) (mk:=fun x=>.tuple #[.slice (some ⟨hdB x.1,0,none⟩) 6 6,.int .i64 0]) (by rfl) (by rfl)
  have AZ:Hid (Ab v6 wz):=(Ab.refl v6).drew.trans hz.1
  have R5:=hid r5
  have E5:=hid e5
  clear r5 e5 hz HU fx0 fx1 fx2 fx3 fx4 fx5
  simp only[List.drop_succ_cons,List.drop_zero]
  go_wp2
  try go_meet
  exact⟨gl,gs,by rw[E5.out];rfl,rfl,AZ.out,R5.out⟩
 case rest=>
 obtain⟨gl,gs,rfl,rfl,a7,r7⟩:=hcut
 have A7:Hid (Ab w wc):=A6.out.trans a7
 have E7:=hid (Sh.bC E6.out a7)
 have D7:=hid (fO (M:=4294967296) (Sh.bC D6.out a7) (fun i hi=>by
  have c:i=0\/i=1\/i=2\/i=3:=by omega
  rcases c with rfl | rfl | rfl | rfl<;>decide))
 have T7:=hid (a7.heap T6.out)
 have L7:=hid (r7.cell (i:=2) (by decide))
 have L8:Hid (gl<wc.heap.size):=r7.lt
 have eL:tcv 1 1 W6 gs 2=.int .u32 1065353216:=by
  show Value.int .u32 ((hi (fun k=>tb 1 W6 (0*1+k)) 0:Nat):Int)=_
  rw[tb6]
  rfl
 rw[eL]at L7
 clear a7 r7 A6 E6 D6 T6 M1 M2 M3 BL eL
 have MK:=e30_b
 have KS:Hid (∀v,Ab wc v->Ab wc v/\v.cell? ⟨gt,0,none⟩=some (.int .i64 5)/\v.cell? ⟨gt,1,none⟩=some (.int .u32 0)/\v.cell? ⟨gt,2,none⟩=some (.int .u32 1073741824)/\v.cell? ⟨gt,3,none⟩=some (.slice (some ⟨gd,0,none⟩) 4 4)/\v.cell? ⟨gl,2,none⟩=some (.int .u32 1065353216)/\(convert 26 9 (.slice (some ⟨gb,0,none⟩) 30 30)).run prog v=.ok (.string (str E30 30)) v):=fun v a=>by
  have t:=a.heap T7.out
  exact⟨a,aA 0 t,aA 1 t,aA 2 t,aA 3 t,(Below.cell a L8.out).trans L7.out,cB underlying26 underlying5 underlying9 (fO (Sh.bC E7.out a) (fun i _=>enc_lt (by decide) (by decide))) (fun e=>by cases e)⟩
 have X0:Ab wc wc:=Ab.refl wc
 go_wp2_with fail
 go_region_held3 (fun v=>Ab wc v/\v.cell? ⟨gt,0,none⟩=some (.int .i64 5)/\v.cell? ⟨gt,1,none⟩=some (.int .u32 0)/\v.cell? ⟨gt,2,none⟩=some (.int .u32 1073741824)/\v.cell? ⟨gt,3,none⟩=some (.slice (some ⟨gd,0,none⟩) 4 4)/\v.cell? ⟨gl,2,none⟩=some (.int .u32 1065353216)/\(convert 26 9 (.slice (some ⟨gb,0,none⟩) 30 30)).run prog v=.ok (.string (str E30 30)) v) ((refine KS.out _ ?_;(with_reducible (repeat(first | assumption | apply Ab.drew)));done)) (first
  | (go_at_call 18;refine(oL _).mono ?_;rintro e9 z1 ⟨g9,rfl,b9,l9,r9⟩;have az1:Ab wc z1:=Ab.trans (show Ab wc _ by with_reducible (repeat(first | assumption | apply Ab.drew))) b9;have I9:=hid (fO (M:=4294967296) r9 f4_lt))
  | (go_at_call 11;refine(same_at _ _ _ _ _ _ _ _ _ _ _ _ f4 f4 _ (by decide) (D7.out.below az1) I9.out).mono ?_;rintro e9 z2 ⟨rfl,b8⟩;have az2:Ab wc z2:=Ab.trans az1 b8))
 go_wp2
 go_ret
 exact⟨by rw[show eqT 5 5 0 0 1073741824 1073741824 4 4 f4 f4=true from decide_eq_true ⟨rfl,rfl,rfl,rfl,fun _ _=>rfl⟩];rfl,A7.out.trans az2⟩
end Ti
end
section
open Go.RowKit Go.Deep Tf Cu
namespace Ti
theorem tile_can{n c:Nat}{W:Nat->Int}(hn:1<=n/\n<=32)(hc:c<6)(h0: ∀i,i<6*(n*n)->0<=W i/\W i<=4503599627370496):
  (∀k,k<n*n->tb n W (c*(n*n)+k)<2139095040)/\okT ((c:Nat):Int) (n*n) (fun k=>tb n W (c*(n*n)+k)) (lo (fun k=>tb n W (c*(n*n)+k)) (n*n - 1)) (hi (fun k=>tb n W (c*(n*n)+k)) (n*n - 1))=true:=by
 have p:c*(n*n)+n*n<=6*(n*n):=by
  have e:c*(n*n)+n*n=(c+1)*(n*n):=(Nat.succ_mul c (n*n)).symm
  rw[e]
  exact Nat.mul_le_mul_right _ (by omega)
 have b: ∀k,k<n*n->tb n W (c*(n*n)+k)<2139095040:=fun k hk=>tb_lt (h0 _ (by omega)).2
 refine⟨b,nZ.2 ⟨by omega,?_,b,rfl,rfl⟩⟩
 rw[sideN_sq hn.1 hn.2]
 omega
theorem tcv_3(n m:Nat)(W:Nat->Int)(gs:Nat->Nat)(c:Nat):tcv n m W gs (c*4+3)=.slice (some ⟨gs c,0,none⟩) m m:=by
 unfold tcv
 rw[if_neg (by omega),if_neg (by omega),if_neg (by omega),show(c*4+3)/4=c by omega]
end Ti
end
section
open Go.RowKit Go.Deep Tf Cu
namespace Ti
theorem dN{r s:Nat}(hs:isN s=false)(h:canonB r=s):isN r=false/\rk r=rk s:=by
 unfold canonB at h
 by_cases n:isN r=true
 ·rw[if_pos n]at h
  rw[<- h]at hs
  exact absurd hs (by decide)
 ·have n':isN r=false:=by simpa using n
  rw[if_neg n]at h
  refine⟨n',?_⟩
  by_cases z:mg r=0
  ·rw[if_pos z]at h
   subst h
   unfold rk
   rw[z]
   have e:mg 0=0:=by decide
   rw[e]
   split<;>split<;>rfl
  ·rw[if_neg z]at h
   rw[h]
theorem oM{r:Nat}(hr:r<18446744073709551616):rk (negB r)= -rk r:=by
 unfold rk
 rw[eP hr,negB_ng hr]
 cases ng r<;>simp
theorem near_cmp{r q s:Nat}(hr:r<18446744073709551616)(hs:isN s=false)(h:canonB r=s)(q1:q<9218868437227405312)(h1:rk s<=rk q)(h2: -rk q<=rk s):fgt (if flt r 0=true then negB r else r) q=false:=by
 obtain⟨n,e⟩:=dN hs h
 have qn:isN q=false:=nn_N (by omega)
 have z:rk 0=0:=by decide
 by_cases c:flt r 0=true
 ·rw[if_pos c,cW _ _ (bU hr) (by omega),oM hr,decide_eq_false (by omega)]
  simp
 ·rw[if_neg c,cW _ _ hr (by omega),decide_eq_false (by omega)]
  simp
theorem near_fin{x a:Int}(hx:x<=4503599627370496)(ha:a<=9223372036854775807):bG (dpB x a)<2139095040/\aQ (bG (dpB x a))<9218868437227405312/\dpB x a<9218868437227405312:=by
 rcases mU (w:=x) (a:=a) (by omega) ha with e | ⟨e1,_⟩
 ·rw[e,mZ]
  exact⟨by decide,by decide+kernel,by decide⟩
 ·have e2:=mY hx ha
  obtain⟨t1,f1,f2,-⟩:=eB e1 e2
  exact⟨t1,by omega,by omega⟩
theorem qB_fin{d:Nat}(h:d<9218868437227405312):qB d=d:=by
 unfold qB
 rw[nn_N (by omega),if_neg (by decide)]
theorem near_all{x a:Int}{r q:Nat}(hx:x<=4503599627370496)(ha:a<=9223372036854775807)(hr:IsC r (sbB (aQ (bG (dpB x a))) (dpB x a)))(hq:IsC q (dvB (dpB x a) 4715268809856909312)):
  bG (dpB x a)<2139095040/\aQ (bG (dpB x a))<9218868437227405312/\dpB x a<9218868437227405312/\fgt (if flt r 0=true then negB r else r) q=false/\fgt (dpB x a) 0=fgt (aQ (bG (dpB x a))) 0:=by
 rcases mU (w:=x) (a:=a) (by omega) ha with e | ⟨e1,_⟩
 ·rw[e]at hr hq ⊢
  rw[mZ]at hr ⊢
  have f0:aQ 0=0:=by decide+kernel
  have s0:sbB 0 0=0:=by decide+kernel
  have d0:dvB 0 4715268809856909312=0:=by decide+kernel
  rw[f0,s0]at hr
  rw[d0]at hq
  rw[f0]
  refine⟨by decide,by decide,by decide,?_,rfl⟩
  obtain⟨n1,k1⟩:=dN (s:=0) (by decide) hr.2
  obtain⟨n2,k2⟩:=dN (s:=0) (by decide) hq.2
  have z:rk 0=0:=by decide
  by_cases c:flt r 0=true
  ·rw[if_pos c,cW _ _ (bU hr.1) hq.1,oM hr.1,decide_eq_false (by omega)]
   simp
  ·rw[if_neg c,cW _ _ hr.1 hq.1,decide_eq_false (by omega)]
   simp
 ·have e2:=mY hx ha
  obtain⟨t1,f1,f2,k1,k2⟩:=eB e1 e2
  obtain⟨d,hd⟩:=aB (dpB x a)
  rw[hd]at e1 e2 t1 f1 f2 k1 k2 hr hq ⊢
  obtain⟨f,hf⟩:=aB (aQ (bG d))
  rw[hf]at f1 f2 k1 k2 hr ⊢
  rw[dv24 e1 (by omega)]at k1 k2 hq
  have q0:=isC_eq hq (by omega) (by omega)
  rw[<- q0]at k1 k2
  have ql:q<9218868437227405312:=by omega
  have kq:rk q=(q:Int):=jC _ (by omega)
  refine⟨t1,by omega,by omega,?_,?_⟩
  ·cases hs:isN (sbB f d)with
   | false=>exact near_cmp hr.1 hs hr.2 ql k1 k2
   | true=>
    exfalso
    have nr:isN r=true:=by
     cases nr:isN r with
     | true=>rfl
     | false=>
      have e:=hr.2
      unfold canonB at e
      rw[nr,if_neg (by decide)]at e
      by_cases z:mg r=0
      ·rw[if_pos z]at e
       rw[<- e]at hs
       exact absurd hs (by decide)
      ·rw[if_neg z]at e
       rw[e]at nr
       rw[nr]at hs
       cases hs
    have e:=hr.2
    unfold canonB at e
    rw[if_pos nr]at e
    rw[<- e]at k1
    have kk:rk quiet=9221120237041090561:=by decide
    rw[kk,kq]at k1
    omega
  ·have nf:isN f=false:=nn_N (by omega)
   have nd:isN d=false:=nn_N (by omega)
   have z:rk 0=0:=by decide
   have z2:isN 0=false:=by decide
   rw[cW _ _ (by omega) (by decide),cW _ _ (by omega) (by decide),nf,nd,z2,z,jC f (by omega),jC d (by omega),decide_eq_true (by omega),decide_eq_true (by omega)]
end Ti
end
section
open Go.RowKit Go.Deep Tf Cu
namespace Ti
attribute [local go_sem] aG aH aM aN aO aP aU dZ eA
theorem near_no(side:Int)(pb:Option Addr)(lb cb:Nat)(B:Nat->Nat)(pw:Option Addr)(lw cw:Nat)(W:Nat->Int)(pt:Option Addr)(lt ct:Nat)(T:Nat->Int)(ps:Option Addr)(ls cs:Nat)(S:Nat->Nat)(sky st:Int)(w:World)(i1:IsFl w pb lb B)(i2:Sh.IsI w pw lw W)(i3:Sh.IsI w pt lt T)(i4:IsFl w ps ls S)(hc:(Ss.chk side lb lw lt ls B W T S sky st).2≠0):
  Calls prog 6 #[.int .i64 side,.agg #[.slice pb lb cb,.slice pw lw cw,.slice pt lt ct,.slice ps ls cs,.int .i64 sky,.int .i64 st]] w fun e w'=>e=.returned (.bool true)/\Below w.heap.size w w':=by
 have I1:=hid i1
 have I2:=hid i2
 have I3:=hid i3
 have I4:=hid i4
 have HC:=hid hc
 clear i1 i2 i3 i4 hc
 obtain⟨A0,R0⟩:=aE w (.cells #[.slice pb lb cb,.slice pw lw cw,.slice pt lt ct,.slice ps ls cs,.int .i64 sky,.int .i64 st] 40)
 go_enter func6,ntmps6
 go_upto_region 1 with fail
 generalize hW:World.alloc w _=V0 at*
 obtain⟨gw,hgw⟩:=aB w.heap.size
 rw[hgw]at R0 ⊢
 clear hgw hW
 go_wp2_with fail
 refine(hO V0).mono ?_
 rintro e9 v1 ⟨rfl,b1⟩
 have A1:Hid (Ab w v1):=A0.out.trans b1
 have R1:=hid (Ab.heap b1 R0.out)
 clear b1 A0 R0
 have y0:=aD R1.out
 have CT:=hid (pZ side pb lb cb B pw lw cw W pt lt ct T ps ls cs S sky st v1 (I1.out.below A1.out) (I2.out.below A1.out) (I3.out.below A1.out) (I4.out.below A1.out) HC.out)
 have CC:=hid (fun v (a:Ab w v)=>Ss.eY side pb lb cb B pw lw cw W pt lt ct T ps ls cs S sky st v (I1.out.below a) (I2.out.below a) (I3.out.below a) (I4.out.below a))
 obtain⟨x1,hx1⟩:=aB ((Ss.chk side lb lw lt ls B W T S sky st).1)
 obtain⟨x2,hx2⟩:=aB ((Ss.chk side lb lw lt ls B W T S sky st).2)
 rw[hx2]at CT HC
 rw[hx1,hx2]at CC
 have n1:(x2 != x2)=false:=by simp
 have n2:(x2 != 0)=true:=by simpa using HC.out
 clear hx1 hx2
 go_wp2_with fail
 refine CT.out.mono ?_
 rintro e9 v2 ⟨rfl,b2⟩
 have A2:Hid (Ab w v2):=A1.out.trans b2
 have R2:=hid (Ab.heap b2 R1.out)
 clear b2 CT A1 R1 y0
 clear CC R2
 go_wp2
 go_ret
 exact⟨rfl,A2.out⟩
theorem near_ok(side:Int)(pb:Option Addr)(lb cb:Nat)(B:Nat->Nat)(pw:Option Addr)(lw cw:Nat)(W:Nat->Int)(pt:Option Addr)(lt ct:Nat)(T:Nat->Int)(ps:Option Addr)(ls cs:Nat)(S:Nat->Nat)(sky st:Int)(w:World)(i1:IsFl w pb lb B)(i2:Sh.IsI w pw lw W)(i3:Sh.IsI w pt lt T)(i4:IsFl w ps ls S)(hc:(Ss.chk side lb lw lt ls B W T S sky st).2=0):
  Calls prog 6 #[.int .i64 side,.agg #[.slice pb lb cb,.slice pw lw cw,.slice pt lt ct,.slice ps ls cs,.int .i64 sky,.int .i64 st]] w fun e w'=>e=.returned (.bool true)/\Below w.heap.size w w':=by
 have I1:=hid i1
 have I2:=hid i2
 have I3:=hid i3
 have I4:=hid i4
 have HC:=hid hc
 clear i1 i2 i3 i4 hc
 obtain⟨A0,R0⟩:=aE w (.cells #[.slice pb lb cb,.slice pw lw cw,.slice pt lt ct,.slice ps ls cs,.int .i64 sky,.int .i64 st] 40)
 go_enter func6,ntmps6
 go_upto_region 1 with fail
 generalize hW:World.alloc w _=V0 at*
 obtain⟨gw,hgw⟩:=aB w.heap.size
 rw[hgw]at R0 ⊢
 clear hgw hW
 go_wp2_with fail
 refine(hO V0).mono ?_
 rintro e9 v1 ⟨rfl,b1⟩
 have A1:Hid (Ab w v1):=A0.out.trans b1
 have R1:=hid (Ab.heap b1 R0.out)
 clear b1 A0 R0
 obtain⟨y0,y1,y2,y3,y4,y5⟩:=aD R1.out
 obtain⟨n,en,hn,hl,h0⟩:=oJ HC.out
 subst en
 have CT:=hid (lH (n:Nat) pb lb cb B pw lw cw W pt lt ct T ps ls cs S sky st v1 (I1.out.below A1.out) (I2.out.below A1.out) (I3.out.below A1.out) (I4.out.below A1.out) HC.out)
 have CC:=hid (fun v (a:Ab w v)=>Ss.eY (n:Nat) pb lb cb B pw lw cw W pt lt ct T ps ls cs S sky st v (I1.out.below a) (I2.out.below a) (I3.out.below a) (I4.out.below a))
 rw[HC.out]at CC
 rw[Int.toNat_natCast]at CT
 obtain⟨x1,hx1⟩:=aB ((Ss.chk (n:Nat) lb lw lt ls B W T S sky st).1)
 rw[hx1]at CC
 have m1:=cG hn.1 hn.2
 have TC:=hid (fun c (hc:c<6)=>tile_can (n:=n) (c:=c) (W:=W) hn hc h0)
 have CA:=hid (fun c (hc:c<6*n*n) v=>nV n c v hn hc)
 obtain⟨m,hm⟩:=aB (n*n)
 rw[hm]at CT m1 hl h0 TC
 have q1:(n:Int)*(n:Int)=(m:Int):=by rw[<- hm];exact(Int.natCast_mul _ _).symm
 have q3:(m:Int)<=1024:=by omega
 have q3b:(0:Int)<=(m:Int):=by omega
 have q6:(lw:Int)<=6144:=by omega
 have HB:=hid (show 1<=m/\m<=1024/\lw=6*m/\lw=6*n*n/\n*n=m/\1<=n/\n<=32 from⟨m1.2,m1.1,hl,by rw[hl,<- hm,Nat.mul_assoc],hm,hn.1,hn.2⟩)
 have H0:=hid h0
 clear hx1 m1 hl h0 hm hn TC
 go_wp2_with fail
 refine CT.out.mono ?_
 rintro e9 v2 ⟨gl,gs,rfl,t1,t2,t3,t4,t5⟩
 have A2:Hid (Ab w v2):=A1.out.trans t1
 have R2:=hid (Ab.heap t1 R1.out)
 have LT:=hid t3
 have GT:=hid (fun j hj=>(t4 j hj).2)
 clear t1 t2 t3 t4 t5 CT A1 R1 y0 y1 y2 y3 y4 y5
 clear CC
 obtain⟨pwb,pwo,hpw⟩:=I2.out.some0 (show 0<lw by have:=HB.out;omega)
 subst hpw
 have X2:Hid (Ab v2 v2):=Ab.refl _
 go_wp2
 go_loopw [7] (fun iv wr=> ∃c:Nat,c<=6/\iv=.int .i64 (c:Nat)/\Ab v2 wr) (fun iv _=>6 - (intOf iv).toNat)
 case atStart=>exact⟨0,by omega,rfl,X2.out⟩
 case round=>
  obtain⟨c,hc,rfl,a1⟩:=hrel
  have AW:=hid a1
  clear a1 X2
  by_cases hc6:c<6
  ·have HC6:=hid hc6
   have cI:(c:Int)<6:=by omega
   have cI0:(0:Int)<=(c:Int):=by omega
   have GC6:=hid (GT.out c hc6)
   obtain⟨gc,hgc⟩:=aB (gs c)
   rw[hgc]at GC6
   have HGC:=hid hgc
   clear hgc
   have X4:Hid (Ab wr wr):=Ab.refl _
   clear hc hc6
   go_wp2
   go_loopw [8] (fun iv wr'=> ∃k:Nat,k<=m/\iv=.int .i64 (k:Nat)/\Ab wr wr') (fun iv _=>m - (intOf iv).toNat)
   case atStart=>exact⟨0,by omega,rfl,X4.out⟩
   case round=>
    obtain⟨k,hk,rfl,a5⟩:=hrel
    have A5:Hid (Ab v2 wr):=AW.out.trans a5
    have AK:=hid a5
    clear a5 X4
    have LW:=hid (Sh.bC LT.out A5.out)
    have z3:=LW.out.cell (i:=c*4+3) (by have:=HC6.out;omega)
    rw[tcv_3,HGC.out]at z3
    have R5:=hid (A5.out.heap R2.out)
    by_cases hkm:k<m
    ·have HK:=hid hkm
     have kI:(k:Int)<m:=by omega
     have kI0:(0:Int)<=(k:Int):=by omega
     have kB:(k:Int)<=1024:=by omega
     obtain⟨cn,hcn⟩:=aB (c*n)
     obtain⟨fm,hfm⟩:=aB (c*m)
     have q7:(c:Int)*(n:Int)=(cn:Int):=by rw[<- hcn];exact(Int.natCast_mul _ _).symm
     have q8:(cn:Int)*(n:Int)=(fm:Int):=by
      rw[<- hfm,<- HB.out.2.2.2.2.1,<- Nat.mul_assoc,<- hcn]
      exact(Int.natCast_mul _ _).symm
     have fml:fm+m<=lw:=by
      have p:c*m<=5*m:=Nat.mul_le_mul_right _ (by have:=HC6.out;omega)
      have:=HB.out.2.2.1
      omega
     have cnl:cn<=192:=by
      rw[<- hcn]
      exact Nat.le_trans (Nat.mul_le_mul (show c<=6 by have:=HC6.out;omega) HB.out.2.2.2.2.2.2) (by decide)
     have q9:(0:Int)<=(fm:Int):=by omega
     have q10:(fm:Int)<=6144:=by omega
     have q11:(0:Int)<=(cn:Int):=by omega
     have q12:(cn:Int)<=192:=by omega
     have hk1:(fm:Int)+(k:Int)<(lw:Int):=by omega
     have hk2:(0:Int)<=(fm:Int)+(k:Int):=by omega
     have hk3:(fm:Int)+(k:Int)<=(lw:Int):=by omega
     have tn:((fm:Int)+(k:Int)).toNat=fm+k:=by omega
     have wx:=(I2.out.below (A2.out.trans A5.out)).at0 (k:=fm+k) (by omega)
     have x52:=(H0.out (fm+k) (by have:=HB.out;omega)).2
     obtain⟨x,hx⟩:=aB (W (fm+k))
     have CAc:=hid (CA.out (fm+k) (by have:=HB.out;omega))
     obtain⟨a,ha⟩:=aB (arI (ArC n (fm+k)))
     rw[ha]at CAc
     rw[hx]at wx x52
     have a2:a<=9223372036854775807:=by rw[<- ha];exact(jQ _).2
     have CD:=hid (fun v=>lB x a v wx.1.2 a2)
     have NA:=hid (fun r q=>near_all (r:=r) (q:=q) x52 a2)
     have NF:=near_fin x52 a2
     obtain⟨d,hd⟩:=aB (dpB x a)
     rw[hd]at CD NA NF
     obtain⟨t,ht⟩:=aB (bG d)
     obtain⟨f,hf⟩:=aB (aQ t)
     rw[ht,hf]at NA NF
     have TE:tb n W (c*m+k)=t:=by rw[hfm];show bG (dpB (W (fm+k)) (arI (ArC n (fm+k))))=_;rw[hx,ha,hd,ht]
     have G5:=Sh.bC GC6.out A5.out
     have gcc:=G5.cell hkm
     rw[TE]at gcc
     have SB:=hid (fun v=>eV (P:=prog) v f f d d (by have q:=IsQ.self (show f<18446744073709551616 by omega);rwa [qB_fin NF.2.1]at q) (by have q:=IsQ.self (show d<18446744073709551616 by omega);rwa [qB_fin NF.2.2]at q))
     have CF:=hid (fun v=>pK ((t:Nat):Int) f v (by omega) (by omega) (by rw[Int.toNat_natCast];exact hf))
     have GC:Hid (wr.cell? ⟨gc,k,none⟩=some (.int .u32 ((t:Nat):Int))/\gc<wr.heap.size):=⟨gcc,G5.lt⟩
     have WC:Hid (wr.cell? ⟨pwb,pwo+(fm+k),none⟩=some (.int .i64 x)/\pwb<wr.heap.size):=⟨wx.2.2,wx.2.1⟩
     have HLW:Hid (gl<wr.heap.size):=LW.out.lt
     have Z3:=hid z3
     obtain⟨g,hg⟩:=aB (fgt d 0)
     have HG:=hid hg
     clear hx ha hd ht hf wx x52 a2 hkm hk hcn hfm fml cnl TE G5 gcc NF hg
     have X5:Ab wr wr:=Ab.refl wr
     have KS:Hid (∀v,Ab wr v->v.cell? ⟨gw,1,none⟩=some (.slice (some ⟨pwb,pwo,none⟩) lw cw)/\v.cell? ⟨pwb,pwo+(fm+k),none⟩=some (.int .i64 x)):=fun v a=>by
      have r:=a.heap R5.out
      exact⟨aA 1 r,(Below.cell a WC.out.2).trans WC.out.1⟩
     obtain⟨w1,w2⟩:=KS.out wr X5
     go_wp2_with fail
     clear w1 w2 z3
     go_region_held3 (fun v=>v.cell? ⟨gw,1,none⟩=some (.slice (some ⟨pwb,pwo,none⟩) lw cw)/\v.cell? ⟨pwb,pwo+(fm+k),none⟩=some (.int .i64 x)) ((refine KS.out _ ?_;(with_reducible (repeat(first | assumption | apply Ab.drew | apply Ab.drewN)));done)) (first
      | (go_at_call 16;refine(CAc.out _).mono ?_;rintro e9 z1 ⟨rfl,b1⟩;have az1:Ab wr z1:=Ab.trans (show Ab wr _ by with_reducible (repeat(first | assumption | apply Ab.drew | apply Ab.drewN))) b1)
      | (go_at_call 15;refine(CD.out _).mono ?_;rintro e9 z2 ⟨rfl,k2,hz2⟩;have az2:Ab wr z2:=(by rw[hz2];exact Ab.drewN (show Ab wr _ by with_reducible (repeat(first | assumption | apply Ab.drew))) _);clear hz2))
     have y3:z2.cell? ⟨gl,c*4+3,none⟩=some (.slice (some ⟨gc,0,none⟩) m m):=(Below.cell az2 HLW.out).trans Z3.out
     have y4:z2.cell? ⟨gc,k,none⟩=some (.int .u32 ((t:Nat):Int)):=(Below.cell az2 GC.out.2).trans GC.out.1
     have AZ:=hid (Ab.trans AK.out az2)
     clear az1 az2 X5 KS
     go_wp2_with fail
     refine(CF.out z2).mono ?_
     rintro e9 v6 ⟨rfl,n6,hv6⟩
     have A6:=AZ.out.drewN n6
     rw[<- hv6]at A6
     have A6:=hid A6
     clear hv6 y3 y4 AZ
     obtain⟨r,k1,hr,ir⟩:=SB.out v6
     obtain⟨q,k3,hq,iq⟩:=dT (P:=prog) (v6.drewN k1) d 4715268809856909312
     obtain⟨-,-,-,p1,p2⟩:=NA.out r q ir iq
     rw[HG.out]at p2
     have p3:=p2.symm
     have p4:=HG.out
     have ir0:=ir.1
     clear p2 ir iq SB CF NA
     cases hs:flt r 0 with
     | true=>
      rw[hs,if_pos rfl,<- dI r ir0]at p1
      clear ir0
      cases g with
      | true=>
       go_wp2
       exact⟨⟨k+1,by have:=HK.out;omega,by simp,by with_reducible (repeat(first | exact A6.out | apply Ab.drewN | apply Ab.drew))⟩,by have:=HK.out;simp[intOf];omega⟩
      | false=>
       go_wp2
       exact⟨⟨k+1,by have:=HK.out;omega,by simp,by with_reducible (repeat(first | exact A6.out | apply Ab.drewN | apply Ab.drew))⟩,by have:=HK.out;simp[intOf];omega⟩
     | false=>
      rw[hs,if_neg (by decide)]at p1
      cases g with
      | true=>
       go_wp2
       exact⟨⟨k+1,by have:=HK.out;omega,by simp,by with_reducible (repeat(first | exact A6.out | apply Ab.drewN | apply Ab.drew))⟩,by have:=HK.out;simp[intOf];omega⟩
      | false=>
       go_wp2
       exact⟨⟨k+1,by have:=HK.out;omega,by simp,by with_reducible (repeat(first | exact A6.out | apply Ab.drewN | apply Ab.drew))⟩,by have:=HK.out;simp[intOf];omega⟩
    ·have e6:m=k:=by omega
     subst e6
     go_wp2
     exact⟨⟨c+1,by have:=HC6.out;omega,by simp,A5.out⟩,by have:=HC6.out;simp[intOf];omega⟩
  ·have e6:c=6:=by omega
   subst e6
   go_wp2
   go_ret
   exact⟨rfl,A2.out.trans AW.out⟩
theorem tnear_at(side:Int)(pb:Option Addr)(lb cb:Nat)(B:Nat->Nat)(pw:Option Addr)(lw cw:Nat)(W:Nat->Int)(pt:Option Addr)(lt ct:Nat)(T:Nat->Int)(ps:Option Addr)(ls cs:Nat)(S:Nat->Nat)(sky st:Int)(w:World)(i1:IsFl w pb lb B)(i2:Sh.IsI w pw lw W)(i3:Sh.IsI w pt lt T)(i4:IsFl w ps ls S):
  Calls prog 6 #[.int .i64 side,.agg #[.slice pb lb cb,.slice pw lw cw,.slice pt lt ct,.slice ps ls cs,.int .i64 sky,.int .i64 st]] w fun e w'=>e=.returned (.bool true)/\Below w.heap.size w w':=by
 by_cases hc:(Ss.chk side lb lw lt ls B W T S sky st).2=0
 ·exact near_ok side pb lb cb B pw lw cw W pt lt ct T ps ls cs S sky st w i1 i2 i3 i4 hc
 ·exact near_no side pb lb cb B pw lw cw W pt lt ct T ps ls cs S sky st w i1 i2 i3 i4 hc
end Ti
end
section
open Go.ChangeShapes Go.WideShapes Go.ChangeAt Go.WideMaps Go.WideElems Go.RowKit Go.Deep
namespace Sh
theorem trod_int{H:Type}{enc:TypeId × Value->H}{P:Program}{w:World}{base:Nat}{spare:Nat->Bool}{held:Bool}{t:TypeId}{fuel:Nat}{v:Value}{x:DataW H × List MemPlace}(ht:P.underlying t=some (.int .i64))(h:DataW.trod enc P w base spare held fuel t [v]=some x):
  ∃b,v=.int .i64 b/\(-9223372036854775808<=b/\b<=9223372036854775807):=by
 obtain⟨k,e,_,wf⟩:=DataW.trod_int ht h
 simp at e
 simp only[Lit.wf,Bool.and_eq_true,decide_eq_true_eq]at wf
 have q1:IntKind.i64.min= -9223372036854775808:=by decide
 have q2:IntKind.i64.max=9223372036854775807:=by decide
 rw[q1,q2]at wf
 exact⟨k,e,wf⟩
theorem nB{w:World}{a:Addr}{v:Value}(h:w.cell? a=some v):a.block<w.heap.size:=by
 by_cases c:a.block<w.heap.size
 ·exact c
 ·exfalso
  have:w.heap[a.block]? =none:=by simp;omega
  simp[World.cell?,this]at h
theorem jP{α:Type}{n:Nat}{R:Nat->α->Prop}(d:α)(h: ∀i,i<n-> ∃x,R i x): ∃f:Nat->α,∀i,i<n->R i (f i):=by
 have: ∀i,∃x,i<n->R i x:=fun i=>by
  by_cases c:i<n
  ·obtain⟨x,h1⟩:=h i c
   exact⟨x,fun _=>h1⟩
  ·exact⟨d,fun h=>absurd h c⟩
 exact⟨fun i=>(this i).choose,fun i hi=>(this i).choose_spec hi⟩
theorem iQ{H:Type}{enc:TypeId × Value->H}{W:World}{cs:List Value}{fuel:Nat}{x:DataW H × List MemPlace}
  (hf:DataW.trod enc prog W 0 (fun _=>true) true fuel 38 cs=some x): ∃a0 len cap xs,cs=[.slice a0 len cap]/\IsI W a0 len xs/\len<=cap/\cap<=maxLen:=by
 rcases open_slice1 underlying38 (by kernel_rfl) hf with⟨hcs,_⟩ | ⟨a,l,c,m,n,V,D,Pl,hcs,_,hl,hm,hmm,_,hx⟩
 ·exact⟨none,0,0,fun _=>0,hcs,fun k hk=>by omega,Nat.le_refl _,Nat.zero_le _⟩
 ·simp only[if_true]at hmm
  have each: ∀i,i<l-> ∃x:Int,W.cell? (a.add i)=some (.int .i64 x)/\(-9223372036854775808<=x/\x<=9223372036854775807):=by
   intro i hi
   obtain⟨h1,h2⟩:=hx i (by omega)
   obtain⟨x,e,wx⟩:=trod_int underlying2 h2
   rw[e]at h1
   exact⟨x,h1,wx⟩
  obtain⟨f,hf⟩:=jP 0 each
  refine⟨some a,l,c,f,hcs,fun k hk=>⟨(hf k hk).2,?_⟩,hl,hm⟩
  have h0:=(hf k hk).1
  have z:=(hf 0 (by omega)).1
  obtain⟨b,off,spot⟩:=a
  have hspot:spot=none:=by simpa [Addr.add]using World.cell?_spot z
  subst hspot
  rw[nW]at h0
  exact⟨b,off,rfl,nB h0,h0⟩
end Sh
end
section
open Go.ChangeShapes Go.WideShapes Go.ChangeAt Go.WideMaps Go.WideElems Go.RowKit Go.Deep
namespace Ti
theorem qC{H:Type}{P:Program}{ts:List TypeId}{ds:List (DataW H)}(h:(DataW.weightsEach P ts ds).all (· <=reachBytes)=true){j:Nat}{t:TypeId}{fs:Array Field}{parts:List (DataW H)}(ht:ts[j]? =some t)(hd:ds[j]? =some (.agg parts))(hu:P.underlying t=some (.struct fs)):
  (DataW.weightsEach P (fs.toList.map (·.type)) parts).all (· <=reachBytes)=true:=by
 refine List.all_eq_true.2 (fun n hn=> ?_)
 exact List.all_eq_true.1 h _ (DataW.weights_mem_each ht hd n (by simpa [DataW.weights,hu]using hn))
end Ti
end
section
open Go.ChangeShapes Go.WideShapes Go.ChangeAt Go.WideMaps Go.WideElems Go.RowKit Go.Deep
theorem array6'{c:Array Value}(h:c.size=6): ∃v0 v1 v2 v3 v4 v5,c= #[v0,v1,v2,v3,v4,v5]:=by
 rcases c with⟨l⟩
 match l,h with
 | [v0,v1,v2,v3,v4,v5],_=>exact⟨v0,v1,v2,v3,v4,v5,rfl⟩
end
section
open Go.ChangeShapes Go.WideShapes Go.ChangeAt Go.WideMaps Go.WideElems Go.RowKit Go.Deep
namespace Ti
theorem lJ:Try.prog.bytesOf 47=8:=by kernel_rfl
theorem lK:Try.prog.bytesOf 2=8:=by kernel_rfl
theorem cO{H:Type}{enc:TypeId × Value->H}{W:World}{T E:TypeId}{a0:Option Addr}{len0 cap0:Nat}{fuel:Nat}{x:DataW H × List MemPlace}(hu:Try.prog.underlying T=some (.slice E))(h1:Try.prog.cellsOf E=1)
  (hf:DataW.trod enc prog W 0 (fun _=>true) true fuel T [.slice a0 len0 cap0]=some x) (hs: ∀elems spare,x.1=.slice elems spare->(elems.length+spare.length)*8<=reachBytes):len0<=17592186044416:=by
 rcases Go.Deep.open_slice1 hu h1 hf with⟨hcs,_⟩ | ⟨a,l,c,m,n,V,D,Pl,hcs,_,hl,hm,hmm,hx,_⟩
 ·simp at hcs
  obtain⟨rfl,rfl,rfl⟩:=hcs
  exact Nat.zero_le _
 ·simp at hcs
  obtain⟨rfl,rfl,rfl⟩:=hcs
  simp only[if_true]at hmm
  subst hmm
  have:=hs _ _ (by rw[hx])
  simp only[List.length_map,List.length_range,reachBytes]at this
  omega
theorem nC{H:Type}{enc:TypeId × Value->H}{W:World}{r:Reach}{b0:Nat}{v:Value}{d:DataW H}{p:List MemPlace}(hv:Value.okWide prog W r b0 40 v)(h:DataW.Trod enc prog W 0 (fun _=>true) true 40 v d p)
  (hz: ∀parts,d=.agg parts->(DataW.weightsEach prog [37,38,38,37,2,3] parts).all (· <=reachBytes)=true):
  ∃pb lb cb B pw lw cw Wt pt lt ct Tr ps ls cs Sp sky st,v=.agg #[.slice pb lb cb,.slice pw lw cw,.slice pt lt ct,.slice ps ls cs,.int .i64 sky,.int .i64 st]/\(IsFl W pb lb B/\Sh.IsI W pw lw Wt/\Sh.IsI W pt lt Tr/\IsFl W ps ls Sp)/\(lb<=17592186044416/\lw<=17592186044416/\lt<=17592186044416/\ls<=17592186044416)/\(-9223372036854775808<=sky/\sky<=9223372036854775807)/\(-9223372036854775808<=st/\st<=9223372036854775807):=by
 have hC:Try.prog.cellsOf 40=6:=by kernel_rfl
 have k0:Try.prog.cellsOf 37=1:=by kernel_rfl
 have k1:Try.prog.cellsOf 38=1:=by kernel_rfl
 have k2:Try.prog.cellsOf 2=1:=by kernel_rfl
 have k3:Try.prog.cellsOf 3=1:=by kernel_rfl
 obtain⟨cs,rfl,hsz⟩:=okWide_struct underlying40 hv
 obtain⟨v0,v1,v2,v3,v4,v5,rfl⟩:=array6' (hsz.trans hC)
 obtain⟨fuel,hf⟩:=h
 have hf':DataW.trod enc prog W 0 (fun _=>true) true fuel 40 [v0,v1,v2,v3,v4,v5]=some (d,p):=by simpa [Value.cells]using hf
 obtain⟨xs,m,_,hx,hlen,hn,hel⟩:=DataW.trod_struct underlying40 hf'
 match xs,hn with
 | [x0,x1,x2,x3,x4,x5],_=>
  have h0:=hel 0 _ rfl
  have h1:=hel 1 _ rfl
  have h2:=hel 2 _ rfl
  have h3:=hel 3 _ rfl
  have h4:=hel 4 _ rfl
  have h5:=hel 5 _ rfl
  simp[k0,k1,k2,k3]at h0 h1 h2 h3 h4 h5
  have hzz:=hz _ (congrArg Prod.fst hx)
  obtain⟨pb,lb,cb,B,e0,i0,-,-⟩:=iL h0
  obtain⟨pw,lw,cw,Wt,e1,i1,-,-⟩:=Sh.iQ h1
  obtain⟨pt,lt,ct,Tr,e2,i2,-,-⟩:=Sh.iQ h2
  obtain⟨ps,ls,cs,Sp,e3,i3,-,-⟩:=iL h3
  obtain⟨sky,e4,g4⟩:=Sh.trod_int underlying2 h4
  obtain⟨st,e5,g5⟩:=Sh.trod_int underlying3 h5
  simp at e0 e1 e2 e3
  subst e0 e1 e2 e3 e4 e5
  exact⟨pb,lb,cb,B,pw,lw,cw,Wt,pt,lt,ct,Tr,ps,ls,cs,Sp,sky,st,rfl,⟨i0,i1,i2,i3⟩,⟨cO underlying37 (by kernel_rfl) h0 (fun elems spare e=>by have q:=sized_slice hzz (j:=0) (t:=37) (e:=47) (elems:=elems) (spare:=spare) rfl (by rw[<- e];rfl) underlying37;rw[lJ]at q;exact q),cO underlying38 (by kernel_rfl) h1 (fun elems spare e=>by have q:=sized_slice hzz (j:=1) (t:=38) (e:=2) (elems:=elems) (spare:=spare) rfl (by rw[<- e];rfl) underlying38;rw[lK]at q;exact q),cO underlying38 (by kernel_rfl) h2 (fun elems spare e=>by have q:=sized_slice hzz (j:=2) (t:=38) (e:=2) (elems:=elems) (spare:=spare) rfl (by rw[<- e];rfl) underlying38;rw[lK]at q;exact q),cO underlying37 (by kernel_rfl) h3 (fun elems spare e=>by have q:=sized_slice hzz (j:=3) (t:=37) (e:=47) (elems:=elems) (spare:=spare) rfl (by rw[<- e];rfl) underlying37;rw[lJ]at q;exact q)⟩,g4,g5⟩
end Ti
end
end Go.Proofs.Ytdeammhdedcjlaa
