/-
  Some of the texts of this proof, one behind the other.
-/
import Derived.ProofKit
import Derived.OpenShut
import Derived.WalkLawsBesides
import Derived.Stop.Joined
import Derived.Carry
import Derived.Lib.SmallJoins
import Derived.Deep.SlicePairs
import Derived.Deep.Slices
import Derived.SizedLaws
import Derived.Test.YtdeammhdedcjlaaKc08
set_option maxRecDepth 100000
set_option maxHeartbeats 400000000
namespace Go.Proofs.Ytdeammhdedcjlaa
open _root_.Go.Proofs.Try
section
open Go.RowKit Go.Deep Tf Cu
namespace Ti
theorem pK(side:Int)(pb:Option Addr)(lb cb:Nat)(B:Nat->Nat)(pw:Option Addr)(lw cw:Nat)(W:Nat->Int)(pt:Option Addr)(lt ct:Nat)(T:Nat->Int)(ps:Option Addr)(ls cs:Nat)(S:Nat->Nat)(sky st:Int)(w:World)(i1:IsFl w pb lb B)(i2:Sh.IsI w pw lw W)(i3:Sh.IsI w pt lt T)(i4:IsFl w ps ls S)(h:(Ss.chk side lb lw lt ls B W T S sky st).2≠0):
  Calls prog 12 #[.int .i64 side,.agg #[.slice pb lb cb,.slice pw lw cw,.slice pt lt ct,.slice ps ls cs,.int .i64 sky,.int .i64 st]] w fun e w'=>e=.returned (.tuple #[.slice none 0 0,.int .i64 (Ss.chk side lb lw lt ls B W T S sky st).2])/\Below w.heap.size w w':=
 tiles_no side pb lb cb pw lw cw pt lt ct ps ls cs sky st _ _ w (by simpa using h) (hid fun v a=>Ss.eM side pb lb cb B pw lw cw W pt lt ct T ps ls cs S sky st v (i1.below a) (i2.below a) (i3.below a) (i4.below a))
def TilesAt(W0:World)(n m:Nat)(W:Nat->Int)(gl:Nat)(gs:Nat->Nat)(w:World):Prop:=
 Below W0.heap.size W0 w/\W0.heap.size<=gl/\w.rowIs gl 25 24 (tcv n m W gs)/\(∀j,j<6->gl<gs j/\w.rowIs (gs j) 22 m (fun k=>.int .u32 ((tb n W (j*m+k):Nat):Int)))/\ ∀i j,i<j->j<6->gs i<gs j
theorem kY(side:Int)(pb:Option Addr)(lb cb:Nat)(B:Nat->Nat)(pw:Option Addr)(lw cw:Nat)(W:Nat->Int)(pt:Option Addr)(lt ct:Nat)(T:Nat->Int)(ps:Option Addr)(ls cs:Nat)(S:Nat->Nat)(sky st:Int)(w:World)(i1:IsFl w pb lb B)(i2:Sh.IsI w pw lw W)(i3:Sh.IsI w pt lt T)(i4:IsFl w ps ls S)(h:(Ss.chk side lb lw lt ls B W T S sky st).2=0):
  Calls prog 12 #[.int .i64 side,.agg #[.slice pb lb cb,.slice pw lw cw,.slice pt lt ct,.slice ps ls cs,.int .i64 sky,.int .i64 st]] w fun e w'=> ∃gl gs,e=.returned (.tuple #[.slice (some ⟨gl,0,none⟩) 6 6,.int .i64 0])/\TilesAt w side.toNat (side.toNat*side.toNat) W gl gs w':=by
 obtain⟨n,rfl,hn,hl,h0⟩:=nX h
 have m1:=bZ hn.1 hn.2
 obtain⟨b,o,rfl⟩:=i2.some0 (by omega)
 rw[Int.toNat_natCast]
 exact tiles_go n (n*n) pb lb cb b o lw cw W pt lt ct ps ls cs sky st _ w hn rfl hl i2 h0 (hid fun v a=>by
  have q:=Ss.eM (n:Nat) pb lb cb B (some ⟨b,o,none⟩) lw cw W pt lt ct T ps ls cs S sky st v (i1.below a) (i2.below a) (i3.below a) (i4.below a)
  rw[h]at q
  exact q)
theorem f4_lt(i:Nat)(hi:i<4):f4 i<4294967296:=by
 have c:i=0\/i=1\/i=2\/i=3:=by omega
 rcases c with rfl | rfl | rfl | rfl<;>decide
theorem nZ(w:World):Calls prog 18 #[] w fun e w'=> ∃g,e=.returned (.agg #[.int .i64 5,.int .u32 0,.int .u32 1073741824,.slice (some ⟨g,0,none⟩) 4 4])/\Below w.heap.size w w'/\w.heap.size<=g/\w'.rowIs g 22 4 (fun i=>.int .u32 ((f4 i:Nat):Int)):=by
 have BL: ∀v:World,(Instr.buildSlice 23 4 #[(0,.int .u32 1065353216),(1,.int .u32 1073741824),(2,.int .u32 0),(3,.int .u32 1065353216)]).run prog v=.ok (.slice (some ⟨v.heap.size,0,none⟩) 4 4) (v.alloc (.cells #[.int .u32 1065353216,.int .u32 1073741824,.int .u32 0,.int .u32 1065353216] 22)):=fun v=>by simp[go_sem,Instr.buildSlice,run_underlying underlying23]
 obtain⟨A0,R0⟩:=aE w (.cells #[.int .i64 0,.int .u32 0,.int .u32 0,.slice none 0 0] 25)
 go_enter func18,ntmps18
 go_upto_region 1 with fail
 generalize hW:World.alloc w _=V0 at*
 obtain⟨gr,hgr⟩:=aB w.heap.size
 have HG:Hid (w.heap.size<=gr):=by show _<=_;omega
 rw[hgr]at R0 ⊢
 clear hgr hW
 obtain⟨A1,R1⟩:=aE V0 (.cells #[.int .u32 1065353216,.int .u32 1073741824,.int .u32 0,.int .u32 1065353216] 22)
 have R2:=hid (A1.out.heap R0.out)
 have A2:=hid (A0.out.trans A1.out)
 have t0:=aA 0 R2.out
 have t1:=aA 1 R2.out
 have t2:=aA 2 R2.out
 have t3:=aA 3 R2.out
 have f0:=aC R2.out 0
 have f1:=aC R2.out 1
 have f2:=aC R2.out 2
 have f3:=aC R2.out 3
 have LZ:Hid (gr<V0.heap.size/\w.heap.size<=V0.heap.size):=⟨lt_of_block R0.out,A0.out.size⟩
 go_wp2_with fail
 (try simp only[Exit.inBlock,Exit.then])
 have ne:V0.heap.size≠gr:=by have:=LZ.out;omega
 have RW:(V0.alloc (.cells #[.int .u32 1065353216,.int .u32 1073741824,.int .u32 0,.int .u32 1065353216] 22)).rowIs V0.heap.size 22 4 (fun i=>.int .u32 ((f4 i:Nat):Int)):=⟨_,R1.out,rfl,fun i hi=>by
  have c:i=0\/i=1\/i=2\/i=3:=by omega
  rcases c with rfl | rfl | rfl | rfl<;>rfl⟩
 refine bodyPost_ret (v:=.agg #[.int .i64 5,.int .u32 0,.int .u32 1073741824,.slice (some ⟨V0.heap.size,0,none⟩) 4 4]) ?_ rfl ?_
 ·exact results_cell_row results18 _ _ gr _ _ (0,0) _ rfl (fK R2.out) underlying25 rfl (by kernel_rfl)
 ·exact⟨_,rfl,(((A2.out.setk HG.out _).setk HG.out _).setk HG.out _).setk HG.out _,LZ.out.2,(((RW.setOther (a:=⟨gr,0,none⟩) ne _).setOther (a:=⟨gr,1,none⟩) ne _).setOther (a:=⟨gr,2,none⟩) ne _).setOther (a:=⟨gr,3,none⟩) ne _⟩
theorem run_bs{P:Program}{a:Act}{o:Oper}{t:TypeId}{n:Nat}{ps:Array (Nat × Operand)}{vs:Array (Nat × Value)}{u:Value}{w w':World}(ho:o.op=.buildSlice t n ps)(hv:(ps.map fun(i,x)=>(i,a.eval x))=vs)(M:(Instr.buildSlice t n vs).run P w=.ok u w'):(execOp a.eval o).run P w=.ok (.value u) w':=by
 unfold execOp
 rw[ho]
 simp only[hv]
 exact Cx.run_val M
theorem pM{P:Program}{a:Act}{o:Oper}{x y:Operand}{f:FuncId}{fn:Func}{ats:Array TypeId}{v u:Value}(ho:o.op=.call {callee:=.value (.func f),args:= #[x,y],argTypes:=ats})(hx:a.eval x=v)(hy:a.eval y=u)(hf:P.funcs[f]? =some fn)(hn:(fn.name== "runtime.NumGoroutine")=false)(hb:fn.body.isNone=false)(w:World):(execOp a.eval o).run P w=.ok (.enter f #[v,u]) w:=by
 have h1:fn.name≠ "runtime.NumGoroutine" :=by simpa using hn
 have ef:a.eval (.func f)=.func (.func f) #[] #[]:=rfl
 have e:execOp a.eval o=callFunc f #[v,u]:=by
  unfold execOp
  simp[ho,resolve,Deferred.ofValue,invoke,ef,hx,hy]
 obtain⟨c,hc⟩: ∃c,fn.body=some c:=by
  cases h:fn.body with
  | none=>simp[h]at hb
  | some c=>exact⟨c,rfl⟩
 rw[e]
 simp[callFunc,hf,h1,hc]
def hdB(l:List Nat):Nat:=l.headD 0
def RL(ob:Obj)(x:Cx.Ix)(w:World):Prop:= ∃b,x.1=[b]/\w.heap[b]? =some ob
def RB(x:Cx.Ix)(w:World):Prop:= ∃b1 b2 b3 b4,x.2=.agg #[.slice (some ⟨b1,0,none⟩) 6 6,.slice (some ⟨b2,0,none⟩) 6 6,.slice (some ⟨b3,0,none⟩) 6 6,.slice (some ⟨b4,0,none⟩) 12 12,.int .i64 0,.int .i64 0]/\w.heap[b1]? =some (Obj.cells (madeCells #[.float .f64 0] 6) 47)/\w.heap[b2]? =some (Obj.cells #[.int .i64 1431655765,.int .i64 0,.int .i64 0,.int .i64 0,.int .i64 0,.int .i64 0] 2)/\w.heap[b3]? =some (Obj.cells (madeCells #[.int .i64 0] 6) 2)/\w.heap[b4]? =some (Obj.cells (madeCells #[.float .f64 0] 12) 47)
def RT(x:Cx.Ix)(w:World):Prop:= ∃gl gs,x.1=[gl]/\w.rowIs gl 25 24 (tcv 1 1 W6 gs)
theorem jM{ob:Obj}{x:Cx.Ix}{w w':World}(h:RL ob x w)(a:Ab w w'):RL ob x w':=by
 obtain⟨b,e,h⟩:=h
 exact⟨b,e,a.heap h⟩
theorem rb_stb{x:Cx.Ix}{w w':World}(h:RB x w)(a:Ab w w'):RB x w':=by
 obtain⟨b1,b2,b3,b4,e,h1,h2,h3,h4⟩:=h
 exact⟨b1,b2,b3,b4,e,a.heap h1,a.heap h2,a.heap h3,a.heap h4⟩
theorem rt_stb{x:Cx.Ix}{w w':World}(h:RT x w)(a:Ab w w'):RT x w':=by
 obtain⟨gl,gs,e,h⟩:=h
 exact⟨gl,gs,e,Sh.aQ h a⟩
theorem stb_aw:Cx.Stable (fun k=>if k=0 then some (RL (Obj.cells (madeCells #[.float .f64 0] 6) 47),fun x=>.slice (some ⟨hdB x.1,0,none⟩) 6 6)else if k=1 then some (RL (Obj.cells #[.int .i64 1431655765,.int .i64 0,.int .i64 0,.int .i64 0,.int .i64 0,.int .i64 0] 2),fun x=>.slice (some ⟨hdB x.1,0,none⟩) 6 6)else if k=2 then some (RL (Obj.cells (madeCells #[.int .i64 0] 6) 2),fun x=>.slice (some ⟨hdB x.1,0,none⟩) 6 6)else if k=3 then some (RL (Obj.cells (madeCells #[.float .f64 0] 12) 47),fun x=>.slice (some ⟨hdB x.1,0,none⟩) 12 12)else if k=4 then some (RB,fun x=>x.2)else if k=5 then some (RT,fun x=>.tuple #[.slice (some ⟨hdB x.1,0,none⟩) 6 6,.int .i64 0])else none):=fun i R mk h x v v' hr ha=>by
 rcases Nat.decEq i 0 with q0 | q0
 rotate_left
 ·subst q0
  simp only[if_true,Option.some.injEq,Prod.mk.injEq]at h
  obtain⟨h1,h2⟩:=h
  subst h1 h2
  exact jM hr ha
 rcases Nat.decEq i 1 with q1 | q1
 rotate_left
 ·subst q1
  simp only[if_true,if_neg (show¬(1:Nat)=0 by decide),Option.some.injEq,Prod.mk.injEq]at h
  obtain⟨h1,h2⟩:=h
  subst h1 h2
  exact jM hr ha
 rcases Nat.decEq i 2 with q2 | q2
 rotate_left
 ·subst q2
  simp only[if_true,if_neg (show¬(2:Nat)=0 by decide),if_neg (show¬(2:Nat)=1 by decide),Option.some.injEq,Prod.mk.injEq]at h
  obtain⟨h1,h2⟩:=h
  subst h1 h2
  exact jM hr ha
 rcases Nat.decEq i 3 with q3 | q3
 rotate_left
 ·subst q3
  simp only[if_true,if_neg (show¬(3:Nat)=0 by decide),if_neg (show¬(3:Nat)=1 by decide),if_neg (show¬(3:Nat)=2 by decide),Option.some.injEq,Prod.mk.injEq]at h
  obtain⟨h1,h2⟩:=h
  subst h1 h2
  exact jM hr ha
 rcases Nat.decEq i 4 with q4 | q4
 rotate_left
 ·subst q4
  simp only[if_true,if_neg (show¬(4:Nat)=0 by decide),if_neg (show¬(4:Nat)=1 by decide),if_neg (show¬(4:Nat)=2 by decide),if_neg (show¬(4:Nat)=3 by decide),Option.some.injEq,Prod.mk.injEq]at h
  obtain⟨h1,h2⟩:=h
  subst h1 h2
  exact rb_stb hr ha
 rcases Nat.decEq i 5 with q5 | q5
 rotate_left
 ·subst q5
  simp only[if_true,if_neg (show¬(5:Nat)=4 by decide),if_neg (show¬(5:Nat)=0 by decide),if_neg (show¬(5:Nat)=1 by decide),if_neg (show¬(5:Nat)=2 by decide),if_neg (show¬(5:Nat)=3 by decide),Option.some.injEq,Prod.mk.injEq]at h
  obtain⟨h1,h2⟩:=h
  subst h1 h2
  exact rt_stb hr ha
 ·simp only[if_neg q0,if_neg q1,if_neg q2,if_neg q3,if_neg q4,if_neg q5]at h
  cases h
theorem kZ:(Try.prog.info? 47).map (fun i=>(i.zero,i.size,i.bytes))=some (some (.float .f64 0),1,8):=by kernel_rfl
theorem hI(w:World):Calls prog 8 #[] w fun e w'=>e=.returned (.bool true)/\Below w.heap.size w w':=by
 have M1: ∀v:World,(Instr.makeSlice 37 (.int .i64 6) (.int .i64 6)).run prog v=.ok (.slice (some ⟨v.heap.size,0,none⟩) 6 6) (v.alloc (Obj.cells (madeCells #[.float .f64 0] 6) 47)):=fun v=>run_make_row' (P:=prog) 37 47 (.float .f64 0) 8 underlying37 kZ rfl .i64 .i64 6 (by omega) (by omega) v
 have M2: ∀v:World,(Instr.makeSlice 38 (.int .i64 6) (.int .i64 6)).run prog v=.ok (.slice (some ⟨v.heap.size,0,none⟩) 6 6) (v.alloc (Obj.cells (madeCells #[.int .i64 0] 6) 2)):=fun v=>run_make_row' (P:=prog) 38 2 (.int .i64 0) 8 underlying38 Sh.info64 rfl .i64 .i64 6 (by omega) (by omega) v
 have M3: ∀v:World,(Instr.makeSlice 37 (.int .i64 12) (.int .i64 12)).run prog v=.ok (.slice (some ⟨v.heap.size,0,none⟩) 12 12) (v.alloc (Obj.cells (madeCells #[.float .f64 0] 12) 47)):=fun v=>run_make_row' (P:=prog) 37 47 (.float .f64 0) 8 underlying37 kZ rfl .i64 .i64 12 (by omega) (by omega) v
 have BL: ∀v:World,(Instr.buildSlice 38 6 #[(0,.int .i64 1431655765),(1,.int .i64 0),(2,.int .i64 0),(3,.int .i64 0),(4,.int .i64 0),(5,.int .i64 0)]).run prog v=.ok (.slice (some ⟨v.heap.size,0,none⟩) 6 6) (v.alloc (.cells #[.int .i64 1431655765,.int .i64 0,.int .i64 0,.int .i64 0,.int .i64 0,.int .i64 0] 2)):=fun v=>by simp[go_sem,Instr.buildSlice,run_underlying underlying38]
 go_enter func8,ntmps8
 go_wp2_with fail
 refine(nZ _).mono ?_
 rintro e9 v1 ⟨g,rfl,b1,l1,r1⟩
 have A1:Hid (Ab w v1):=b1
 have IW:=hid (eJ (M:=4294967296) r1 (fun i hi=>by
  have c:i=0\/i=1\/i=2\/i=3:=by omega
  rcases c with rfl | rfl | rfl | rfl<;>decide))
 have CE:=hid (gX 5 0 1073741824 (some ⟨g,0,none⟩) 4 4 f4 v1 (by decide) (by decide) (by decide) IW.out ok4)
 clear b1 l1 r1
 rw[sd4]at CE
 go_wp2_with fail
 refine CE.out.mono ?_
 rintro e9 v2 ⟨gb,rfl,b2,l2,r2⟩
 have A2:Hid (Ab w v2):=A1.out.trans b2
 have E2:Hid (v2.rowIs gb 5 30 (fun i=>.int .u8 ((E30 i:Nat):Int))):=r2
 have I2:=hid (eJ (M:=256) E2.out (fun i _=>enc_lt (by decide) (by decide)))
 have CD:=hid (mE (some ⟨gb,0,none⟩) 30 30 E30 v2 (by decide) I2.out e30)
 rw[e30_h.1,e30_h.2.1,e30_h.2.2.1,e30_h.2.2.2]at CD
 clear b2 l2 r2 CE IW A1
 go_wp2_with fail
 refine CD.out.mono ?_
 rintro e9 v3 ⟨gd,rfl,b3,l3,r3⟩
 have A3:Hid (Ab w v3):=A2.out.trans b3
 have E3:=hid (Sh.aQ E2.out b3)
 have D3:=hid (r3.congr (g:=fun i=>.int .u32 ((f4 i:Nat):Int)) (fun i hi=>by rw[e30_d i hi]))
 clear b3 l3 r3 CD I2 A2 E2
 obtain⟨X4,T4⟩:=aE v3 (.cells #[.int .i64 5,.int .u32 0,.int .u32 1073741824,.slice (some ⟨gd,0,none⟩) 4 4] 25)
 go_upto_region 3 with fail
 generalize hV:World.alloc v3 _=v4 at*
 obtain⟨gt,hgt⟩:=aB v3.heap.size
 rw[hgt]at T4 ⊢
 clear hV hgt
 have A4:Hid (Ab w v4):=A3.out.trans X4.out
 have E4:=hid (Sh.aQ E3.out X4.out)
 have D4:=hid (Sh.aQ D3.out X4.out)
 clear A3 E3 D3 X4
 have CN:=hid (oW none 0 0 (fun _=>0) v4 (by decide) (IsW.nil _ _ _ _ _) (by rw[e0];decide))
 rw[e0]at CN
 go_wp2_with fail
 refine CN.out.mono ?_
 rintro e9 v5 ⟨rfl,b5⟩
 have X6:Hid (Ab v4 (v5.alloc (.cells #[.int .i64 0,.int .u32 0,.int .u32 0,.slice none 0 0] 25))):=Ab.alloc b5 _
 clear CN b5
 go_upto_region 4 with fail
 generalize hV:World.alloc v5 _=v6 at*
 clear hV
 have A6:Hid (Ab w v6):=A4.out.trans X6.out
 have E6:=hid (Sh.aQ E4.out X6.out)
 have D6:=hid (Sh.aQ D4.out X6.out)
 have T6:=hid (X6.out.heap T4.out)
 clear A4 E4 D4 T4 X6
 obtain⟨gp,hgp⟩:=aB v5.heap.size
 rw[hgp]
 clear hgp
 go_cut [7,8]from 24 to 31 (fun s7 s8 wx=> ∃gl gs,s7=.slice (some ⟨gl,0,none⟩) 6 6/\s8=.int .i64 0/\Ab v6 wx/\wx.rowIs gl 25 24 (tcv 1 1 W6 gs))
 case first=>
  obtain⟨UU,E,hF1,hF2⟩:=cls v6.drew
  have HU:=hid hF2
  clear hF1 hF2
  refine Cx.kX 10 (fun k=>if k=0 then some (RL (Obj.cells (madeCells #[.float .f64 0] 6) 47),fun x=>.slice (some ⟨hdB x.1,0,none⟩) 6 6)else if k=1 then some (RL (Obj.cells #[.int .i64 1431655765,.int .i64 0,.int .i64 0,.int .i64 0,.int .i64 0,.int .i64 0] 2),fun x=>.slice (some ⟨hdB x.1,0,none⟩) 6 6)else if k=2 then some (RL (Obj.cells (madeCells #[.int .i64 0] 6) 2),fun x=>.slice (some ⟨hdB x.1,0,none⟩) 6 6)else if k=3 then some (RL (Obj.cells (madeCells #[.float .f64 0] 12) 47),fun x=>.slice (some ⟨hdB x.1,0,none⟩) 12 12)else if k=4 then some (RB,fun x=>x.2)else if k=5 then some (RT,fun x=>.tuple #[.slice (some ⟨hdB x.1,0,none⟩) 6 6,.int .i64 0])else none) (fun j=>if j=4 then [0,1,2,3]else if j=5 then [4]else []) stb_aw (by kernel_rfl) (by kernel_rfl) (by kernel_rfl) (by kernel_rfl) ?_
  simp only[List.take_succ_cons,List.take_zero]
  refine Cx.bK (ob:=RL (Obj.cells (madeCells #[.float .f64 0] 6) 47)) (mk:=fun x=>.slice (some ⟨hdB x.1,0,none⟩) 6 6) (by rfl) (by kernel_rfl) ?_ ?_
  ·refine Cx.fT (O:=(Obj.cells (madeCells #[.float .f64 0] 6) 47)) (u:=fun _=>.bool true) (fun v _=> ?_) (fun v _=>⟨v.heap.size,rfl,heap_alloc_new _ _⟩)
   exact Cx.run_make (vx:=.int .i64 6) (vy:=.int .i64 6) (by rfl) (by rfl) (by rfl) (M1 v)
  intro x0 fx0
  simp only[Act.put,List.setIfInBounds_toArray,List.set_cons_succ,List.set_cons_zero]
  refine Cx.bK (ob:=RL (Obj.cells #[.int .i64 1431655765,.int .i64 0,.int .i64 0,.int .i64 0,.int .i64 0,.int .i64 0] 2)) (mk:=fun x=>.slice (some ⟨hdB x.1,0,none⟩) 6 6) (by rfl) (by kernel_rfl) ?_ ?_
  ·refine Cx.fT (O:=(Obj.cells #[.int .i64 1431655765,.int .i64 0,.int .i64 0,.int .i64 0,.int .i64 0,.int .i64 0] 2)) (u:=fun _=>.bool true) (fun v _=> ?_) (fun v _=>⟨v.heap.size,rfl,heap_alloc_new _ _⟩)
   exact run_bs (P:=prog) (vs:= #[(0,.int .i64 1431655765),(1,.int .i64 0),(2,.int .i64 0),(3,.int .i64 0),(4,.int .i64 0),(5,.int .i64 0)]) (by rfl) (by simp[Act.eval]) (BL v)
  intro x1 fx1
  simp only[Act.put,List.setIfInBounds_toArray,List.set_cons_succ,List.set_cons_zero]
  refine Cx.bK (ob:=RL (Obj.cells (madeCells #[.int .i64 0] 6) 2)) (mk:=fun x=>.slice (some ⟨hdB x.1,0,none⟩) 6 6) (by rfl) (by kernel_rfl) ?_ ?_
  ·refine Cx.fT (O:=(Obj.cells (madeCells #[.int .i64 0] 6) 2)) (u:=fun _=>.bool true) (fun v _=> ?_) (fun v _=>⟨v.heap.size,rfl,heap_alloc_new _ _⟩)
   exact Cx.run_make (vx:=.int .i64 6) (vy:=.int .i64 6) (by rfl) (by rfl) (by rfl) (M2 v)
  intro x2 fx2
  simp only[Act.put,List.setIfInBounds_toArray,List.set_cons_succ,List.set_cons_zero]
  refine Cx.bK (ob:=RL (Obj.cells (madeCells #[.float .f64 0] 12) 47)) (mk:=fun x=>.slice (some ⟨hdB x.1,0,none⟩) 12 12) (by rfl) (by kernel_rfl) ?_ ?_
  ·refine Cx.fT (O:=(Obj.cells (madeCells #[.float .f64 0] 12) 47)) (u:=fun _=>.bool true) (fun v _=> ?_) (fun v _=>⟨v.heap.size,rfl,heap_alloc_new _ _⟩)
   exact Cx.run_make (vx:=.int .i64 12) (vy:=.int .i64 12) (by rfl) (by rfl) (by rfl) (M3 v)
  intro x3 fx3
  simp only[Act.put,List.setIfInBounds_toArray,List.set_cons_succ,List.set_cons_zero]
  refine Cx.bK (ob:=RB) (mk:=fun x=>x.2) (by rfl) (by kernel_rfl) ?_ ?_
  ·intro v hv
   obtain⟨⟨b1,e1,h1⟩,-⟩:=hv.at (i:=0) (x:=x0) (R:=RL (Obj.cells (madeCells #[.float .f64 0] 6) 47)) (mk:=fun x=>.slice (some ⟨hdB x.1,0,none⟩) 6 6) (by rfl) (by rfl)
   obtain⟨⟨b2,e2,h2⟩,-⟩:=hv.at (i:=1) (x:=x1) (R:=RL (Obj.cells #[.int .i64 1431655765,.int .i64 0,.int .i64 0,.int .i64 0,.int .i64 0,.int .i64 0] 2)) (mk:=fun x=>.slice (some ⟨hdB x.1,0,none⟩) 6 6) (by rfl) (by rfl)
   obtain⟨⟨b3,e3,h3⟩,-⟩:=hv.at (i:=2) (x:=x2) (R:=RL (Obj.cells (madeCells #[.int .i64 0] 6) 2)) (mk:=fun x=>.slice (some ⟨hdB x.1,0,none⟩) 6 6) (by rfl) (by rfl)
   obtain⟨⟨b4,e4,h4⟩,-⟩:=hv.at (i:=3) (x:=x3) (R:=RL (Obj.cells (madeCells #[.float .f64 0] 12) 47)) (mk:=fun x=>.slice (some ⟨hdB x.1,0,none⟩) 12 12) (by rfl) (by rfl)
   have q: ∀(o:Oper) (a:Act),(execOp a.eval o).run prog v=.ok (.value (.agg #[.slice (some ⟨hdB x0.1,0,none⟩) 6 6,.slice (some ⟨hdB x1.1,0,none⟩) 6 6,.slice (some ⟨hdB x2.1,0,none⟩) 6 6,.slice (some ⟨hdB x3.1,0,none⟩) 12 12,.int .i64 0,.int .i64 0])) v->Cx.LayR prog v RB (fun x=>x.2) ((execOp a.eval o).run prog v):=fun o a q=>by
    rw[q]
    exact⟨([],.agg #[.slice (some ⟨hdB x0.1,0,none⟩) 6 6,.slice (some ⟨hdB x1.1,0,none⟩) 6 6,.slice (some ⟨hdB x2.1,0,none⟩) 6 6,.slice (some ⟨hdB x3.1,0,none⟩) 12 12,.int .i64 0,.int .i64 0]),rfl,Ab.refl v,(fun b hb=>by cases hb),b1,b2,b3,b4,by rw[e1,e2,e3,e4];rfl,h1,h2,h3,h4⟩
   refine q _ _ ?_
   simp[execOp,go_sem,Act.eval]
  intro x4 fx4
  simp only[Act.put,List.setIfInBounds_toArray,List.set_cons_succ,List.set_cons_zero]
  refine Cx.bK (ob:=RT) (mk:=fun x=>.tuple #[.slice (some ⟨hdB x.1,0,none⟩) 6 6,.int .i64 0]) (by rfl) (by kernel_rfl) ?_ ?_
  ·refine Cx.lay_call (f:=12) (args:= #[.int .i64 1,x4.2]) ?_ (fun v hv=> ?_)
   ·intro v
    exact pM (x:=.const (.int .i64 1)) (y:=.tmp 28) (by rfl) (by rfl) (by rfl) func12 (by kernel_rfl) (by kernel_rfl) v
   ·obtain⟨⟨b1,b2,b3,b4,e,h1,h2,h3,h4⟩,-⟩:=hv.at (i:=4) (x:=x4) (R:=RB) (mk:=fun x=>x.2) (by rfl) (by rfl)
    rw[e]
    have F1:IsFl v (some ⟨b1,0,none⟩) 6 (fun _=>0):=rowIs.fl (cQ h1) (fun _ _=>by decide)
    have F2:Sh.IsI v (some ⟨b2,0,none⟩) 6 W6:=Sh.row_in ⟨_,h2,rfl,fun i hi=>by
     have c:i=0\/i=1\/i=2\/i=3\/i=4\/i=5:=by omega
     rcases c with rfl | rfl | rfl | rfl | rfl | rfl<;>rfl⟩ (fun i _=>by unfold W6;split<;>decide)
    have F3:Sh.IsI v (some ⟨b3,0,none⟩) 6 (fun _=>0):=Sh.row_in (cQ h3) (fun _ _=>by decide)
    have F4:IsFl v (some ⟨b4,0,none⟩) 12 (fun _=>0):=rowIs.fl (cQ h4) (fun _ _=>by decide)
    exact(kY 1 _ 6 6 _ _ 6 6 _ _ 6 6 _ _ 12 12 _ 0 0 v F1 F2 F3 F4 (by rw[chk6])).mono fun e w' q=>by
     obtain⟨gl,gs,rfl,q1,q2,q3,q4,q5⟩:=q
     exact⟨([gl],.bool true),rfl,q1,(fun b hb=>by
      have hb:b=gl:=by simpa using hb
      subst hb
      exact⟨q2,q3.lt⟩),gl,gs,rfl,q3⟩
  intro x5 fx5
  simp only[Act.put,List.setIfInBounds_toArray,List.set_cons_succ,List.set_cons_zero]
  refine Cx.cZ HU (by rfl) (by rfl) ?_
  go_big_quiet_step (with_reducible rfl)
  refine wpQuiet_nil ?_
  refine Cx.cZ HU (by rfl) (by rfl) ?_
  go_big_quiet_step (with_reducible rfl)
  refine wpQuiet_nil ?_
  refine Cx.cZ HU (by rfl) (by rfl) ?_
  go_big_quiet_step (with_reducible rfl)
  refine wpQuiet_nil ?_
  refine Cx.cZ HU (by rfl) (by rfl) ?_
  go_big_quiet_step (with_reducible rfl)
  refine wpQuiet_nil ?_
  refine Cx.mN ?_
  intro wz hz
  obtain⟨⟨gl,gs,e5,r5⟩,-⟩:=hz.at (i:=5) (x:=x5) (R:=RT) (mk:=fun x=>.tuple #[.slice (some ⟨hdB x.1,0,none⟩) 6 6,.int .i64 0]) (by rfl) (by rfl)
  have AZ:Hid (Ab v6 wz):=(Ab.refl v6).drew.trans hz.1
  have R5:=hid r5
  have E5:=hid e5
  clear r5 e5 hz HU fx0 fx1 fx2 fx3 fx4 fx5
  simp only[List.drop_succ_cons,List.drop_zero]
  go_wp2
  try go_meet
  exact⟨gl,gs,by rw[E5.out];rfl,rfl,AZ.out,R5.out⟩
 case rest=>
 obtain⟨gl,gs,rfl,rfl,a7,r7⟩:=hcut
 have A7:Hid (Ab w wc):=A6.out.trans a7
 have E7:=hid (Sh.aQ E6.out a7)
 have D7:=hid (eJ (M:=4294967296) (Sh.aQ D6.out a7) (fun i hi=>by
  have c:i=0\/i=1\/i=2\/i=3:=by omega
  rcases c with rfl | rfl | rfl | rfl<;>decide))
 have T7:=hid (a7.heap T6.out)
 have L7:=hid (r7.cell (i:=2) (by decide))
 have L8:Hid (gl<wc.heap.size):=r7.lt
 have eL:tcv 1 1 W6 gs 2=.int .u32 1065353216:=by
  show Value.int .u32 ((hi (fun k=>tb 1 W6 (0*1+k)) 0:Nat):Int)=_
  rw[tb6]
  rfl
 rw[eL]at L7
 clear a7 r7 A6 E6 D6 T6 M1 M2 M3 BL eL
 have MK:=e30_b
 have KS:Hid (∀v,Ab wc v->Ab wc v/\v.cell? ⟨gt,0,none⟩=some (.int .i64 5)/\v.cell? ⟨gt,1,none⟩=some (.int .u32 0)/\v.cell? ⟨gt,2,none⟩=some (.int .u32 1073741824)/\v.cell? ⟨gt,3,none⟩=some (.slice (some ⟨gd,0,none⟩) 4 4)/\v.cell? ⟨gl,2,none⟩=some (.int .u32 1065353216)/\(convert 26 9 (.slice (some ⟨gb,0,none⟩) 30 30)).run prog v=.ok (.string (str E30 30)) v):=fun v a=>by
  have t:=a.heap T7.out
  exact⟨a,aA 0 t,aA 1 t,aA 2 t,aA 3 t,(Below.cell a L8.out).trans L7.out,bU underlying26 underlying5 underlying9 (eJ (Sh.aQ E7.out a) (fun i _=>enc_lt (by decide) (by decide))) (fun e=>by cases e)⟩
 have X0:Ab wc wc:=Ab.refl wc
 go_wp2_with fail
 go_region_held3 (fun v=>Ab wc v/\v.cell? ⟨gt,0,none⟩=some (.int .i64 5)/\v.cell? ⟨gt,1,none⟩=some (.int .u32 0)/\v.cell? ⟨gt,2,none⟩=some (.int .u32 1073741824)/\v.cell? ⟨gt,3,none⟩=some (.slice (some ⟨gd,0,none⟩) 4 4)/\v.cell? ⟨gl,2,none⟩=some (.int .u32 1065353216)/\(convert 26 9 (.slice (some ⟨gb,0,none⟩) 30 30)).run prog v=.ok (.string (str E30 30)) v) ((refine KS.out _ ?_;(with_reducible (repeat(first | assumption | apply Ab.drew)));done)) (first
  | (go_at_call 18;refine(nZ _).mono ?_;rintro e9 z1 ⟨g9,rfl,b9,l9,r9⟩;have az1:Ab wc z1:=Ab.trans (show Ab wc _ by with_reducible (repeat(first | assumption | apply Ab.drew))) b9;have I9:=hid (eJ (M:=4294967296) r9 f4_lt))
  | (go_at_call 11;refine(same_at _ _ _ _ _ _ _ _ _ _ _ _ f4 f4 _ (by decide) (D7.out.below az1) I9.out).mono ?_;rintro e9 z2 ⟨rfl,b8⟩;have az2:Ab wc z2:=Ab.trans az1 b8))
 go_wp2
 go_ret
 exact⟨by rw[show eqT 5 5 0 0 1073741824 1073741824 4 4 f4 f4=true from decide_eq_true ⟨rfl,rfl,rfl,rfl,fun _ _=>rfl⟩];rfl,A7.out.trans az2⟩
end Ti
end
section
open Go.RowKit Go.Deep Tf Cu
namespace Ti
def anyB(f:Nat->Nat)(x c:Nat):Bool:=(List.range c).any fun k=>f k==x
theorem anyB_s(f:Nat->Nat)(x c:Nat):anyB f x (c+1)=(anyB f x c||f c==x):=by
 unfold anyB
 rw[List.range_succ,List.any_append]
 simp
theorem lA{f:Nat->Nat}{x c k:Nat}(hk:k<c)(h:f k=x):anyB f x c=true:=by
 unfold anyB
 rw[List.any_eq_true]
 exact⟨k,List.mem_range.2 hk,by rw[h];exact beq_self_eq_true x⟩
theorem tile_can{n c:Nat}{W:Nat->Int}(hn:1<=n/\n<=32)(hc:c<6)(h0: ∀i,i<6*(n*n)->0<=W i/\W i<=4503599627370496):
  (∀k,k<n*n->tb n W (c*(n*n)+k)<2139095040)/\okT ((c:Nat):Int) (n*n) (fun k=>tb n W (c*(n*n)+k)) (lo (fun k=>tb n W (c*(n*n)+k)) (n*n - 1)) (hi (fun k=>tb n W (c*(n*n)+k)) (n*n - 1))=true:=by
 have p:c*(n*n)+n*n<=6*(n*n):=by
  have e:c*(n*n)+n*n=(c+1)*(n*n):=(Nat.succ_mul c (n*n)).symm
  rw[e]
  exact Nat.mul_le_mul_right _ (by omega)
 have b: ∀k,k<n*n->tb n W (c*(n*n)+k)<2139095040:=fun k hk=>tb_lt (h0 _ (by omega)).2
 refine⟨b,nN.2 ⟨by omega,?_,b,rfl,rfl⟩⟩
 rw[sideN_sq hn.1 hn.2]
 omega
theorem tcv_0(n m:Nat)(W:Nat->Int)(gs:Nat->Nat)(c:Nat):tcv n m W gs (c*4)=.int .i64 ((c:Nat):Int):=by
 unfold tcv
 rw[if_pos (by omega),show c*4/4=c by omega]
theorem tcv_1(n m:Nat)(W:Nat->Int)(gs:Nat->Nat)(c:Nat):tcv n m W gs (c*4+1)=.int .u32 ((lo (fun k=>tb n W (c*m+k)) (m - 1):Nat):Int):=by
 unfold tcv
 rw[if_neg (by omega),if_pos (by omega),show(c*4+1)/4=c by omega]
theorem tcv_2(n m:Nat)(W:Nat->Int)(gs:Nat->Nat)(c:Nat):tcv n m W gs (c*4+2)=.int .u32 ((hi (fun k=>tb n W (c*m+k)) (m - 1):Nat):Int):=by
 unfold tcv
 rw[if_neg (by omega),if_neg (by omega),if_pos (by omega),show(c*4+2)/4=c by omega]
theorem tcv_3(n m:Nat)(W:Nat->Int)(gs:Nat->Nat)(c:Nat):tcv n m W gs (c*4+3)=.slice (some ⟨gs c,0,none⟩) m m:=by
 unfold tcv
 rw[if_neg (by omega),if_neg (by omega),if_neg (by omega),show(c*4+3)/4=c by omega]
theorem pN(side:Int)(pb:Option Addr)(lb cb:Nat)(B:Nat->Nat)(pw:Option Addr)(lw cw:Nat)(W:Nat->Int)(pt:Option Addr)(lt ct:Nat)(T:Nat->Int)(ps:Option Addr)(ls cs:Nat)(S:Nat->Nat)(sky st:Int)(w:World)(i1:IsFl w pb lb B)(i2:Sh.IsI w pw lw W)(i3:Sh.IsI w pt lt T)(i4:IsFl w ps ls S)(hc:(Ss.chk side lb lw lt ls B W T S sky st).2≠0):
  Calls prog 5 #[.int .i64 side,.agg #[.slice pb lb cb,.slice pw lw cw,.slice pt lt ct,.slice ps ls cs,.int .i64 sky,.int .i64 st]] w fun e w'=>e=.returned (.bool true)/\Below w.heap.size w w':=by
 have I1:=hid i1
 have I2:=hid i2
 have I3:=hid i3
 have I4:=hid i4
 have HC:=hid hc
 clear i1 i2 i3 i4 hc
 obtain⟨A0,R0⟩:=aE w (.cells #[.slice pb lb cb,.slice pw lw cw,.slice pt lt ct,.slice ps ls cs,.int .i64 sky,.int .i64 st] 40)
 go_enter func5,ntmps5
 go_upto_region 1 with fail
 generalize hW:World.alloc w _=V0 at*
 obtain⟨gw,hgw⟩:=aB w.heap.size
 rw[hgw]at R0 ⊢
 clear hgw hW
 go_wp2_with fail
 refine(hI V0).mono ?_
 rintro e9 v1 ⟨rfl,b1⟩
 have A1:Hid (Ab w v1):=A0.out.trans b1
 have R1:=hid (Ab.heap b1 R0.out)
 clear b1 A0 R0
 have y0:=aD R1.out
 have CT:=hid (pK side pb lb cb B pw lw cw W pt lt ct T ps ls cs S sky st v1 (I1.out.below A1.out) (I2.out.below A1.out) (I3.out.below A1.out) (I4.out.below A1.out) HC.out)
 have CC:=hid (fun v (a:Ab w v)=>Ss.eM side pb lb cb B pw lw cw W pt lt ct T ps ls cs S sky st v (I1.out.below a) (I2.out.below a) (I3.out.below a) (I4.out.below a))
 obtain⟨x1,hx1⟩:=aB ((Ss.chk side lb lw lt ls B W T S sky st).1)
 obtain⟨x2,hx2⟩:=aB ((Ss.chk side lb lw lt ls B W T S sky st).2)
 rw[hx2]at CT HC
 rw[hx1,hx2]at CC
 have n1:(x2 != x2)=false:=by simp
 have n2:(x2 != 0)=true:=by simpa using HC.out
 clear hx1 hx2
 go_wp2_with fail
 refine CT.out.mono ?_
 rintro e9 v2 ⟨rfl,b2⟩
 have A2:Hid (Ab w v2):=A1.out.trans b2
 have R2:=hid (Ab.heap b2 R1.out)
 clear b2 CT A1 R1 y0
 have y0:=aD R2.out
 go_wp2_with fail
 refine(CC.out v2 A2.out).mono ?_
 rintro e9 v3 ⟨rfl,b3⟩
 have A3:Hid (Ab w v3):=A2.out.trans b3
 have R3:=hid (Ab.heap b3 R2.out)
 clear b3 CC A2 R2 y0
 go_wp2
 go_ret
 exact⟨rfl,A3.out⟩
theorem pO(side:Int)(pb:Option Addr)(lb cb:Nat)(B:Nat->Nat)(pw:Option Addr)(lw cw:Nat)(W:Nat->Int)(pt:Option Addr)(lt ct:Nat)(T:Nat->Int)(ps:Option Addr)(ls cs:Nat)(S:Nat->Nat)(sky st:Int)(w:World)(i1:IsFl w pb lb B)(i2:Sh.IsI w pw lw W)(i3:Sh.IsI w pt lt T)(i4:IsFl w ps ls S)(hc:(Ss.chk side lb lw lt ls B W T S sky st).2=0):
  Calls prog 5 #[.int .i64 side,.agg #[.slice pb lb cb,.slice pw lw cw,.slice pt lt ct,.slice ps ls cs,.int .i64 sky,.int .i64 st]] w fun e w'=>e=.returned (.bool true)/\Below w.heap.size w w':=by
 have I1:=hid i1
 have I2:=hid i2
 have I3:=hid i3
 have I4:=hid i4
 have HC:=hid hc
 clear i1 i2 i3 i4 hc
 obtain⟨A0,R0⟩:=aE w (.cells #[.slice pb lb cb,.slice pw lw cw,.slice pt lt ct,.slice ps ls cs,.int .i64 sky,.int .i64 st] 40)
 go_enter func5,ntmps5
 go_upto_region 1 with fail
 generalize hW:World.alloc w _=V0 at*
 obtain⟨gw,hgw⟩:=aB w.heap.size
 rw[hgw]at R0 ⊢
 clear hgw hW
 go_wp2_with fail
 refine(hI V0).mono ?_
 rintro e9 v1 ⟨rfl,b1⟩
 have A1:Hid (Ab w v1):=A0.out.trans b1
 have R1:=hid (Ab.heap b1 R0.out)
 clear b1 A0 R0
 have y0:=aD R1.out
 obtain⟨n,en,hn,hl,h0⟩:=nX HC.out
 subst en
 have CT:=hid (kY (n:Nat) pb lb cb B pw lw cw W pt lt ct T ps ls cs S sky st v1 (I1.out.below A1.out) (I2.out.below A1.out) (I3.out.below A1.out) (I4.out.below A1.out) HC.out)
 have CC:=hid (fun v (a:Ab w v)=>Ss.eM (n:Nat) pb lb cb B pw lw cw W pt lt ct T ps ls cs S sky st v (I1.out.below a) (I2.out.below a) (I3.out.below a) (I4.out.below a))
 rw[HC.out]at CC
 rw[Int.toNat_natCast]at CT
 obtain⟨x1,hx1⟩:=aB ((Ss.chk (n:Nat) lb lw lt ls B W T S sky st).1)
 rw[hx1]at CC
 have m1:=bZ hn.1 hn.2
 have TC:=hid (fun c (hc:c<6)=>tile_can (n:=n) (c:=c) (W:=W) hn hc h0)
 have CA:=hid (fun c (hc:c<6*n*n) v=>nJ n c v hn hc)
 obtain⟨m,hm⟩:=aB (n*n)
 rw[hm]at CT m1 hl h0 TC
 have q1:(n:Int)*(n:Int)=(m:Int):=by rw[<- hm];exact(Int.natCast_mul _ _).symm
 have q3:(m:Int)<=1024:=by omega
 have q3b:(0:Int)<=(m:Int):=by omega
 have q6:(lw:Int)<=6144:=by omega
 have HB:=hid (show 1<=m/\m<=1024/\lw=6*m/\lw=6*n*n/\n*n=m/\1<=n/\n<=32 from⟨m1.2,m1.1,hl,by rw[hl,<- hm,Nat.mul_assoc],hm,hn.1,hn.2⟩)
 clear hx1 m1 hl h0 hm hn
 go_wp2_with fail
 refine CT.out.mono ?_
 rintro e9 v2 ⟨gl,gs,rfl,t1,t2,t3,t4,t5⟩
 have A2:Hid (Ab w v2):=A1.out.trans t1
 have R2:=hid (Ab.heap t1 R1.out)
 have LT:=hid t3
 have GT:=hid (fun j hj=>(t4 j hj).2)
 clear t1 t2 t3 t4 t5 CT A1 R1 y0
 have y0:=aD R2.out
 go_wp2_with fail
 refine(CC.out v2 A2.out).mono ?_
 rintro e9 v3 ⟨rfl,b3⟩
 have A3:Hid (Ab w v3):=A2.out.trans b3
 have R3:=hid (Ab.heap b3 R2.out)
 have LT3:=hid (Sh.aQ LT.out b3)
 have GT3:=hid (fun j hj=>Sh.aQ (GT.out j hj) b3)
 clear b3 CC A2 R2 LT GT y0
 obtain⟨pwb,pwo,hpw⟩:=I2.out.some0 (show 0<lw by have:=HB.out;omega)
 subst hpw
 have X3:Hid (Ab v3 v3):=Ab.refl _
 go_wp2
 go_loopw [9] (fun iv wr=> ∃c:Nat,c<=6/\iv=.int .i64 (c:Nat)/\Ab v3 wr) (fun iv _=>6 - (intOf iv).toNat)
 case atStart=>exact⟨0,by omega,rfl,X3.out⟩
 case round=>
  obtain⟨c,hc,rfl,a1⟩:=hrel
  have AW:=hid a1
  clear a1 X3
  by_cases hc6:c<6
  ·have HC6:=hid hc6
   have cI:(c:Int)<6:=by omega
   have cI0:(0:Int)<=(c:Int):=by omega
   have LW:=hid (Sh.aQ LT3.out AW.out)
   have z0:=LW.out.cell (i:=c*4) (by omega)
   have z1:=LW.out.cell (i:=c*4+1) (by omega)
   have z2:=LW.out.cell (i:=c*4+2) (by omega)
   have z3:=LW.out.cell (i:=c*4+3) (by omega)
   rw[tcv_0]at z0
   rw[tcv_1]at z1
   rw[tcv_2]at z2
   rw[tcv_3]at z3
   obtain⟨F,hF⟩: ∃F:Nat->Nat,(fun k=>tb n W (c*m+k))=F:=⟨_,rfl⟩
   obtain⟨l,hll⟩:=aB (lo (fun k=>tb n W (c*m+k)) (m - 1))
   obtain⟨h,hhh⟩:=aB (hi (fun k=>tb n W (c*m+k)) (m - 1))
   have TCc:=TC.out c hc6
   have GR:=hid (Sh.aQ (GT3.out c hc6) AW.out)
   rw[hll,hhh]at TCc
   rw[hll]at z1
   rw[hhh]at z2
   rw[hF]at hll hhh TCc
   have HF:=hid hF
   have HL:=hid (show lo F (m - 1)=l/\hi F (m - 1)=h from⟨hll,hhh⟩)
   have TCH:Hid ((∀k,k<m->F k<2139095040)/\okT ((c:Nat):Int) m F l h=true):=⟨fun k hk=>by rw[<- hF];exact TCc.1 k hk,TCc.2⟩
   clear hF hll hhh TCc hc hc6
   obtain⟨XA,TA⟩:=aE wr (.cells #[.int .i64 ((c:Nat):Int),.int .u32 ((l:Nat):Int),.int .u32 ((h:Nat):Int),.slice (some ⟨gs c,0,none⟩) m m] 25)
   go_upto_region 13 with fail
   generalize hV:World.alloc wr _=v4 at*
   obtain⟨gt,hgt⟩:=aB wr.heap.size
   rw[hgt]at TA ⊢
   clear hV hgt
   have A4:Hid (Ab v3 v4):=AW.out.trans XA.out
   have G4:=hid (Sh.aQ GR.out XA.out)
   have R4:=hid (A4.out.heap R3.out)
   have W4:=hid (I2.out.below (A3.out.trans A4.out))
   clear XA GR AW LW z0 z1 z2 z3
   have t0:=aA 0 TA.out
   have t1:=aA 1 TA.out
   have t2:=aA 2 TA.out
   have t3:=aA 3 TA.out
   have X4:Hid (Ab v4 v4):=Ab.refl _
   go_wp2
   go_loopw [11,12,13] (fun av bv iv wr=> ∃k:Nat,k<=m/\iv=.int .i64 (k:Nat)/\av=.bool (anyB F l k)/\bv=.bool (anyB F h k)/\Ab v4 wr) (fun _ _ iv _=>m - (intOf iv).toNat)
   case atStart=>exact⟨0,by omega,rfl,rfl,rfl,X4.out⟩
   case round=>
    obtain⟨k,hk,rfl,rfl,rfl,a5⟩:=hrel
    have A5:=hid a5
    clear a5 X4 t0 t1 t2 t3
    have TB:=hid (A5.out.heap TA.out)
    by_cases hkm:k<m
    ·have HK:=hid hkm
     have kI:(k:Int)<m:=by omega
     have kI0:(0:Int)<=(k:Int):=by omega
     have kB:(k:Int)<=1024:=by omega
     obtain⟨cn,hcn⟩:=aB (c*n)
     obtain⟨fm,hfm⟩:=aB (c*m)
     have q7:(c:Int)*(n:Int)=(cn:Int):=by rw[<- hcn];exact(Int.natCast_mul _ _).symm
     have q8:(cn:Int)*(n:Int)=(fm:Int):=by
      rw[<- hfm,<- HB.out.2.2.2.2.1,<- Nat.mul_assoc,<- hcn]
      exact(Int.natCast_mul _ _).symm
     have fml:fm+m<=lw:=by
      have p:c*m<=5*m:=Nat.mul_le_mul_right _ (by have:=HC6.out;omega)
      have:=HB.out.2.2.1
      omega
     have cnl:cn<=192:=by
      rw[<- hcn]
      exact Nat.le_trans (Nat.mul_le_mul (show c<=6 by have:=HC6.out;omega) HB.out.2.2.2.2.2.2) (by decide)
     have q9:(0:Int)<=(fm:Int):=by omega
     have q10:(fm:Int)<=6144:=by omega
     have q11:(0:Int)<=(cn:Int):=by omega
     have q12:(cn:Int)<=192:=by omega
     have hk1:(fm:Int)+(k:Int)<(lw:Int):=by omega
     have hk2:(0:Int)<=(fm:Int)+(k:Int):=by omega
     have hk3:(fm:Int)+(k:Int)<=(lw:Int):=by omega
     have tn:((fm:Int)+(k:Int)).toNat=fm+k:=by omega
     have wx:=(W4.out.below A5.out).at0 (k:=fm+k) (by omega)
     obtain⟨x,hx⟩:=aB (W (fm+k))
     have CAc:=hid (CA.out (fm+k) (by have:=HB.out;omega))
     obtain⟨a,ha⟩:=aB (arI (ArC n (fm+k)))
     rw[ha]at CAc
     rw[hx]at wx
     have a2:a<=9223372036854775807:=by rw[<- ha];exact(jJ _).2
     have CD:=hid (fun v=>kT x a v wx.1.2 a2)
     have dl:dpB x a<18446744073709551616:=by have:=dp_le wx.1.2 a2;omega
     obtain⟨d,hd⟩:=aB (dpB x a)
     rw[hd]at CD dl
     obtain⟨t,ht⟩:=aB (cE d)
     have CTo:=hid (fun v=>iE d t v dl ht)
     have TE:F k=t:=by rw[<- HF.out];show tb n W (c*m+k)=t;rw[hfm];show cE (dpB (W (fm+k)) (arI (ArC n (fm+k))))=_;rw[hx,ha,hd,ht]
     have G5:=Sh.aQ G4.out A5.out
     have gc:=G5.cell hkm
     have hg0:tb n W (c*m+k)=F k:=by rw[<- HF.out]
     rw[hg0,TE]at gc
     have o1:l<=t:=by rw[<- HL.out.1,<- TE];exact lo_le F (m - 1) k (by omega)
     have o2:t<=h:=by rw[<- HL.out.2,<- TE];exact le_hi F (m - 1) k (by omega)
     have c1:((t:Int) != (t:Int))=false:=by simp
     have c2:decide ((t:Int)<(l:Int))=false:=by simp;omega
     have c3:decide ((h:Int)<(t:Int))=false:=by simp;omega
     have c4:decide (t<l)=false:=decide_eq_false (by omega)
     have c5:decide (h<t)=false:=decide_eq_false (by omega)
     have R5:=hid (A5.out.heap R4.out)
     have HT:=hid TE
     have WC:Hid (wr.cell? ⟨pwb,pwo+(fm+k),none⟩=some (.int .i64 x)/\pwb<wr.heap.size):=⟨wx.2.2,wx.2.1⟩
     have GC:Hid (wr.cell? ⟨gs c,k,none⟩=some (.int .u32 ((t:Nat):Int))/\gs c<wr.heap.size):=⟨gc,G5.lt⟩
     clear hx ha hd ht wx a2 dl hkm hk hcn hfm fml cnl TE G5 gc hg0 o1 o2
     have X5:Ab wr wr:=Ab.refl wr
     have KS:Hid (∀v,Ab wr v->v.cell? ⟨gt,1,none⟩=some (.int .u32 ((l:Nat):Int))/\v.cell? ⟨gt,2,none⟩=some (.int .u32 ((h:Nat):Int))/\v.cell? ⟨gt,3,none⟩=some (.slice (some ⟨gs c,0,none⟩) m m)/\v.cell? ⟨gw,1,none⟩=some (.slice (some ⟨pwb,pwo,none⟩) lw cw)/\v.cell? ⟨gs c,k,none⟩=some (.int .u32 ((t:Nat):Int))/\v.cell? ⟨pwb,pwo+(fm+k),none⟩=some (.int .i64 x)):=fun v a=>by
      have t:=a.heap TB.out
      have r:=a.heap R5.out
      exact⟨aA 1 t,aA 2 t,aA 3 t,aA 1 r,(Below.cell a GC.out.2).trans GC.out.1,(Below.cell a WC.out.2).trans WC.out.1⟩
     have w1:=KS.out wr X5
     obtain⟨w1,w2,w3,w4,w5,w6⟩:=w1
     go_wp2_with fail
     clear w1 w2 w3 w4 w5 w6
     go_region_held3 (fun v=>v.cell? ⟨gt,1,none⟩=some (.int .u32 ((l:Nat):Int))/\v.cell? ⟨gt,2,none⟩=some (.int .u32 ((h:Nat):Int))/\v.cell? ⟨gt,3,none⟩=some (.slice (some ⟨gs c,0,none⟩) m m)/\v.cell? ⟨gw,1,none⟩=some (.slice (some ⟨pwb,pwo,none⟩) lw cw)/\v.cell? ⟨gs c,k,none⟩=some (.int .u32 ((t:Nat):Int))/\v.cell? ⟨pwb,pwo+(fm+k),none⟩=some (.int .i64 x)) ((refine KS.out _ ?_;(with_reducible (repeat(first | assumption | apply Ab.drew | apply Ab.drewN)));done)) (first
      | (go_at_call 16;refine(CAc.out _).mono ?_;rintro e9 z1 ⟨rfl,b1⟩;have az1:Ab wr z1:=Ab.trans (show Ab wr _ by with_reducible (repeat(first | assumption | apply Ab.drew | apply Ab.drewN))) b1)
      | (go_at_call 15;refine(CD.out _).mono ?_;rintro e9 z2 ⟨rfl,k2,hz2⟩;have az2:Ab wr z2:=(by rw[hz2];exact Ab.drewN (show Ab wr _ by with_reducible (repeat(first | assumption | apply Ab.drew))) _);clear hz2)
      | (go_at_call 14;refine(CTo.out _).mono ?_;rintro e9 z3 ⟨rfl,hz3⟩;have hz4:=hz3.symm;subst hz4))
     have AZ:=hid (A5.out.trans az2)
     have KZ:=hid (KS.out z2 az2)
     obtain⟨r1,hr1⟩:=aB (anyB F l k)
     obtain⟨r2,hr2⟩:=aB (anyB F h k)
     obtain⟨e1,he1⟩: ∃r:Bool,(t==l)=r:=⟨_,rfl⟩
     obtain⟨e2,he2⟩: ∃r:Bool,(t==h)=r:=⟨_,rfl⟩
     have he1i:((t:Int)==(l:Int))=e1:=by rw[<- he1,Bool.eq_iff_iff,beq_iff_eq,beq_iff_eq];omega
     have he2i:((t:Int)==(h:Int))=e2:=by rw[<- he2,Bool.eq_iff_iff,beq_iff_eq,beq_iff_eq];omega
     have N1:Hid (anyB F l (k+1)=(r1||e1)):=by show _=_;rw[anyB_s,hr1,HT.out,he1]
     have N2:Hid (anyB F h (k+1)=(r2||e2)):=by show _=_;rw[anyB_s,hr2,HT.out,he2]
     rw[hr1,hr2]
     clear hr1 hr2 KS az2 X5
     cases r1 with
     | false=>
      obtain⟨w1,w2,w3,w4,w5,w6⟩:=KZ.out
      go_wp2_with fail
      go_region
      clear w1 w2 w3 w4 w5 w6
      cases r2 with
      | false=>
       obtain⟨w1,w2,w3,w4,w5,w6⟩:=KZ.out
       go_wp2_with fail
       go_region
       go_wp2
       exact⟨⟨k+1,by have:=HK.out;omega,by simp,by rw[N1.out];first | rfl | simp,by rw[N2.out];first | rfl | simp,AZ.out.drew.drew⟩,by have:=HK.out;simp[intOf];omega⟩
      | true=>
       obtain⟨w1,w2,w3,w4,w5,w6⟩:=KZ.out
       go_wp2_with fail
       go_region
       go_wp2
       exact⟨⟨k+1,by have:=HK.out;omega,by simp,by rw[N1.out];first | rfl | simp,by rw[N2.out];first | rfl | simp,AZ.out.drew.drew⟩,by have:=HK.out;simp[intOf];omega⟩
     | true=>
      obtain⟨w1,w2,w3,w4,w5,w6⟩:=KZ.out
      go_wp2_with fail
      go_region
      clear w1 w2 w3 w4 w5 w6
      cases r2 with
      | false=>
       obtain⟨w1,w2,w3,w4,w5,w6⟩:=KZ.out
       go_wp2_with fail
       go_region
       go_wp2
       exact⟨⟨k+1,by have:=HK.out;omega,by simp,by rw[N1.out];first | rfl | simp,by rw[N2.out];first | rfl | simp,AZ.out.drew.drew⟩,by have:=HK.out;simp[intOf];omega⟩
      | true=>
       obtain⟨w1,w2,w3,w4,w5,w6⟩:=KZ.out
       go_wp2_with fail
       go_region
       go_wp2
       exact⟨⟨k+1,by have:=HK.out;omega,by simp,by rw[N1.out];first | rfl | simp,by rw[N2.out];first | rfl | simp,AZ.out.drew.drew⟩,by have:=HK.out;simp[intOf];omega⟩
    ·have e6:m=k:=by omega
     subst e6
     have bl:anyB F l m=true:=by
      obtain⟨j,j1,j2⟩:=lV F (m - 1)
      exact lA (k:=j) (by have:=HB.out;omega) (by rw[<- j2];exact HL.out.1)
     have bh:anyB F h m=true:=by
      obtain⟨j,j1,j2⟩:=lW F (m - 1)
      exact lA (k:=j) (by have:=HB.out;omega) (by rw[<- j2];exact HL.out.2)
     have lb:l<4294967296:=by
      rw[<- HL.out.1]
      exact Nat.lt_trans (gM (M:=2139095040) (fun k hk=>TCH.out.1 k (by have:=HB.out;omega))) (by decide)
     have hb:h<4294967296:=by
      rw[<- HL.out.2]
      exact Nat.lt_trans (gN (M:=2139095040) (fun k hk=>TCH.out.1 k (by have:=HB.out;omega))) (by decide)
     have CE:=hid (gX ((c:Nat):Int) l h (some ⟨gs c,0,none⟩) m m F wr lb hb (by have:=HB.out;omega) (eJ (Sh.aQ (G4.out.congr (g:=fun k=>.int .u32 ((F k:Nat):Int)) (fun k _=>by rw[<- HF.out])) A5.out) (fun k hk=>Nat.lt_trans (TCH.out.1 k hk) (by decide))) TCH.out.2)
     rw[bl,bh]
     clear bl bh lb hb hkm hk
     have t0:=aA 0 TB.out
     have t1:=aA 1 TB.out
     have t2:=aA 2 TB.out
     have t3:=aA 3 TB.out
     go_wp2_with fail
     refine CE.out.mono ?_
     rintro e9 v9 ⟨g9,rfl,b9,-,-⟩
     have A9:Hid (Ab v3 v9):=A4.out.trans (A5.out.trans b9)
     clear b9 CE t0 t1 t2 t3
     go_wp2
     exact⟨⟨c+1,by have:=HC6.out;omega,by simp,A9.out⟩,by have:=HC6.out;simp[intOf];omega⟩
  ·have e6:c=6:=by omega
   subst e6
   go_wp2
   go_ret
   exact⟨rfl,A3.out.trans AW.out⟩
theorem mO(side:Int)(pb:Option Addr)(lb cb:Nat)(B:Nat->Nat)(pw:Option Addr)(lw cw:Nat)(W:Nat->Int)(pt:Option Addr)(lt ct:Nat)(T:Nat->Int)(ps:Option Addr)(ls cs:Nat)(S:Nat->Nat)(sky st:Int)(w:World)(i1:IsFl w pb lb B)(i2:Sh.IsI w pw lw W)(i3:Sh.IsI w pt lt T)(i4:IsFl w ps ls S):
  Calls prog 5 #[.int .i64 side,.agg #[.slice pb lb cb,.slice pw lw cw,.slice pt lt ct,.slice ps ls cs,.int .i64 sky,.int .i64 st]] w fun e w'=>e=.returned (.bool true)/\Below w.heap.size w w':=by
 by_cases hc:(Ss.chk side lb lw lt ls B W T S sky st).2=0
 ·exact pO side pb lb cb B pw lw cw W pt lt ct T ps ls cs S sky st w i1 i2 i3 i4 hc
 ·exact pN side pb lb cb B pw lw cw W pt lt ct T ps ls cs S sky st w i1 i2 i3 i4 hc
end Ti
end
section
open Go.ChangeShapes Go.WideShapes Go.ChangeAt Go.WideMaps Go.WideElems Go.RowKit Go.Deep
namespace Sh
theorem trod_int{H:Type}{enc:TypeId × Value->H}{P:Program}{w:World}{base:Nat}{spare:Nat->Bool}{held:Bool}{t:TypeId}{fuel:Nat}{v:Value}{x:DataW H × List MemPlace}(ht:P.underlying t=some (.int .i64))(h:DataW.trod enc P w base spare held fuel t [v]=some x):
  ∃b,v=.int .i64 b/\(-9223372036854775808<=b/\b<=9223372036854775807):=by
 obtain⟨k,e,_,wf⟩:=DataW.trod_int ht h
 simp at e
 simp only[Lit.wf,Bool.and_eq_true,decide_eq_true_eq]at wf
 have q1:IntKind.i64.min= -9223372036854775808:=by decide
 have q2:IntKind.i64.max=9223372036854775807:=by decide
 rw[q1,q2]at wf
 exact⟨k,e,wf⟩
theorem mP{w:World}{a:Addr}{v:Value}(h:w.cell? a=some v):a.block<w.heap.size:=by
 by_cases c:a.block<w.heap.size
 ·exact c
 ·exfalso
  have:w.heap[a.block]? =none:=by simp;omega
  simp[World.cell?,this]at h
theorem jI{α:Type}{n:Nat}{R:Nat->α->Prop}(d:α)(h: ∀i,i<n-> ∃x,R i x): ∃f:Nat->α,∀i,i<n->R i (f i):=by
 have: ∀i,∃x,i<n->R i x:=fun i=>by
  by_cases c:i<n
  ·obtain⟨x,h1⟩:=h i c
   exact⟨x,fun _=>h1⟩
  ·exact⟨d,fun h=>absurd h c⟩
 exact⟨fun i=>(this i).choose,fun i hi=>(this i).choose_spec hi⟩
theorem iL{H:Type}{enc:TypeId × Value->H}{W:World}{cs:List Value}{fuel:Nat}{x:DataW H × List MemPlace}
  (hf:DataW.trod enc prog W 0 (fun _=>true) true fuel 38 cs=some x): ∃a0 len cap xs,cs=[.slice a0 len cap]/\IsI W a0 len xs/\len<=cap/\cap<=maxLen:=by
 rcases open_slice1 underlying38 (by kernel_rfl) hf with⟨hcs,_⟩ | ⟨a,l,c,m,n,V,D,Pl,hcs,_,hl,hm,hmm,_,hx⟩
 ·exact⟨none,0,0,fun _=>0,hcs,fun k hk=>by omega,Nat.le_refl _,Nat.zero_le _⟩
 ·simp only[if_true]at hmm
  have each: ∀i,i<l-> ∃x:Int,W.cell? (a.add i)=some (.int .i64 x)/\(-9223372036854775808<=x/\x<=9223372036854775807):=by
   intro i hi
   obtain⟨h1,h2⟩:=hx i (by omega)
   obtain⟨x,e,wx⟩:=trod_int underlying2 h2
   rw[e]at h1
   exact⟨x,h1,wx⟩
  obtain⟨f,hf⟩:=jI 0 each
  refine⟨some a,l,c,f,hcs,fun k hk=>⟨(hf k hk).2,?_⟩,hl,hm⟩
  have h0:=(hf k hk).1
  have z:=(hf 0 (by omega)).1
  obtain⟨b,off,spot⟩:=a
  have hspot:spot=none:=by simpa [Addr.add]using World.cell?_spot z
  subst hspot
  rw[nK]at h0
  exact⟨b,off,rfl,mP h0,h0⟩
end Sh
end
section
open Go.ChangeShapes Go.WideShapes Go.ChangeAt Go.WideMaps Go.WideElems Go.RowKit Go.Deep
namespace Ti
theorem pP{H:Type}{P:Program}{ts:List TypeId}{ds:List (DataW H)}(h:(DataW.weightsEach P ts ds).all (· <=reachBytes)=true){j:Nat}{t:TypeId}{fs:Array Field}{parts:List (DataW H)}(ht:ts[j]? =some t)(hd:ds[j]? =some (.agg parts))(hu:P.underlying t=some (.struct fs)):
  (DataW.weightsEach P (fs.toList.map (·.type)) parts).all (· <=reachBytes)=true:=by
 refine List.all_eq_true.2 (fun n hn=> ?_)
 exact List.all_eq_true.1 h _ (DataW.weights_mem_each ht hd n (by simpa [DataW.weights,hu]using hn))
end Ti
end
section
open Go.ChangeShapes Go.WideShapes Go.ChangeAt Go.WideMaps Go.WideElems Go.RowKit Go.Deep
theorem array6'{c:Array Value}(h:c.size=6): ∃v0 v1 v2 v3 v4 v5,c= #[v0,v1,v2,v3,v4,v5]:=by
 rcases c with⟨l⟩
 match l,h with
 | [v0,v1,v2,v3,v4,v5],_=>exact⟨v0,v1,v2,v3,v4,v5,rfl⟩
end
section
open Go.ChangeShapes Go.WideShapes Go.ChangeAt Go.WideMaps Go.WideElems Go.RowKit Go.Deep
namespace Ti
theorem lB:Try.prog.bytesOf 47=8:=by kernel_rfl
theorem lC:Try.prog.bytesOf 2=8:=by kernel_rfl
theorem cH{H:Type}{enc:TypeId × Value->H}{W:World}{T E:TypeId}{a0:Option Addr}{len0 cap0:Nat}{fuel:Nat}{x:DataW H × List MemPlace}(hu:Try.prog.underlying T=some (.slice E))(h1:Try.prog.cellsOf E=1)
  (hf:DataW.trod enc prog W 0 (fun _=>true) true fuel T [.slice a0 len0 cap0]=some x) (hs: ∀elems spare,x.1=.slice elems spare->(elems.length+spare.length)*8<=reachBytes):len0<=17592186044416:=by
 rcases Go.Deep.open_slice1 hu h1 hf with⟨hcs,_⟩ | ⟨a,l,c,m,n,V,D,Pl,hcs,_,hl,hm,hmm,hx,_⟩
 ·simp at hcs
  obtain⟨rfl,rfl,rfl⟩:=hcs
  exact Nat.zero_le _
 ·simp at hcs
  obtain⟨rfl,rfl,rfl⟩:=hcs
  simp only[if_true]at hmm
  subst hmm
  have:=hs _ _ (by rw[hx])
  simp only[List.length_map,List.length_range,reachBytes]at this
  omega
theorem mQ{H:Type}{enc:TypeId × Value->H}{W:World}{r:Reach}{b0:Nat}{v:Value}{d:DataW H}{p:List MemPlace}(hv:Value.okWide prog W r b0 40 v)(h:DataW.Trod enc prog W 0 (fun _=>true) true 40 v d p)
  (hz: ∀parts,d=.agg parts->(DataW.weightsEach prog [37,38,38,37,2,3] parts).all (· <=reachBytes)=true):
  ∃pb lb cb B pw lw cw Wt pt lt ct Tr ps ls cs Sp sky st,v=.agg #[.slice pb lb cb,.slice pw lw cw,.slice pt lt ct,.slice ps ls cs,.int .i64 sky,.int .i64 st]/\(IsFl W pb lb B/\Sh.IsI W pw lw Wt/\Sh.IsI W pt lt Tr/\IsFl W ps ls Sp)/\(lb<=17592186044416/\lw<=17592186044416/\lt<=17592186044416/\ls<=17592186044416)/\(-9223372036854775808<=sky/\sky<=9223372036854775807)/\(-9223372036854775808<=st/\st<=9223372036854775807):=by
 have hC:Try.prog.cellsOf 40=6:=by kernel_rfl
 have k0:Try.prog.cellsOf 37=1:=by kernel_rfl
 have k1:Try.prog.cellsOf 38=1:=by kernel_rfl
 have k2:Try.prog.cellsOf 2=1:=by kernel_rfl
 have k3:Try.prog.cellsOf 3=1:=by kernel_rfl
 obtain⟨cs,rfl,hsz⟩:=okWide_struct underlying40 hv
 obtain⟨v0,v1,v2,v3,v4,v5,rfl⟩:=array6' (hsz.trans hC)
 obtain⟨fuel,hf⟩:=h
 have hf':DataW.trod enc prog W 0 (fun _=>true) true fuel 40 [v0,v1,v2,v3,v4,v5]=some (d,p):=by simpa [Value.cells]using hf
 obtain⟨xs,m,_,hx,hlen,hn,hel⟩:=DataW.trod_struct underlying40 hf'
 match xs,hn with
 | [x0,x1,x2,x3,x4,x5],_=>
  have h0:=hel 0 _ rfl
  have h1:=hel 1 _ rfl
  have h2:=hel 2 _ rfl
  have h3:=hel 3 _ rfl
  have h4:=hel 4 _ rfl
  have h5:=hel 5 _ rfl
  simp[k0,k1,k2,k3]at h0 h1 h2 h3 h4 h5
  have hzz:=hz _ (congrArg Prod.fst hx)
  obtain⟨pb,lb,cb,B,e0,i0,-,-⟩:=iH h0
  obtain⟨pw,lw,cw,Wt,e1,i1,-,-⟩:=Sh.iL h1
  obtain⟨pt,lt,ct,Tr,e2,i2,-,-⟩:=Sh.iL h2
  obtain⟨ps,ls,cs,Sp,e3,i3,-,-⟩:=iH h3
  obtain⟨sky,e4,g4⟩:=Sh.trod_int underlying2 h4
  obtain⟨st,e5,g5⟩:=Sh.trod_int underlying3 h5
  simp at e0 e1 e2 e3
  subst e0 e1 e2 e3 e4 e5
  exact⟨pb,lb,cb,B,pw,lw,cw,Wt,pt,lt,ct,Tr,ps,ls,cs,Sp,sky,st,rfl,⟨i0,i1,i2,i3⟩,⟨cH underlying37 (by kernel_rfl) h0 (fun elems spare e=>by have q:=sized_slice hzz (j:=0) (t:=37) (e:=47) (elems:=elems) (spare:=spare) rfl (by rw[<- e];rfl) underlying37;rw[lB]at q;exact q),cH underlying38 (by kernel_rfl) h1 (fun elems spare e=>by have q:=sized_slice hzz (j:=1) (t:=38) (e:=2) (elems:=elems) (spare:=spare) rfl (by rw[<- e];rfl) underlying38;rw[lC]at q;exact q),cH underlying38 (by kernel_rfl) h2 (fun elems spare e=>by have q:=sized_slice hzz (j:=2) (t:=38) (e:=2) (elems:=elems) (spare:=spare) rfl (by rw[<- e];rfl) underlying38;rw[lC]at q;exact q),cH underlying37 (by kernel_rfl) h3 (fun elems spare e=>by have q:=sized_slice hzz (j:=3) (t:=37) (e:=47) (elems:=elems) (spare:=spare) rfl (by rw[<- e];rfl) underlying37;rw[lB]at q;exact q)⟩,g4,g5⟩
end Ti
end
end Go.Proofs.Ytdeammhdedcjlaa
