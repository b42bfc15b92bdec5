/-
  Some of the texts of this proof, one behind the other.
-/
import Derived.Deep.QuietTactic
import Derived.Test.YtjheiemgfibgpaaDoorUc10
set_option maxRecDepth 100000
set_option maxHeartbeats 400000000
namespace Go.Proofs.YtjheiemgfibgpaaDoor
open _root_.Go.Proofs.Tryd
section
open Go.RowKit Tf Cu Go.Deep
attribute [local go_sem] aL aM aN aO aP aQ aV aE
namespace Spl
def Tm(gt tb tw tt ts N M:Nat)(B:Nat->Nat)(Wt T:Nat->Int)(S:Nat->Nat)(sky st:Int)(x y:Nat)(v:World):Prop:=
 v.heap[gt]? =some (.cells #[.slice (some ⟨tb,0,none⟩) N N,.slice (some ⟨tw,0,none⟩) N N,.slice (some ⟨tt,0,none⟩) N N,.slice (some ⟨ts,0,none⟩) M M,.int .i64 sky,.int .i64 st] 41)/\
  v.rowIs tb 45 N (fun j=>.float .f64 (if j<x then B j else 0))/\v.rowIs tw 2 N (fun j=>.int .i64 (if j<x then Wt j else 0))/\v.rowIs tt 2 N (fun j=>.int .i64 (if j<x then T j else 0))/\v.rowIs ts 45 M (fun j=>.float .f64 (if j<y then S j else 0))
theorem Tm.eq{gt tb tw tt ts N M:Nat}{B:Nat->Nat}{Wt T:Nat->Int}{S:Nat->Nat}{sky st:Int}{x y:Nat}{v v':World}(h:Tm gt tb tw tt ts N M B Wt T S sky st x y v)(e: ∀b,b=gt\/b=tb\/b=tw\/b=tt\/b=ts->v'.heap[b]? =v.heap[b]?):Tm gt tb tw tt ts N M B Wt T S sky st x y v':=by
 obtain⟨h0,h1,h2,h3,h4⟩:=h
 exact⟨(e _ (.inl rfl)).trans h0,h1.of_block (e _ (.inr (.inl rfl))),h2.of_block (e _ (.inr (.inr (.inl rfl)))),h3.of_block (e _ (.inr (.inr (.inr (.inl rfl))))),h4.of_block (e _ (.inr (.inr (.inr (.inr rfl)))))⟩
theorem Tm.to{gt tb tw tt ts N M:Nat}{B:Nat->Nat}{Wt T:Nat->Int}{S:Nat->Nat}{sky st:Int}{x y:Nat}{v v':World}(h:Tm gt tb tw tt ts N M B Wt T S sky st x y v)(a:Ab v v'):Tm gt tb tw tt ts N M B Wt T S sky st x y v':=by
 refine h.eq (fun b hb=> ?_)
 obtain⟨h0,h1,h2,h3,h4⟩:=h
 rcases hb with rfl | rfl | rfl | rfl | rfl
 ·exact a.block _ (lt_of_block h0)
 ·exact a.block _ h1.lt
 ·exact a.block _ h2.lt
 ·exact a.block _ h3.lt
 ·exact a.block _ h4.lt
theorem lS{α:Type}{mk:α->Value}{v:World}{b n x:Nat}{t:TypeId}{f:Nat->α}{d:α}(h:v.rowIs b t n (fun j=>mk (if j<x then f j else d))):(v.setCell ⟨b,x,none⟩ (mk (f x))).rowIs b t n (fun j=>mk (if j<x+1 then f j else d)):=by
 refine(h.set x (mk (f x))).congr (fun j _=> ?_)
 by_cases q:j=x
 ·subst q;simp
 ·by_cases q2:j<x
  ·simp[q,q2,show j<x+1 by omega]
  ·simp[q,q2,show¬j<x+1 by omega]
theorem bN{v:World}{b g k n:Nat}{t:TypeId}{f:Nat->Value}{x:Value}(h:v.rowIs b t n f)(hb:b≠g):(v.setCell ⟨g,k,none⟩ x).rowIs b t n f:=h.of_block (aF hb)
theorem fC{w:World}{b g j k:Nat}{x:Value}(h:b≠g):(w.setCell ⟨g,k,none⟩ x).cell? ⟨b,j,none⟩=w.cell? ⟨b,j,none⟩:=World.cell?_of_block (aF h)
theorem AbQ.cell{V w:World}{P:Nat->Prop}{b k:Nat}(a:AbQ V P w)(hb:b<V.heap.size)(hp: ¬P b):w.cell? ⟨b,k,none⟩=V.cell? ⟨b,k,none⟩:=World.cell?_of_block (a.2.2.2.2 b hb hp)
theorem AbQ.cat{V v w:World}{P Q:Nat->Prop}(a:AbQ V P v)(b:AbQ v Q w):AbQ V (fun k=>P k\/Q k) w:=by
 obtain⟨h1,h2,h3,h4,h5⟩:=a
 obtain⟨q1,q2,q3,q4,q5⟩:=b
 exact⟨q1.trans h1,q2.trans h2,q3.trans h3,by omega,fun k hk hn=>(q5 k (by omega) (fun q=>hn (.inr q))).trans (h5 k hk (fun q=>hn (.inl q)))⟩
theorem AbQ.ofAb{V v w:World}{P:Nat->Prop}(a:Ab V v)(b:AbQ v P w):AbQ V P w:=by
 obtain⟨q1,q2,q3,q4,q5⟩:=b
 have s:=Ab.size a
 exact⟨q1.trans a.os,q2.trans a.tape,q3.trans a.output,by omega,fun k hk hn=>(q5 k (by omega) hn).trans (a.block k hk)⟩
theorem shown_go(side:Int)(n N M P:Nat)(pb:Option Addr)(cb:Nat)(pw:Option Addr)(cw:Nat)(pt:Option Addr)(ct:Nat)(ps:Option Addr)(cs:Nat)(sky st:Int)(B:Nat->Nat)(Wt T:Nat->Int)(S:Nat->Nat)(a z:Nat->Nat)(A:Nat->Nat->Nat)(Wk Tk:Nat->Nat->Int)(Sk:Nat->Nat->Nat)(w:World)(hN:0<N/\N<=6144)(hM:0<M/\M<=12288)(hP:P<=64)(a0:a 0=0/\z 0=0/\a P=N/\z P=M)
  (LV:Hid (∀v,Ab w v->Calls prog 6 #[] v fun e w'=>e=.returned (.bool true)/\Below v.heap.size v w'))
  (NW:Hid (∀v,Ab w v->Calls prog 7 #[.int .i64 side] v fun e w'=> ∃gb,e=.returned (.tuple #[.pointer (some ⟨gb,0,none⟩),.int .i64 0])/\Ab v w'/\v.heap.size<=gb/\GridOf n gb w'))
  (LG:Hid (∀v,Calls prog 12 #[.agg #[.slice pb N cb,.slice pw N cw,.slice pt N ct,.slice ps M cs,.int .i64 sky,.int .i64 st]] v fun e w'=>e=.returned (.bool false)/\Below v.heap.size v w'))
  (SP:Hid (∀v gb,GridOf n gb v->Calls prog 8 #[.pointer (some ⟨gb,0,none⟩),.int .i64 (P:Nat)] v fun e w'=> ∃gl p c,e=.returned (.tuple #[.slice (some ⟨gl,0,none⟩) P P,.int .i64 0])/\Below v.heap.size v w'/\PsAt n P gl p c w'))
  (LK:Hid (∀v gb gl p c k,k<P->Ab w v->GridOf n gb v->PsAt n P gl p c v->Calls prog 13 #[.pointer (some ⟨gb,0,none⟩),.agg #[.slice (p (k*3)) (lsP n P (k*3)).length (c (k*3)),.slice (p (k*3+1)) (lsP n P (k*3+1)).length (c (k*3+1)),.slice (p (k*3+2)) (lsP n P (k*3+2)).length (c (k*3+2))],.agg #[.slice pb N cb,.slice pw N cw,.slice pt N ct,.slice ps M cs,.int .i64 sky,.int .i64 st]] v fun e w'=> ∃s,e=.returned (.tuple #[s,.int .i64 0])/\Below v.heap.size v w'/\OwnS v.heap.size s N N N M (A k) (Wk k) (Tk k) (Sk k) 0 st w'))
  (BN:Hid (∀k,Bnd N N N M (A k) (Wk k) (Tk k) (Sk k)))
  (LB:Hid (∀i,(lsP n P i).length<=12288))
  (CE:Hid (∀k i,k<P->i<(lsP n P (k*3)).length->rd (lsP n P (k*3)) i=((a k+i:Nat):Int)/\a k+i<N/\A k (a k+i)=B (a k+i)/\Wk k (a k+i)=Wt (a k+i)/\Tk k (a k+i)=T (a k+i)))
  (CL:Hid (∀k,k<P->a k+(lsP n P (k*3)).length=a (k+1)))
  (EE:Hid (∀k i,k<P->i<(lsP n P (k*3+1)).length->rd (lsP n P (k*3+1)) i=((z k+i:Nat):Int)/\z k+i<M/\Sk k (z k+i)=S (z k+i)))
  (EL:Hid (∀k,k<P->z k+(lsP n P (k*3+1)).length=z (k+1)))
  (EZ:Hid (∀k e,k<P->e<M-> ¬(z k<=e/\e<z (k+1))->Sk k e=0))
  (IB:Hid (IsFl w pb N B)) (IW:Hid (Sh.IsI w pw N Wt)) (IT:Hid (Sh.IsI w pt N T)) (IS:Hid (IsFl w ps M S)):
  Calls prog 4 #[.int .i64 side,.int .i64 (P:Nat),.agg #[.slice pb N cb,.slice pw N cw,.slice pt N ct,.slice ps M cs,.int .i64 sky,.int .i64 st]] w fun e w'=>e=.returned (.bool true)/\Below w.heap.size w w':=by
 have M1: ∀v:World,(Instr.makeSlice 38 (.int .i64 (N:Nat)) (.int .i64 (N:Nat))).run prog v=.ok (.slice (some ⟨v.heap.size,0,none⟩) N N) (v.alloc (Obj.cells (madeCells #[.float .f64 0] N) 45)):=fun v=>run_make_row' (P:=prog) 38 45 (.float .f64 0) 8 underlying38 fZ rfl .i64 .i64 N (by omega) (by omega) v
 have M2: ∀v:World,(Instr.makeSlice 39 (.int .i64 (N:Nat)) (.int .i64 (N:Nat))).run prog v=.ok (.slice (some ⟨v.heap.size,0,none⟩) N N) (v.alloc (Obj.cells (madeCells #[.int .i64 0] N) 2)):=fun v=>run_make_row' (P:=prog) 39 2 (.int .i64 0) 8 underlying39 gO rfl .i64 .i64 N (by omega) (by omega) v
 have M3: ∀v:World,(Instr.makeSlice 39 (.int .i64 (N:Nat)) (.int .i64 (N:Nat))).run prog v=.ok (.slice (some ⟨v.heap.size,0,none⟩) N N) (v.alloc (Obj.cells (madeCells #[.int .i64 0] N) 2)):=fun v=>run_make_row' (P:=prog) 39 2 (.int .i64 0) 8 underlying39 gO rfl .i64 .i64 N (by omega) (by omega) v
 have M4: ∀v:World,(Instr.makeSlice 38 (.int .i64 (M:Nat)) (.int .i64 (M:Nat))).run prog v=.ok (.slice (some ⟨v.heap.size,0,none⟩) M M) (v.alloc (Obj.cells (madeCells #[.float .f64 0] M) 45)):=fun v=>run_make_row' (P:=prog) 38 45 (.float .f64 0) 8 underlying38 fZ rfl .i64 .i64 M (by omega) (by omega) v
 have AL: ∀v:World,(Instr.alloc 41 true (.tuple #[])).run prog v=.ok (.pointer (some ⟨v.heap.size,0,none⟩)) (v.alloc (.cells #[.slice none 0 0,.slice none 0 0,.slice none 0 0,.slice none 0 0,.int .i64 0,.int .i64 0] 41)):=fun v=>by
  simp[go_sem]
 have HNM:Hid (0<N/\0<M):=⟨hN.1,hM.1⟩
 have HN:=hid (And.intro hN hM)
 have nB:(N:Int)<=6144:=by omega
 have mB:(M:Int)<=12288:=by omega
 have pB:(P:Int)<=64:=by omega
 have Z0:=hid a0
 clear hN hM hP a0
 obtain⟨A0,S0⟩:=cZ w (.cells #[.slice pb N cb,.slice pw N cw,.slice pt N ct,.slice ps M cs,.int .i64 sky,.int .i64 st] 41)
 go_enter func4,ntmps4
 go_upto_region 1 with fail
 obtain⟨gs,hgs⟩:=aB w.heap.size
 generalize hW:World.alloc w _=W at*
 rw[hgs]at S0 ⊢
 clear hgs hW
 go_wp2_with fail
 refine(LV.out _ A0.out).mono ?_
 rintro e9 v1 ⟨rfl,k1⟩
 have A1:Hid (Ab w v1):=A0.out.call k1
 have S1:=hid (Ab.heap k1 S0.out)
 clear k1 A0 S0 LV
 go_wp2_with fail
 refine(NW.out v1 A1.out).mono ?_
 rintro e9 v2 ⟨gb,rfl,k2,-,g2⟩
 have A2:Hid (Ab w v2):=A1.out.trans k2
 have S2:=hid (Ab.heap k2 S1.out)
 have G2:=hid g2
 clear k2 g2 NW A1 S1
 obtain⟨s0,s1,s2,s3,s4,s5⟩:=aI (S2.out)
 go_wp2_with fail
 refine(LG.out v2).mono ?_
 rintro e9 v3 ⟨rfl,k3⟩
 have A3:Hid (Ab w v3):=A2.out.trans k3
 have S3:=hid (Ab.heap k3 S2.out)
 have G3:=hid (G2.out.to k3)
 clear k3 A2 S2 G2 LG s0 s1 s2 s3 s4 s5
 go_wp2_with fail
 refine(SP.out v3 gb G3.out).mono ?_
 rintro e9 v4 ⟨gl,qp,qc,rfl,k4,ps4⟩
 have A4:Hid (Ab w v4):=A3.out.trans k4
 have S4:=hid (Ab.heap k4 S3.out)
 have G4:=hid (G3.out.to k4)
 have Q4:=hid ps4
 clear k4 ps4 A3 S3 G3 SP
 go_upto_region 9 with fail
 go_cut [10]from 42 to 62 (fun s10 wx=> ∃g5 b1 b2 b3 b4,s10=.pointer (some ⟨g5,0,none⟩)/\Ab v4 wx/\wx.heap[g5]? =some (.cells #[.slice (some ⟨b1,0,none⟩) N N,.slice (some ⟨b2,0,none⟩) N N,.slice (some ⟨b3,0,none⟩) N N,.slice (some ⟨b4,0,none⟩) M M,.int .i64 sky,.int .i64 st] 41)/\wx.heap[b1]? =some (Obj.cells (madeCells #[.float .f64 0] N) 45)/\wx.heap[b2]? =some (Obj.cells (madeCells #[.int .i64 0] N) 2)/\wx.heap[b3]? =some (Obj.cells (madeCells #[.int .i64 0] N) 2)/\wx.heap[b4]? =some (Obj.cells (madeCells #[.float .f64 0] M) 45)/\(v4.heap.size<=b1/\v4.heap.size<=b2/\v4.heap.size<=b3/\v4.heap.size<=b4/\v4.heap.size<=g5)/\(b1≠b2/\b1≠b3/\b1≠b4/\b2≠b3/\b2≠b4/\b3≠b4)/\(b1≠g5/\b2≠g5/\b3≠g5/\b4≠g5))
 case first=>
  obtain⟨UU,E,hF1,hF2⟩:=cls v4.drew
  have HU:=hid hF2
  have HU1:=hid hF1
  have e0: ∀u,(E u).cell? ⟨gs,0,none⟩=some (.slice pb N cb):=fun u=>aA 0 ((hF1 u).heap S4.out)
  have e1: ∀u,(E u).cell? ⟨gs,1,none⟩=some (.slice pw N cw):=fun u=>aA 1 ((hF1 u).heap S4.out)
  have e2: ∀u,(E u).cell? ⟨gs,2,none⟩=some (.slice pt N ct):=fun u=>aA 2 ((hF1 u).heap S4.out)
  have e3: ∀u,(E u).cell? ⟨gs,3,none⟩=some (.slice ps M cs):=fun u=>aA 3 ((hF1 u).heap S4.out)
  have e4: ∀u,(E u).cell? ⟨gs,4,none⟩=some (.int .i64 sky):=fun u=>aA 4 ((hF1 u).heap S4.out)
  have e5: ∀u,(E u).cell? ⟨gs,5,none⟩=some (.int .i64 st):=fun u=>aA 5 ((hF1 u).heap S4.out)
  clear hF1 hF2
  refine Cf.bT 22 (fun k=>if k=3 then some ((Obj.cells (madeCells #[.float .f64 0] N) 45),fun b=>.slice (some ⟨b,0,none⟩) N N)else if k=7 then some ((Obj.cells (madeCells #[.int .i64 0] N) 2),fun b=>.slice (some ⟨b,0,none⟩) N N)else if k=11 then some ((Obj.cells (madeCells #[.int .i64 0] N) 2),fun b=>.slice (some ⟨b,0,none⟩) N N)else if k=15 then some ((Obj.cells (madeCells #[.float .f64 0] M) 45),fun b=>.slice (some ⟨b,0,none⟩) M M)else if k=21 then some ((.cells #[.slice none 0 0,.slice none 0 0,.slice none 0 0,.slice none 0 0,.int .i64 0,.int .i64 0] 41),fun b=>.pointer (some ⟨b,0,none⟩))else none) (by kernel_rfl) (by kernel_rfl) (by kernel_rfl) ?_
  simp only[List.take_succ_cons,List.take_zero]
  refine Cf.aD HU (by rfl) (by rfl) ?_
  go_big_quiet_step (with_reducible rfl)
  refine wpQuiet_nil ?_
  refine Cf.aD HU (by rfl) (by rfl) ?_
  go_big_quiet_step (with_reducible rfl)
  refine wpQuiet_nil ?_
  refine cG (.int .i64 (N:Nat)) (by rfl) (by kernel_rfl) (fun v=>dD (x:=.tmp 43) rfl underlying38 rfl v) ?_
  simp only[Act.put,List.setIfInBounds_toArray,List.set_cons_succ,List.set_cons_zero]
  refine Cf.aH (ob:=(Obj.cells (madeCells #[.float .f64 0] N) 45)) (mk:=fun b=>.slice (some ⟨b,0,none⟩) N N) (by rfl) (by kernel_rfl) ?_ ?_
  ·refine Cf.bE (bH (vx:=.int .i64 (N:Nat)) (vy:=.int .i64 (N:Nat)) (ob:=(Obj.cells (madeCells #[.float .f64 0] N) 45)) (mk:=fun b=>.slice (some ⟨b,0,none⟩) N N) rfl ?_ ?_ ?_)
   ·rfl
   ·rfl
   ·exact M1
  intro b1 fb1
  simp only[Act.put,List.setIfInBounds_toArray,List.set_cons_succ,List.set_cons_zero]
  refine Cf.aD HU (by rfl) (by rfl) ?_
  go_big_quiet_step (with_reducible rfl)
  refine wpQuiet_nil ?_
  refine Cf.aD HU (by rfl) (by rfl) ?_
  go_big_quiet_step (with_reducible rfl)
  refine wpQuiet_nil ?_
  refine cG (.int .i64 (N:Nat)) (by rfl) (by kernel_rfl) (fun v=>dD (x:=.tmp 47) rfl underlying39 rfl v) ?_
  simp only[Act.put,List.setIfInBounds_toArray,List.set_cons_succ,List.set_cons_zero]
  refine Cf.aH (ob:=(Obj.cells (madeCells #[.int .i64 0] N) 2)) (mk:=fun b=>.slice (some ⟨b,0,none⟩) N N) (by rfl) (by kernel_rfl) ?_ ?_
  ·refine Cf.bE (bH (vx:=.int .i64 (N:Nat)) (vy:=.int .i64 (N:Nat)) (ob:=(Obj.cells (madeCells #[.int .i64 0] N) 2)) (mk:=fun b=>.slice (some ⟨b,0,none⟩) N N) rfl ?_ ?_ ?_)
   ·rfl
   ·rfl
   ·exact M2
  intro b2 fb2
  simp only[Act.put,List.setIfInBounds_toArray,List.set_cons_succ,List.set_cons_zero]
  refine Cf.aD HU (by rfl) (by rfl) ?_
  go_big_quiet_step (with_reducible rfl)
  refine wpQuiet_nil ?_
  refine Cf.aD HU (by rfl) (by rfl) ?_
  go_big_quiet_step (with_reducible rfl)
  refine wpQuiet_nil ?_
  refine cG (.int .i64 (N:Nat)) (by rfl) (by kernel_rfl) (fun v=>dD (x:=.tmp 51) rfl underlying39 rfl v) ?_
  simp only[Act.put,List.setIfInBounds_toArray,List.set_cons_succ,List.set_cons_zero]
  refine Cf.aH (ob:=(Obj.cells (madeCells #[.int .i64 0] N) 2)) (mk:=fun b=>.slice (some ⟨b,0,none⟩) N N) (by rfl) (by kernel_rfl) ?_ ?_
  ·refine Cf.bE (bH (vx:=.int .i64 (N:Nat)) (vy:=.int .i64 (N:Nat)) (ob:=(Obj.cells (madeCells #[.int .i64 0] N) 2)) (mk:=fun b=>.slice (some ⟨b,0,none⟩) N N) rfl ?_ ?_ ?_)
   ·rfl
   ·rfl
   ·exact M3
  intro b3 fb3
  simp only[Act.put,List.setIfInBounds_toArray,List.set_cons_succ,List.set_cons_zero]
  refine Cf.aD HU (by rfl) (by rfl) ?_
  go_big_quiet_step (with_reducible rfl)
  refine wpQuiet_nil ?_
  refine Cf.aD HU (by rfl) (by rfl) ?_
  go_big_quiet_step (with_reducible rfl)
  refine wpQuiet_nil ?_
  refine cG (.int .i64 (M:Nat)) (by rfl) (by kernel_rfl) (fun v=>dD (x:=.tmp 55) rfl underlying38 rfl v) ?_
  simp only[Act.put,List.setIfInBounds_toArray,List.set_cons_succ,List.set_cons_zero]
  refine Cf.aH (ob:=(Obj.cells (madeCells #[.float .f64 0] M) 45)) (mk:=fun b=>.slice (some ⟨b,0,none⟩) M M) (by rfl) (by kernel_rfl) ?_ ?_
  ·refine Cf.bE (bH (vx:=.int .i64 (M:Nat)) (vy:=.int .i64 (M:Nat)) (ob:=(Obj.cells (madeCells #[.float .f64 0] M) 45)) (mk:=fun b=>.slice (some ⟨b,0,none⟩) M M) rfl ?_ ?_ ?_)
   ·rfl
   ·rfl
   ·exact M4
  intro b4 fb4
  simp only[Act.put,List.setIfInBounds_toArray,List.set_cons_succ,List.set_cons_zero]
  refine Cf.aD HU (by rfl) (by rfl) ?_
  go_big_quiet_step (with_reducible rfl)
  refine wpQuiet_nil ?_
  refine Cf.aD HU (by rfl) (by rfl) ?_
  go_big_quiet_step (with_reducible rfl)
  refine wpQuiet_nil ?_
  refine Cf.aD HU (by rfl) (by rfl) ?_
  go_big_quiet_step (with_reducible rfl)
  refine wpQuiet_nil ?_
  refine Cf.aD HU (by rfl) (by rfl) ?_
  go_big_quiet_step (with_reducible rfl)
  refine wpQuiet_nil ?_
  refine Cf.aD HU (by rfl) (by rfl) ?_
  go_big_quiet_step (with_reducible rfl)
  refine wpQuiet_nil ?_
  refine Cf.aH (ob:=(.cells #[.slice none 0 0,.slice none 0 0,.slice none 0 0,.slice none 0 0,.int .i64 0,.int .i64 0] 41)) (mk:=fun b=>.pointer (some ⟨b,0,none⟩)) (by rfl) (by kernel_rfl) ?_ ?_
  ·refine Cf.bE (gQ (ob:=(.cells #[.slice none 0 0,.slice none 0 0,.slice none 0 0,.slice none 0 0,.int .i64 0,.int .i64 0] 41)) (mk:=fun b=>.pointer (some ⟨b,0,none⟩)) rfl ?_)
   exact AL
  intro g5 fg5
  simp only[Act.put,List.setIfInBounds_toArray,List.set_cons_succ,List.set_cons_zero]
  refine Cf.bW ?_
  intro wz hz
  have h1:=hz.at (i:=3) (b:=b1) (ob:=(Obj.cells (madeCells #[.float .f64 0] N) 45)) (by rfl) (by rfl)
  have h2:=hz.at (i:=7) (b:=b2) (ob:=(Obj.cells (madeCells #[.int .i64 0] N) 2)) (by rfl) (by rfl)
  have h3:=hz.at (i:=11) (b:=b3) (ob:=(Obj.cells (madeCells #[.int .i64 0] N) 2)) (by rfl) (by rfl)
  have h4:=hz.at (i:=15) (b:=b4) (ob:=(Obj.cells (madeCells #[.float .f64 0] M) 45)) (by rfl) (by rfl)
  have h5:=hz.at (i:=21) (b:=g5) (ob:=(.cells #[.slice none 0 0,.slice none 0 0,.slice none 0 0,.slice none 0 0,.int .i64 0,.int .i64 0] 41)) (by rfl) (by rfl)
  have n12:b1≠b2:=fb2.2 3 b1 (by rfl)
  have n13:b1≠b3:=fb3.2 3 b1 (by rfl)
  have n14:b1≠b4:=fb4.2 3 b1 (by rfl)
  have n15:b1≠g5:=fg5.2 3 b1 (by rfl)
  have n23:b2≠b3:=fb3.2 7 b2 (by rfl)
  have n24:b2≠b4:=fb4.2 7 b2 (by rfl)
  have n25:b2≠g5:=fg5.2 7 b2 (by rfl)
  have n34:b3≠b4:=fb4.2 11 b3 (by rfl)
  have n35:b3≠g5:=fg5.2 11 b3 (by rfl)
  have n45:b4≠g5:=fg5.2 15 b4 (by rfl)
  have AZ:Ab v4 wz:=(Ab.refl v4).drew.trans hz.1
  have RZ:=hid h5.1
  have HH:=hid (And.intro h1 (And.intro h2 (And.intro h3 (And.intro h4 h5))))
  have NN:=hid (And.intro (And.intro n12 (And.intro n13 (And.intro n14 (And.intro n23 (And.intro n24 n34))))) (And.intro n15 (And.intro n25 (And.intro n35 n45))))
  have HAZ:=hid AZ
  clear hz fb1 fb2 fb3 fb4 fg5 h1 h2 h3 h4 h5 n12 n13 n14 n15 n23 n24 n25 n34 n35 n45 AZ HU HU1 e0 e1 e2 e3 e4 e5
  clear E UU
  have t0:=aA 0 RZ.out
  have f0:=aC RZ.out 0
  have t1:=aA 1 RZ.out
  have f1:=aC RZ.out 1
  have t2:=aA 2 RZ.out
  have f2:=aC RZ.out 2
  have t3:=aA 3 RZ.out
  have f3:=aC RZ.out 3
  have t4:=aA 4 RZ.out
  have f4:=aC RZ.out 4
  have t5:=aA 5 RZ.out
  have f5:=aC RZ.out 5
  simp only[List.drop_succ_cons,List.drop_zero]
  go_wp2_with fail
  go_meet
  obtain⟨⟨k1,l1⟩,⟨k2,l2⟩,⟨k3,l3⟩,⟨k4,l4⟩,⟨k5,l5⟩⟩:=HH.out
  refine⟨g5,b1,b2,b3,b4,rfl,?_,gZ k5,(aR NN.out.2.1).trans k1,(aR NN.out.2.2.1).trans k2,(aR NN.out.2.2.2.1).trans k3,(aR NN.out.2.2.2.2).trans k4,⟨l1,l2,l3,l4,l5⟩,NN.out.1,NN.out.2⟩
  exact(((((HAZ.out.setk l5 _).setk l5 _).setk l5 _).setk l5 _).setk l5 _).setk l5 _
 case rest=>
  obtain⟨gt,tb,tw,tt,ts,rfl,a3,r5,m1,m2,m3,m4,hl,hne,hng⟩:=hcut
  rename World=>v5
  have A45:Hid (Ab v4 v5):=a3
  have T5:Hid (Tm gt tb tw tt ts N M B Wt T S sky st (a 0) (z 0) v5):=by
   rw[Z0.out.1,Z0.out.2.1]
   exact⟨r5,(bG m1).congr (fun _ _=>by simp),(bG m2).congr (fun _ _=>by simp),(bG m3).congr (fun _ _=>by simp),(bG m4).congr (fun _ _=>by simp)⟩
  have LL:=hid hl
  have NN:=hid hne
  have NG:=hid hng
  clear a3 r5 m1 m2 m3 m4 hl hne hng M1 M2 M3 M4 AL
  go_wp2_with fail
  go_loopw [11] (fun kv wr=> ∃k:Nat,k<=P/\kv=.int .i64 (k:Nat)/\Ab v4 wr/\Tm gt tb tw tt ts N M B Wt T S sky st (a k) (z k) wr) (fun kv _=>P - (intOf kv).toNat)
  case atStart=>exact⟨0,by omega,rfl,A45.out,T5.out⟩
  case round=>
   obtain⟨k,hk,rfl,ar,tr⟩:=hrel
   have AR:=hid ar
   have TR:=hid tr
   have HKL:=hid hk
   have kB:(k:Int)<=64:=by omega
   clear ar tr hk A45 T5
   by_cases hkn:k<P
   ·have HK:=hid hkn
    have kI:(k:Int)<P:=by omega
    have QR:=hid (Q4.out.to AR.out)
    have GR:=hid (G4.out.to AR.out)
    have SR:=hid (Ab.heap AR.out S4.out)
    have WR:Hid (Ab w wr):=A4.out.trans AR.out
    have l0:=(QR.out.2 (k*3) (by omega)).1
    have l1:=(QR.out.2 (k*3+1) (by omega)).1
    have l2:=(QR.out.2 (k*3+2) (by omega)).1
    have e0:=(Q4.out.2 (k*3) (by omega)).2
    have e1:=(Q4.out.2 (k*3+1) (by omega)).2
    have GL:Hid (gl<v4.heap.size):=Q4.out.1
    have leB0:=LB.out (k*3+1)
    have laB0:=LB.out (k*3)
    have LKk:Hid (∀v,Ab wr v->Calls prog 13 #[.pointer (some ⟨gb,0,none⟩),.agg #[.slice (qp (k*3)) (lsP n P (k*3)).length (qc (k*3)),.slice (qp (k*3+1)) (lsP n P (k*3+1)).length (qc (k*3+1)),.slice (qp (k*3+2)) (lsP n P (k*3+2)).length (qc (k*3+2))],.agg #[.slice pb N cb,.slice pw N cw,.slice pt N ct,.slice ps M cs,.int .i64 sky,.int .i64 st]] v fun e w'=> ∃s,e=.returned (.tuple #[s,.int .i64 0])/\Below v.heap.size v w'/\OwnS v.heap.size s N N N M (A k) (Wk k) (Tk k) (Sk k) 0 st w'/\Ab wr v):=fun v a=>(LK.out v gb gl qp qc k hkn (WR.out.trans a) (GR.out.to a) (QR.out.to a)).mono fun _ _ ⟨s,h1,h2,h3⟩=>⟨s,h1,h2,h3,a⟩
    have CEk:=hid (fun i=>CE.out k i hkn)
    have EEk:=hid (fun i=>EE.out k i hkn)
    have CLk:=hid (CL.out k hkn)
    have ELk:=hid (EL.out k hkn)
    have EZk:=hid (fun e=>EZ.out k e hkn)
    have BF:=hid (BN.out k)
    generalize A k=Ak at*
    generalize Wk k=Wkk at*
    generalize Tk k=Tkk at*
    generalize Sk k=Skk at*
    generalize hle:(lsP n P (k*3+1)).length=le at*
    generalize hre:rd (lsP n P (k*3+1))=Re at*
    generalize lsP n P (k*3+1)=Le at*
    generalize hla:(lsP n P (k*3)).length=la at*
    generalize hra:rd (lsP n P (k*3))=Ra at*
    generalize lsP n P (k*3)=La at*
    clear hle hre hla hra
    generalize(lsP n P (k*3+2)).length=lh at*
    generalize qp (k*3)=qa at*
    generalize qp (k*3+1)=qe at*
    generalize qp (k*3+2)=qh at*
    generalize qc (k*3)=ca at*
    generalize qc (k*3+1)=ce at*
    generalize qc (k*3+2)=ch at*
    have leB:(le:Int)<=12288:=by omega
    have laB:(la:Int)<=12288:=by omega
    have E0:=hid e0
    have E1:=hid e1
    have GLr:Hid (gl<wr.heap.size):=Nat.lt_of_lt_of_le GL.out AR.out.size
    clear hkn e0 e1 leB0 laB0
    go_upto_region 13 with fail
    have K0:=hid l0
    have K1:=hid l1
    have K2:=hid l2
    clear l0 l1 l2
    go_cut [12,13]from 63 to 218 (fun s12 s13 wx=> ∃gm mp1 mc1 mp2 mc2 mp3 mc3 mp4 mc4,s13=.int .i64 0/\s12=.pointer (some ⟨gm,0,none⟩)/\Ab wr wx/\wr.heap.size<=gm/\SeaP gm mp1 mc1 mp2 mc2 mp3 mc3 mp4 mc4 N N N M Ak Wkk Tkk Skk 0 st wx/\((∀b o,mp1=some ⟨b,o,none⟩->wr.heap.size<=b)/\(∀b o,mp2=some ⟨b,o,none⟩->wr.heap.size<=b)/\(∀b o,mp3=some ⟨b,o,none⟩->wr.heap.size<=b)/\ ∀b o,mp4=some ⟨b,o,none⟩->wr.heap.size<=b)/\Rw4 wr.heap.size mp1 mp2 mp3 mp4 N M Ak Wkk Tkk Skk wx)
    case first=>
     have av:Ab wr wr:=Ab.refl _
     have KS:Hid (∀w',Ab wr w'->Ab wr w'/\w'.cell? ⟨gl,k*3,none⟩=some (.slice qa la ca)/\w'.cell? ⟨gl,k*3+1,none⟩=some (.slice qe le ce)/\w'.cell? ⟨gl,k*3+2,none⟩=some (.slice qh lh ch)/\w'.cell? ⟨gs,0,none⟩=some (.slice pb N cb)/\w'.cell? ⟨gs,1,none⟩=some (.slice pw N cw)/\w'.cell? ⟨gs,2,none⟩=some (.slice pt N ct)/\w'.cell? ⟨gs,3,none⟩=some (.slice ps M cs)/\w'.cell? ⟨gs,4,none⟩=some (.int .i64 sky)/\w'.cell? ⟨gs,5,none⟩=some (.int .i64 st)):=fun w' h=>⟨h,(Below.cell h GLr.out).trans K0.out,(Below.cell h GLr.out).trans K1.out,(Below.cell h GLr.out).trans K2.out,aA 0 (h.heap SR.out),aA 1 (h.heap SR.out),aA 2 (h.heap SR.out),aA 3 (h.heap SR.out),aA 4 (h.heap SR.out),aA 5 (h.heap SR.out)⟩
     go_region_held3 (fun w'=>Ab wr w'/\w'.cell? ⟨gl,k*3,none⟩=some (.slice qa la ca)/\w'.cell? ⟨gl,k*3+1,none⟩=some (.slice qe le ce)/\w'.cell? ⟨gl,k*3+2,none⟩=some (.slice qh lh ch)/\w'.cell? ⟨gs,0,none⟩=some (.slice pb N cb)/\w'.cell? ⟨gs,1,none⟩=some (.slice pw N cw)/\w'.cell? ⟨gs,2,none⟩=some (.slice pt N ct)/\w'.cell? ⟨gs,3,none⟩=some (.slice ps M cs)/\w'.cell? ⟨gs,4,none⟩=some (.int .i64 sky)/\w'.cell? ⟨gs,5,none⟩=some (.int .i64 st)) ((refine KS.out _ ?_;(with_reducible (repeat(first | assumption | apply Ab.drew | apply Ab.alloc | (refine Ab.setk ?_ (by first | assumption | exact Nat.le_refl _) _))));done)) (first
      | (go_at_call 13;refine(LKk.out _ (show Ab wr _ by with_reducible (repeat(first | assumption | apply Ab.drew | apply Ab.alloc)))).mono ?_;rintro e9 z2 ⟨vv,rfl,c2,os,lo⟩;have az2:Ab wr z2:=Ab.trans lo c2;have LO:=hid (Ab.size lo);clear lo;first
        | (have q0:=Ab.heap c2 (bO _ _);obtain⟨mp1,mc1,mp2,mc2,mp3,mc3,mp4,mc4,rfl,q2,FIN,MM,RW⟩:=qZ (bO _ _) c2 os BF.out HNM.out;have t0:=aA 0 q2;have f0:=aC q2 0;have t1:=aA 1 q2;have f1:=aC q2 1;have t2:=aA 2 q2;have f2:=aC q2 2;have t3:=aA 3 q2;have f3:=aC q2 3;have t4:=aA 4 q2;have f4:=aC q2 4;have t5:=aA 5 q2;have f5:=aC q2 5;skip)
        | (have q0:=Ab.heap c2 (heap_alloc_new _ _);obtain⟨mp1,mc1,mp2,mc2,mp3,mc3,mp4,mc4,rfl,q2,FIN,MM,RW⟩:=qZ (heap_alloc_new _ _) c2 os BF.out HNM.out;have t0:=aA 0 q2;have f0:=aC q2 0;have t1:=aA 1 q2;have f1:=aC q2 1;have t2:=aA 2 q2;have f2:=aC q2 2;have t3:=aA 3 q2;have f3:=aC q2 3;have t4:=aA 4 q2;have f4:=aC q2 4;have t5:=aA 5 q2;have f5:=aC q2 5;skip)
        | (obtain⟨mp1,mc1,mp2,mc2,mp3,mc3,mp4,mc4,rfl,FIN,MM,RW⟩:=sea_nw3 os BF.out HNM.out)))
     all_goals(try go_wp2_with fail)
     all_goals(try go_meet)
     all_goals first
      | (have q9:=q2;exact⟨_,_,_,_,_,_,_,_,_,rfl,rfl,(((((az2.setk (Nat.le_refl _) _).setk (Nat.le_refl _) _).setk (Nat.le_refl _) _).setk (Nat.le_refl _) _).setk (Nat.le_refl _) _).setk (Nat.le_refl _) _,Nat.le_refl _,FIN,MM.up LO.out,RW.low LO.out⟩)
      | exact⟨_,_,_,_,_,_,_,_,_,rfl,rfl,az2.alloc _,az2.size,FIN,MM.up LO.out,RW.low LO.out⟩
    case rest=>
     obtain⟨gm,mp1,mc1,mp2,mc2,mp3,mc3,mp4,mc4,rfl,rfl,ac,ltm,spm,mmm,rwm⟩:=hcut
     rename World=>v8
     have A8:Hid (Ab wr v8):=ac
     have M8:=hid spm
     have W8:Hid (Ab v4 v8):=AR.out.trans A8.out
     have T8:=hid (TR.out.to A8.out)
     obtain⟨g1,k1,F1,g2,k2,F2,g3,k3,F3,g4,k4,F4,⟨rfl,rfl,rfl,rfl⟩,⟨r1,r2,r3,r4⟩,⟨y1,y2,y3,y4⟩,⟨b1,b2,b3,b4⟩,⟨f1,f2,f3,f4⟩,-,-⟩:=rwm
     have R1:=hid r1
     have R2:=hid r2
     have R3:=hid r3
     have R4:=hid r4
     have Y:=hid (And.intro y1 (And.intro y2 (And.intro y3 y4)))
     have FF:=hid (And.intro f1 (And.intro f2 (And.intro f3 f4)))
     have TB:Hid (gt<wr.heap.size/\tb<wr.heap.size/\tw<wr.heap.size/\tt<wr.heap.size/\ts<wr.heap.size):=⟨lt_of_block TR.out.1,TR.out.2.1.lt,TR.out.2.2.1.lt,TR.out.2.2.2.1.lt,TR.out.2.2.2.2.lt⟩
     have GM:Hid (wr.heap.size<=gm/\wr.heap.size<=g1/\wr.heap.size<=g2/\wr.heap.size<=g3/\wr.heap.size<=g4/\gm<v8.heap.size/\g1<v8.heap.size/\g2<v8.heap.size/\g3<v8.heap.size/\g4<v8.heap.size/\gm≠g4):=⟨ltm,b1,b2,b3,b4,lt_of_block spm.1,r1.lt,r2.lt,r3.lt,r4.lt,fun e=>by
      obtain⟨cc,hc,-⟩:=r4
      have h:=spm.1
      rw[e,hc]at h
      injection h with h
      injection h with h1 h2
      exact absurd h2 (by decide)⟩
     have GA:Hid (gl<v8.heap.size/\gs<v4.heap.size/\v4.heap.size<=v8.heap.size):=⟨Nat.lt_of_lt_of_le GLr.out A8.out.size,lt_of_block S4.out,W8.out.size⟩
     clear ac ltm spm mmm r1 r2 r3 r4 y1 y2 y3 y4 b1 b2 b3 b4 f1 f2 f3 f4 LKk BF
     have ge:=hid (And.intro GL.out LL.out)
     obtain⟨m0,m1,m2,m3,m4,m5⟩:=aI (M8.out.1)
     obtain⟨t0,t1,t2,t3,t4,t5⟩:=aI (T8.out.1)
     obtain⟨s0,s1,s2,s3,s4,s5⟩:=aI ((Ab.heap A8.out SR.out))
     have K8:=(Below.cell A8.out GLr.out).trans K0.out
     go_wp2_with fail
     clear K8 m0 m1 m2 m3 m4 m5 t0 t1 t2 t3 t4 t5 s0 s1 s2 s3 s4 s5
     obtain⟨xk,hxk⟩:=aB (a k)
     obtain⟨zk,hzk⟩:=aB (z k)
     rw[hxk]at T8 CEk CLk
     rw[hzk]at T8 EEk ELk EZk
     clear hxk hzk
     go_loopw [14] (fun iv wq=> ∃i:Nat,i<=la/\iv=.int .i64 (i:Nat)/\AbQ v8 (fun b=>b=tb\/b=tw\/b=tt) wq/\Tm gt tb tw tt ts N M B Wt T S sky st (xk+i) (zk) wq) (fun iv _=>la - (intOf iv).toNat)
     case atStart=>exact⟨0,by omega,rfl,AbQ.refl _ _,T8.out⟩
     case round=>
      obtain⟨i,hi,rfl,aq,tq⟩:=hrel
      rename World=>wq
      have AQ:=hid aq
      have TQ:=hid tq
      have HIL:=hid hi
      have iB:(i:Int)<=12288:=by omega
      clear aq tq hi
      have NP:Hid (∀b,(b<v4.heap.size\/wr.heap.size<=b)-> ¬(b=tb\/b=tw\/b=tt)):=fun b hb q=>by
       have h1:=TB.out
       have h2:=LL.out
       rcases q with rfl | rfl | rfl<;>omega
      have kc:=(AQ.out.cell (k:=k*3) GA.out.1 (NP.out gl (.inl GL.out))).trans ((Below.cell A8.out GLr.out).trans K0.out)
      by_cases hin:i<la
      ·have HI:=hid hin
       have iI:(i:Int)<la:=by omega
       obtain⟨rc,cN,c1,c2,c3⟩:=CEk.out i hin
       obtain⟨qab,qao,rfl⟩:=E0.out.some0 (by omega)
       obtain⟨_,_,_,q1,q2,q3⟩:=E0.out i hin
       cases q1
       rw[rc]at q3
       have y0:=(AQ.out.cell (k:=qao+i) (Nat.lt_of_lt_of_le q2 GA.out.2.2) (NP.out qab (.inl q2))).trans ((Below.cell W8.out q2).trans q3)
       obtain⟨c,hc⟩:=aB (xk+i)
       rw[hc]at y0 cN c1 c2 c3 TQ
       have HC:=hid hc
       have CN:=hid cN
       have cI:(c:Int)<N:=by omega
       have u1:=(AQ.out.cell (k:=c) GM.out.2.2.2.2.2.2.1 (NP.out g1 (.inr GM.out.2.1))).trans (R1.out.cell (i:=c) (by have:=Y.out.1;omega))
       have u2:=(AQ.out.cell (k:=c) GM.out.2.2.2.2.2.2.2.1 (NP.out g2 (.inr GM.out.2.2.1))).trans (R2.out.cell (i:=c) (by have:=Y.out.2.1;omega))
       have u3:=(AQ.out.cell (k:=c) GM.out.2.2.2.2.2.2.2.2.1 (NP.out g3 (.inr GM.out.2.2.2.1))).trans (R3.out.cell (i:=c) (by have:=Y.out.2.2.1;omega))
       rw[FF.out.1 c cN,c1]at u1
       rw[FF.out.2.1 c cN,c2]at u2
       rw[FF.out.2.2.1 c cN,c3]at u3
       have U1:=hid u1
       have U2:=hid u2
       have U3:=hid u3
       have MQ:Hid (wq.heap[gm]? =some (.cells #[.slice (some ⟨g1,0,none⟩) N mc1,.slice (some ⟨g2,0,none⟩) N mc2,.slice (some ⟨g3,0,none⟩) N mc3,.slice (some ⟨g4,0,none⟩) M mc4,.int .i64 0,.int .i64 st] 41)):=(AQ.out.2.2.2.2 gm GM.out.2.2.2.2.2.1 (NP.out gm (.inr GM.out.1))).trans M8.out.1
       have LT:Hid (gm<wq.heap.size/\g1<wq.heap.size/\g2<wq.heap.size/\g3<wq.heap.size):=⟨Nat.lt_of_lt_of_le GM.out.2.2.2.2.2.1 AQ.out.2.2.2.1,Nat.lt_of_lt_of_le GM.out.2.2.2.2.2.2.1 AQ.out.2.2.2.1,Nat.lt_of_lt_of_le GM.out.2.2.2.2.2.2.2.1 AQ.out.2.2.2.1,Nat.lt_of_lt_of_le GM.out.2.2.2.2.2.2.2.2.1 AQ.out.2.2.2.1⟩
       clear hin rc cN c1 c2 c3 q2 q3 hc u1 u2 u3
       go_upto_region 22 with fail
       clear y0 kc
       obtain⟨UU,E,hF1,hF2⟩:=cls wq
       have HU:=hid hF2
       have HU1:=hid hF1
       have e0: ∀u,(E u).cell? ⟨gt,0,none⟩=some (.slice (some ⟨tb,0,none⟩) N N):=fun u=>aA 0 ((hF1 u).heap TQ.out.1)
       have e1: ∀u,(E u).cell? ⟨gm,0,none⟩=some (.slice (some ⟨g1,0,none⟩) N mc1):=fun u=>aA 0 ((hF1 u).heap MQ.out)
       have e2: ∀u,(E u).cell? ⟨g1,c,none⟩=some (.float .f64 (B c)):=fun u=>(Below.cell (hF1 u) LT.out.2.1).trans U1.out
       have DD0:=HU.out _ (Ab.refl wq).drew
       clear hF1 hF2
       refine bS 9 E (by kernel_rfl) (by kernel_rfl) (by kernel_rfl) DD0 ?_
       simp only[List.take_succ_cons,List.take_zero,List.drop_succ_cons,List.drop_zero]
       repeat(go_big_quiet_step (with_reducible rfl))
       refine wpQuiet_nil ?_
       intro z1 hwz
       obtain⟨u0,hu⟩:=hwz
       have Az1:Hid (Ab wq z1):=by rw[hu];exact HU1.out u0
       clear hu u0
       clear HU HU1 DD0 e0 e1 e2
       clear E UU
       have TZ1:=hid (TQ.out.to Az1.out)
       have MZ1:=hid (Ab.heap Az1.out MQ.out)
       have x1:=TZ1.out.2.1.cell CN.out
       have f1:=TZ1.out.2.1.frozen c
       go_upto_region 23 with fail
       clear x1 f1
       obtain⟨s1,hs1⟩:=aB (z1.setCell ⟨tb,c,none⟩ (.float .f64 (B c)))
       have TA:Hid (s1.heap[gt]? =z1.heap[gt]? /\s1.rowIs tb 45 N (fun j=>.float .f64 (if j<c+1 then B j else 0))/\s1.rowIs tw 2 N (fun j=>.int .i64 (if j<c then Wt j else 0))/\s1.rowIs tt 2 N (fun j=>.int .i64 (if j<c then T j else 0))/\s1.rowIs ts 45 M (fun j=>.float .f64 (if j<zk then S j else 0))):=by
        rw[<- hs1]
        exact⟨aF NG.out.1.symm,lS (mk:=Value.float .f64) TZ1.out.2.1,bN TZ1.out.2.2.1 NN.out.1.symm,bN TZ1.out.2.2.2.1 NN.out.2.1.symm,bN TZ1.out.2.2.2.2 NN.out.2.2.1.symm⟩
       have MA:Hid (s1.heap[gm]? =z1.heap[gm]?):=by
        rw[<- hs1]
        exact aF (by have:=TB.out.2.1;have:=GM.out.1;omega)
       have QA:Hid (AbQ v8 (fun b=>b=tb\/b=tw\/b=tt) s1):=by
        rw[<- hs1]
        exact(AQ.out.to Az1.out).set (.inl (.inl rfl)) _
       have V2:Hid (s1.cell? ⟨g2,c,none⟩=some (.int .i64 (Wt c))):=by
        rw[<- hs1]
        exact(fC (by have:=TB.out.2.1;have:=GM.out.2.2.1;omega)).trans ((Below.cell Az1.out LT.out.2.2.1).trans U2.out)
       have V3:Hid (s1.cell? ⟨g3,c,none⟩=some (.int .i64 (T c))):=by
        rw[<- hs1]
        exact(fC (by have:=TB.out.2.1;have:=GM.out.2.2.2.1;omega)).trans ((Below.cell Az1.out LT.out.2.2.2).trans U3.out)
       have ZS1:Hid (wq.heap.size<=s1.heap.size):=by
        rw[<- hs1]
        show wq.heap.size<=_
        simpa [World.setCell]using Az1.out.size
       rw[hs1]
       clear hs1
       have TA0:Hid (s1.heap[gt]? =_):=TA.out.1.trans TZ1.out.1
       have MA0:Hid (s1.heap[gm]? =_):=MA.out.trans MZ1.out
       obtain⟨UU,E,hF1,hF2⟩:=cls s1
       have HU:=hid hF2
       have HU1:=hid hF1
       have e0: ∀u,(E u).cell? ⟨gt,1,none⟩=some (.slice (some ⟨tw,0,none⟩) N N):=fun u=>aA 1 ((hF1 u).heap TA0.out)
       have e1: ∀u,(E u).cell? ⟨gm,1,none⟩=some (.slice (some ⟨g2,0,none⟩) N mc2):=fun u=>aA 1 ((hF1 u).heap MA0.out)
       have e2: ∀u,(E u).cell? ⟨g2,c,none⟩=some (.int .i64 (Wt c)):=fun u=>(Below.cell (hF1 u) (show g2<s1.heap.size by have:=LT.out;have:=ZS1.out;omega)).trans V2.out
       have DD0:=HU.out _ (Ab.refl s1).drew
       clear hF1 hF2
       refine bS 9 E (by kernel_rfl) (by kernel_rfl) (by kernel_rfl) DD0 ?_
       simp only[List.take_succ_cons,List.take_zero,List.drop_succ_cons,List.drop_zero]
       repeat(go_big_quiet_step (with_reducible rfl))
       refine wpQuiet_nil ?_
       intro z2 hwz
       obtain⟨u0,hu⟩:=hwz
       have Az2:Hid (Ab s1 z2):=by rw[hu];exact HU1.out u0
       clear hu u0
       clear HU HU1 DD0 e0 e1 e2
       clear E UU
       have RB2:=hid (rowIs.ab TA.out.2.1 Az2.out)
       have RW2:=hid (rowIs.ab TA.out.2.2.1 Az2.out)
       have RT2:=hid (rowIs.ab TA.out.2.2.2.1 Az2.out)
       have RS2:=hid (rowIs.ab TA.out.2.2.2.2 Az2.out)
       have TB0:=hid (Ab.heap Az2.out TA0.out)
       have MB0:=hid (Ab.heap Az2.out MA0.out)
       have x1:=RW2.out.cell CN.out
       have f1:=RW2.out.frozen c
       go_upto_region 24 with fail
       clear x1 f1
       obtain⟨s2,hs2⟩:=aB (z2.setCell ⟨tw,c,none⟩ (.int .i64 (Wt c)))
       have TC:Hid (s2.heap[gt]? =z2.heap[gt]? /\s2.rowIs tb 45 N (fun j=>.float .f64 (if j<c+1 then B j else 0))/\s2.rowIs tw 2 N (fun j=>.int .i64 (if j<c+1 then Wt j else 0))/\s2.rowIs tt 2 N (fun j=>.int .i64 (if j<c then T j else 0))/\s2.rowIs ts 45 M (fun j=>.float .f64 (if j<zk then S j else 0))):=by
        rw[<- hs2]
        exact⟨aF NG.out.2.1.symm,bN RB2.out NN.out.1,lS (mk:=Value.int .i64) RW2.out,bN RT2.out NN.out.2.2.2.1.symm,bN RS2.out NN.out.2.2.2.2.1.symm⟩
       have MC:Hid (s2.heap[gm]? =z2.heap[gm]?):=by
        rw[<- hs2]
        exact aF (by have:=TB.out.2.2.1;have:=GM.out.1;omega)
       have QC:Hid (AbQ v8 (fun b=>b=tb\/b=tw\/b=tt) s2):=by
        rw[<- hs2]
        exact(QA.out.to Az2.out).set (.inl (.inr (.inl rfl))) _
       have X3:Hid (s2.cell? ⟨g3,c,none⟩=some (.int .i64 (T c))):=by
        rw[<- hs2]
        exact(fC (by have:=TB.out.2.2.1;have:=GM.out.2.2.2.1;omega)).trans ((Below.cell Az2.out (show g3<s1.heap.size by have:=LT.out;have:=ZS1.out;omega)).trans V3.out)
       have ZS2:Hid (s1.heap.size<=s2.heap.size):=by
        rw[<- hs2]
        show s1.heap.size<=_
        simpa [World.setCell]using Az2.out.size
       rw[hs2]
       clear hs2
       have TC0:Hid (s2.heap[gt]? =_):=TC.out.1.trans TB0.out
       have MC0:Hid (s2.heap[gm]? =_):=MC.out.trans MB0.out
       obtain⟨UU,E,hF1,hF2⟩:=cls s2
       have HU:=hid hF2
       have HU1:=hid hF1
       have e0: ∀u,(E u).cell? ⟨gt,2,none⟩=some (.slice (some ⟨tt,0,none⟩) N N):=fun u=>aA 2 ((hF1 u).heap TC0.out)
       have e1: ∀u,(E u).cell? ⟨gm,2,none⟩=some (.slice (some ⟨g3,0,none⟩) N mc3):=fun u=>aA 2 ((hF1 u).heap MC0.out)
       have e2: ∀u,(E u).cell? ⟨g3,c,none⟩=some (.int .i64 (T c)):=fun u=>(Below.cell (hF1 u) (show g3<s2.heap.size by have:=LT.out;have:=ZS1.out;have:=ZS2.out;omega)).trans X3.out
       have DD0:=HU.out _ (Ab.refl s2).drew
       clear hF1 hF2
       refine bS 9 E (by kernel_rfl) (by kernel_rfl) (by kernel_rfl) DD0 ?_
       simp only[List.take_succ_cons,List.take_zero,List.drop_succ_cons,List.drop_zero]
       repeat(go_big_quiet_step (with_reducible rfl))
       refine wpQuiet_nil ?_
       intro z3 hwz
       obtain⟨u0,hu⟩:=hwz
       have Az3:Hid (Ab s2 z3):=by rw[hu];exact HU1.out u0
       clear hu u0
       clear HU HU1 DD0 e0 e1 e2
       clear E UU
       have RB3:=hid (rowIs.ab TC.out.2.1 Az3.out)
       have RW3:=hid (rowIs.ab TC.out.2.2.1 Az3.out)
       have RT3:=hid (rowIs.ab TC.out.2.2.2.1 Az3.out)
       have RS3:=hid (rowIs.ab TC.out.2.2.2.2 Az3.out)
       have TD0:=hid (Ab.heap Az3.out TC0.out)
       have x1:=RT3.out.cell CN.out
       have f1:=RT3.out.frozen c
       go_wp2
       exact⟨⟨i+1,by have:=HI.out;omega,by simp,(QC.out.to Az3.out).set (.inl (.inr (.inr rfl))) _,by
        rw[<- Nat.add_assoc,HC.out]
        exact⟨(aF NG.out.2.2.1.symm).trans TD0.out,bN RB3.out NN.out.2.1,bN RW3.out NN.out.2.2.2.1,lS (mk:=Value.int .i64) RT3.out,bN RS3.out NN.out.2.2.2.2.2.symm⟩⟩,by have:=HI.out;simp[intOf];omega⟩
      ·have e6:la=i:=by have:=HIL.out;omega
       rw[<- e6,CLk.out]at TQ
       clear hin
       obtain⟨xn,hxn⟩:=aB (a (k+1))
       rw[hxn]at TQ
       have HXN:=hid hxn
       subst e6
       have kc1:=(AQ.out.cell (k:=k*3+1) GA.out.1 (NP.out gl (.inl GL.out))).trans ((Below.cell A8.out GLr.out).trans K1.out)
       have RQ4:Hid (wq.rowIs g4 45 k4 F4):=R4.out.of_block (AQ.out.2.2.2.2 g4 GM.out.2.2.2.2.2.2.2.2.2.1 (NP.out g4 (.inr GM.out.2.2.2.2.1)))
       have MQ:Hid (wq.heap[gm]? =some (.cells #[.slice (some ⟨g1,0,none⟩) N mc1,.slice (some ⟨g2,0,none⟩) N mc2,.slice (some ⟨g3,0,none⟩) N mc3,.slice (some ⟨g4,0,none⟩) M mc4,.int .i64 0,.int .i64 st] 41)):=(AQ.out.2.2.2.2 gm GM.out.2.2.2.2.2.1 (NP.out gm (.inr GM.out.1))).trans M8.out.1
       go_wp2_with fail
       clear kc kc1
       go_loopw [16] (fun jv wp=> ∃(j:Nat) (F:Nat->Value),j<=le/\jv=.int .i64 (j:Nat)/\AbQ wq (fun b=>b=ts\/b=g4) wp/\Tm gt tb tw tt ts N M B Wt T S sky st (xn) (zk+j) wp/\wp.rowIs g4 45 k4 F/\ ∀e,e<M->F e=.float .f64 (if zk<=e/\e<zk+j then 0 else Skk e)) (fun jv _=>le - (intOf jv).toNat)
       case atStart=>exact⟨0,F4,by omega,rfl,AbQ.refl _ _,TQ.out,RQ4.out,fun e he=>by rw[FF.out.2.2.2 e he,if_neg (by omega)]⟩
       case round=>
        obtain⟨j,F,hj,rfl,ap,tp,rp,fp⟩:=hrel
        rename World=>wp
        have AP:=hid ap
        have TP:=hid tp
        have RP:=hid rp
        have FP:=hid fp
        have HJL:=hid hj
        have jB:(j:Int)<=12288:=by omega
        clear ap tp rp fp hj
        have QS:Hid (v8.heap.size<=wq.heap.size):=AQ.out.2.2.2.1
        have NS:Hid (∀b,(b<v4.heap.size\/b=gm)-> ¬(b=ts\/b=g4)):=fun b hb q=>by
         have h1:=TB.out
         have h2:=LL.out
         have h3:=GM.out
         have h4:=AR.out.size
         rcases hb with hb | rfl
         ·rcases q with rfl | rfl<;>omega
         ·rcases q with q | q
          ·omega
          ·exact h3.2.2.2.2.2.2.2.2.2.2 q
        have NPl:=NP.out gl (.inl GL.out)
        have kc:=(AP.out.cell (k:=k*3+1) (Nat.lt_of_lt_of_le GA.out.1 QS.out) (NS.out gl (.inl GL.out))).trans ((AQ.out.cell (k:=k*3+1) GA.out.1 NPl).trans ((Below.cell A8.out GLr.out).trans K1.out))
        have MP:Hid (wp.heap[gm]? =some (.cells #[.slice (some ⟨g1,0,none⟩) N mc1,.slice (some ⟨g2,0,none⟩) N mc2,.slice (some ⟨g3,0,none⟩) N mc3,.slice (some ⟨g4,0,none⟩) M mc4,.int .i64 0,.int .i64 st] 41)):=(AP.out.2.2.2.2 gm (lt_of_block MQ.out) (NS.out gm (.inr rfl))).trans MQ.out
        clear NPl
        by_cases hjn:j<le
        ·have HJ:=hid hjn
         have jI:(j:Int)<le:=by omega
         obtain⟨rc,cN,c1⟩:=EEk.out j hjn
         obtain⟨qeb,qeo,rfl⟩:=E1.out.some0 (by omega)
         obtain⟨_,_,_,q1,q2,q3⟩:=E1.out j hjn
         cases q1
         rw[rc]at q3
         have y0:=(AP.out.cell (k:=qeo+j) (Nat.lt_of_lt_of_le (Nat.lt_of_lt_of_le q2 GA.out.2.2) QS.out) (NS.out qeb (.inl q2))).trans ((AQ.out.cell (k:=qeo+j) (Nat.lt_of_lt_of_le q2 GA.out.2.2) (NP.out qeb (.inl q2))).trans ((Below.cell W8.out q2).trans q3))
         have fe:=FP.out (zk+j) cN
         rw[if_neg (by omega),c1]at fe
         obtain⟨e,he⟩:=aB (zk+j)
         rw[he]at y0 cN fe TP
         have HE:=hid he
         have CN:=hid cN
         have eI:(e:Int)<M:=by omega
         have u4:=RP.out.cell (i:=e) (by have:=Y.out.2.2.2;omega)
         rw[fe]at u4
         have U4:=hid u4
         clear hjn rc cN c1 q2 q3 he u4 fe
         go_upto_region 29 with fail
         clear y0 kc
         obtain⟨UU,E,hF1,hF2⟩:=cls wp
         have HU:=hid hF2
         have HU1:=hid hF1
         have e0: ∀u,(E u).cell? ⟨gt,3,none⟩=some (.slice (some ⟨ts,0,none⟩) M M):=fun u=>aA 3 ((hF1 u).heap TP.out.1)
         have e1: ∀u,(E u).cell? ⟨gm,3,none⟩=some (.slice (some ⟨g4,0,none⟩) M mc4):=fun u=>aA 3 ((hF1 u).heap MP.out)
         have e2: ∀u,(E u).cell? ⟨g4,e,none⟩=some (.float .f64 (S e)):=fun u=>(Below.cell (hF1 u) RP.out.lt).trans U4.out
         have DD0:=HU.out _ (Ab.refl wp).drew
         clear hF1 hF2
         refine bS 9 E (by kernel_rfl) (by kernel_rfl) (by kernel_rfl) DD0 ?_
         simp only[List.take_succ_cons,List.take_zero,List.drop_succ_cons,List.drop_zero]
         repeat(go_big_quiet_step (with_reducible rfl))
         refine wpQuiet_nil ?_
         intro z1 hwz
         obtain⟨u0,hu⟩:=hwz
         have Az1:Hid (Ab wp z1):=by rw[hu];exact HU1.out u0
         clear hu u0
         clear HU HU1 DD0 e0 e1 e2
         clear E UU
         have TZ1:=hid (TP.out.to Az1.out)
         have MZ1:=hid (Ab.heap Az1.out MP.out)
         have RZ1:=hid (rowIs.ab RP.out Az1.out)
         have x1:=TZ1.out.2.2.2.2.cell CN.out
         have f1:=TZ1.out.2.2.2.2.frozen e
         go_upto_region 30 with fail
         clear x1 f1
         have n4:Hid (ts≠g4/\ts≠gm/\g4≠gt/\g4≠tb/\g4≠tw/\g4≠tt):=by
          have h1:=TB.out
          have h3:=GM.out
          exact⟨by omega,by omega,by omega,by omega,by omega,by omega⟩
         obtain⟨s1,hs1⟩:=aB (z1.setCell ⟨ts,e,none⟩ (.float .f64 (S e)))
         have TA:Hid (Tm gt tb tw tt ts N M B Wt T S sky st (xn) (e+1) s1):=by
          rw[<- hs1]
          exact⟨(aF NG.out.2.2.2.symm).trans TZ1.out.1,bN TZ1.out.2.1 NN.out.2.2.1,bN TZ1.out.2.2.1 NN.out.2.2.2.2.1,bN TZ1.out.2.2.2.1 NN.out.2.2.2.2.2,lS (mk:=Value.float .f64) TZ1.out.2.2.2.2⟩
         have RA:Hid (s1.rowIs g4 45 k4 F):=by
          rw[<- hs1]
          exact bN RZ1.out n4.out.1.symm
         have MA0:Hid (s1.heap[gm]? =z1.heap[gm]?):=by
          rw[<- hs1]
          exact aF n4.out.2.1.symm
         have MA:=hid (MA0.out.trans MZ1.out)
         have QA:Hid (AbQ wq (fun b=>b=ts\/b=g4) s1):=by
          rw[<- hs1]
          exact(AP.out.to Az1.out).set (.inl (.inl rfl)) _
         rw[hs1]
         clear hs1
         have m3:=aA 3 MA.out
         have x1:=RA.out.cell (i:=e) (by have:=Y.out.2.2.2;have:=CN.out;omega)
         have f1:=RA.out.frozen e
         go_wp2
         exact⟨⟨j+1,_,by have:=HJ.out;omega,by simp,QA.out.set (.inl (.inr rfl)) _,by
          rw[<- Nat.add_assoc,HE.out]
          exact TA.out.eq (fun b hb=>aF (by
           have h:=n4.out
           rcases hb with rfl | rfl | rfl | rfl | rfl
           ·exact h.2.2.1.symm
           ·exact h.2.2.2.1.symm
           ·exact h.2.2.2.2.1.symm
           ·exact h.2.2.2.2.2.symm
           ·exact h.1)),RA.out.set e _,fun e2 he2=>by
          have hE:=HE.out
          (try dsimp only)
          by_cases q:e2=e
          ·rw[if_pos q,if_pos (by omega)]
          ·rw[if_neg q,FP.out e2 he2]
           by_cases q2:zk<=e2/\e2<zk+j
           ·rw[if_pos q2,if_pos (by omega)]
           ·rw[if_neg q2,if_neg (by omega)]⟩,by have:=HJ.out;simp[intOf];omega⟩
        ·have e6:le=j:=by have:=HJL.out;omega
         rw[<- e6,ELk.out]at TP FP
         clear hjn
         obtain⟨zn,hzn⟩:=aB (z (k+1))
         rw[hzn]at TP FP EZk
         have HZN:=hid hzn
         subst e6
         have F0:Hid (∀e,e<M->F e=.float .f64 0):=fun e he=>by
          rw[FP.out e he]
          by_cases q:zk<=e/\e<zn
          ·rw[if_pos q]
          ·rw[if_neg q,EZk.out e he q]
         have m3:=aA 3 MP.out
         go_wp2_with fail
         clear kc m3
         have SM0:=hid (same22 0)
         go_loopw [18] (fun ev wo=> ∃e:Nat,e<=M/\ev=.int .i64 (e:Nat)/\Ab wp wo) (fun ev _=>M - (intOf ev).toNat)
         case atStart=>exact⟨0,by omega,rfl,Ab.refl _⟩
         case round=>
          obtain⟨e,he,rfl,ao⟩:=hrel
          rename World=>wo
          have AO:=hid ao
          have HEL:=hid he
          have eB:(e:Int)<=12288:=by omega
          clear ao he
          have m3:=aA 3 (AO.out.heap MP.out)
          by_cases hen:e<M
          ·have HE:=hid hen
           have eI:(e:Int)<M:=by omega
           have u4:=(rowIs.ab RP.out AO.out).cell (i:=e) (by have:=Y.out.2.2.2;omega)
           rw[F0.out e hen]at u4
           clear hen
           go_wp2_with fail
           refine(SM0.out wo).mono ?_
           rintro e9 v9 ⟨rfl,k9⟩
           have A9:=hid k9
           go_wp2
           exact⟨⟨e+1,by have:=HE.out;omega,by simp,AO.out.trans A9.out⟩,by have:=HE.out;simp[intOf];omega⟩
          ·have e6:M=e:=by have:=HEL.out;omega
           subst e6
           go_wp2
           go_roundw
           case rel=>exact⟨k+1,by have:=HK.out;omega,by simp,by
            have s4:=AR.out.size
            have s8:=A8.out.size
            have q1:AbQ v8 _ wo:=(AQ.out.cat AP.out).to AO.out
            refine(AbQ.ofAb W8.out q1).ab (Ab.refl _) (fun b hb q=> ?_)
            rcases q with q | q
            ·exact NP.out b (.inl hb) q
            ·exact NS.out b (.inl hb) q,by rw[HXN.out,HZN.out];exact TP.out.to AO.out⟩
           case measure=>have:=HK.out;simp[intOf];omega
   ·have e6:P=k:=by have:=HKL.out;omega
    subst e6
    rw[Z0.out.2.2.1,Z0.out.2.2.2]at TR
    have WR:Hid (Ab w wr):=A4.out.trans AR.out
    have SR:=hid (Ab.heap AR.out S4.out)
    have D1:Hid (IsFl wr (some ⟨tb,0,none⟩) N B):=rowIs.fl (TR.out.2.1.congr (fun i hi=>by rw[if_pos hi])) (fun i hi=>(IB.out i hi).1)
    have D2:Hid (Sh.IsI wr (some ⟨tw,0,none⟩) N Wt):=Sh.lM (TR.out.2.2.1.congr (fun i hi=>by rw[if_pos hi])) (fun i hi=>(IW.out i hi).1)
    have D3:Hid (Sh.IsI wr (some ⟨tt,0,none⟩) N T):=Sh.lM (TR.out.2.2.2.1.congr (fun i hi=>by rw[if_pos hi])) (fun i hi=>(IT.out i hi).1)
    have D4:Hid (IsFl wr (some ⟨ts,0,none⟩) M S):=rowIs.fl (TR.out.2.2.2.2.congr (fun i hi=>by rw[if_pos hi])) (fun i hi=>(IS.out i hi).1)
    obtain⟨t0,t1,t2,t3,t4,t5⟩:=aI (TR.out.1)
    obtain⟨s0,s1,s2,s3,s4,s5⟩:=aI (SR.out)
    go_wp2_with fail
    refine(sE (some ⟨tb,0,none⟩) N N B (some ⟨tw,0,none⟩) N N Wt (some ⟨tt,0,none⟩) N N T (some ⟨ts,0,none⟩) M M S sky st pb cb pw cw pt ct ps cs wr (by have:=HN.out;omega) D1.out D2.out D3.out D4.out (IB.out.below WR.out) (IW.out.below WR.out) (IT.out.below WR.out) (IS.out.below WR.out)).mono ?_
    rintro e9 v9 ⟨rfl,k9⟩
    have A9:=hid k9
    go_wp2
    go_ret
    exact⟨rfl,WR.out.trans A9.out⟩
end Spl
end
section
open Go.RowKit Tf Cu Go.Deep
namespace Spl
theorem ls_0(n P k:Nat):lsP n P (k*3)=clP (6*n*n) P k:=by
 unfold lsP
 rw[if_pos (by omega),show k*3/3=k by omega]
theorem ls_1(n P k:Nat):lsP n P (k*3+1)=edP n P k:=by
 unfold lsP
 rw[if_neg (by omega),if_pos (by omega),show(k*3+1)/3=k by omega]
theorem ls_2(n P k:Nat):lsP n P (k*3+2)=hlP n P k:=by
 unfold lsP
 rw[if_neg (by omega),if_neg (by omega),show(k*3+2)/3=k by omega]
theorem gd_mem{l:List Nat}{i:Nat}(h:i<l.length):l.getD i 0 ∈ l:=by
 rw[List.getD_eq_getElem?_getD,List.getElem?_eq_getElem h]
 exact List.getElem_mem h
theorem wi_of{l:List Nat}{N:Nat}(h: ∀x ∈ l,x<N):wi l.length (rd l) N:=fun i hi=>by
 have:=h _ (gd_mem hi)
 unfold rd
 omega
theorem fit_part{n P k lb lw lt ls:Nat}(hk:k<P)(hf:fit4 n lb lw lt ls):fit22 n (lsP n P (k*3)).length (lsP n P (k*3+1)).length (lsP n P (k*3+2)).length (rd (lsP n P (k*3))) (rd (lsP n P (k*3+1))) (rd (lsP n P (k*3+2))) lb lw lt ls:=by
 refine⟨hf,wi_of fun x hx=> ?_,wi_of fun x hx=> ?_,wi_of fun x hx=> ?_⟩
 ·rw[ls_0]at hx
  have h1:=(fW.1 (mem_cl.1 hx)).2
  have h2:=fX (N:=6*n*n) (P:=P) (k:=k+1) (by omega) (by omega)
  omega
 ·rw[ls_2]at hx
  exact(mem_hl.1 hx).1
 ·rw[ls_1]at hx
  exact(mem_ed.1 hx).1
theorem mk_part(n P k:Nat):mk2 (lsP n P (k*3)).length (lsP n P (k*3+2)).length (rd (lsP n P (k*3))) (rd (lsP n P (k*3+2)))=mkC n P k:=by
 rw[ls_0,ls_2]
 rfl
theorem mke_part(n P k:Nat):hs (lsP n P (k*3+1)).length (rd (lsP n P (k*3+1)))=mkE n P k:=by
 rw[ls_1]
 rfl
theorem len_part(n P i:Nat)(hn:1<=n/\n<=32)(hP:1<=P/\P<=64):(lsP n P i).length<=12288:=by
 have n1:=n12 hn
 have n2:6*n*n<=12*n*n:=Nat.mul_le_mul_right _ (Nat.mul_le_mul_right _ (by decide))
 unfold lsP
 split
 ·rw[lH]
  have:=lo_size (N:=6*n*n) (P:=P) (by omega) (i/3)
  have:=Nat.div_le_self (6*n*n) P
  have:=n12 hn
  have:6*n*n<=6144:=by
   have h1:6*n<=6*32:=Nat.mul_le_mul_left _ hn.2
   exact Nat.le_trans (Nat.mul_le_mul h1 hn.2) (by decide)
  omega
 ·split
  ·have h:=List.length_filter_le (fun e=>inP (6*n*n) P (i/3) (lf n e)) (List.range (12*n*n))
   rw[List.length_range]at h
   exact Nat.le_trans h n1
  ·have h:=List.length_filter_le (fun c=>ask n P (i/3) c&& !inP (6*n*n) P (i/3) c) (List.range (6*n*n))
   rw[List.length_range]at h
   exact Nat.le_trans h (by omega)
theorem bnd_part{w:World}{n P k:Nat}{pb pw pt ps:Option Addr}{B:Nat->Nat}{Wt T:Nat->Int}{S:Nat->Nat}{lb lw lt ls:Nat}(hf:fit4 n lb lw lt ls)(IB:IsFl w pb lb B)(IW:Sh.IsI w pw lw Wt)(IT:Sh.IsI w pt lt T)(IS:IsFl w ps ls S):
  Bnd (6*n*n) (6*n*n) (6*n*n) (12*n*n) (shB (mkC n P k) B) (shW (mkC n P k) Wt) (shW (mkC n P k) T) (shB (mkE n P k) S):=by
 obtain⟨rfl,rfl,rfl,rfl⟩:=hf
 refine⟨fun i hi=> ?_,fun i hi=> ?_,fun i hi=> ?_,fun i hi=> ?_⟩
 ·unfold shB;split
  ·exact(IB i hi).1
  ·decide
 ·unfold shW;split
  ·exact(IW i hi).1
  ·unfold W64;decide
 ·unfold shW;split
  ·exact(IT i hi).1
  ·unfold W64;decide
 ·unfold shB;split
  ·exact(IS i hi).1
  ·decide
theorem split_ok{n gb P:Nat}(SC:SplitC)(hn:1<=n/\n<=32)(hP:1<=P/\P<=64){v:World}(g:GridOf n gb v):Calls prog 8 #[.pointer (some ⟨gb,0,none⟩),.int .i64 (P:Nat)] v fun e w'=> ∃gl p c,e=.returned (.tuple #[.slice (some ⟨gl,0,none⟩) P P,.int .i64 0])/\Below v.heap.size v w'/\PsAt n P gl p c w':=by
 refine((SC n gb (P:Nat) v hn g (by unfold W64;omega)).1 (by omega)).mono ?_
 rintro e w' ⟨gl,gc,ge,X,rfl,b,os⟩
 rw[Int.toNat_natCast]at os
 obtain⟨p,c,-,ps⟩:=kD hn os
 exact⟨gl,p,c,by rw[Int.toNat_natCast],b,ps⟩
end Spl
end
section
open Go.RowKit Tf Cu Go.Deep
namespace Spl
theorem row_rd{a m i:Nat}(h:i<m):rd (List.range' a m) i=((a+i:Nat):Int):=by
 unfold rd
 rw[iC h]
theorem pQ(SC:SplitC)(LC:LocalC)(side parts:Int)(pb:Option Addr)(lb cb:Nat)(B:Nat->Nat)(pw:Option Addr)(lw cw:Nat)(Wt:Nat->Int)(pt:Option Addr)(lt ct:Nat)(T:Nat->Int)(ps:Option Addr)(ls cs:Nat)(S:Nat->Nat)(sky st:Int)(w:World)(hF:Fr w)(h64:W64 side/\W64 parts/\W64 sky/\W64 st)(IB:IsFl w pb lb B)(IW:Sh.IsI w pw lw Wt)(IT:Sh.IsI w pt lt T)(IS:IsFl w ps ls S):
  Calls prog 4 #[.int .i64 side,.int .i64 parts,.agg #[.slice pb lb cb,.slice pw lw cw,.slice pt lt ct,.slice ps ls cs,.int .i64 sky,.int .i64 st]] w fun e w'=>e=.returned (.bool true)/\Below w.heap.size w w':=by
 have LV:=hid (fun v (a:Ab w v)=>pM SC LC v (hF.to a))
 by_cases hs:1<=side/\side<=32
 ·obtain⟨n,rfl⟩: ∃n:Nat,side=(n:Nat):=⟨side.toNat,by omega⟩
  have hn:1<=n/\n<=32:=by omega
  have NW:=hid (fun v (a:Ab w v)=>new_at n v hn (hF.to a))
  have LG:=hid (fun v=>sG pb pw pt ps lb cb lw cw lt ct ls cs sky st v)
  by_cases hl:65536<lb\/65536<lw\/65536<lt\/65536<ls
  ·rw[decide_eq_true hl]at LG
   exact pP (n:Nat) parts n pb lb cb pw lw cw pt lt ct ps ls cs sky st w LV NW LG
  ·rw[decide_eq_false hl]at LG
   by_cases hp2:1<=parts/\parts<=64
   ·obtain⟨P,rfl⟩: ∃P:Nat,parts=(P:Nat):=⟨parts.toNat,by omega⟩
    have hP:1<=P/\P<=64:=by omega
    have SP:=hid (fun v gb (g:GridOf n gb v)=>split_ok SC hn hP g)
    have n1:=n12 hn
    have LB:=hid (fun i=>len_part n P i hn hP)
    by_cases hf:fit4 n lb lw lt ls
    ·obtain⟨rfl,rfl,rfl,rfl⟩:=hf
     have hf:fit4 n (6*n*n) (6*n*n) (6*n*n) (12*n*n):=⟨rfl,rfl,rfl,rfl⟩
     have n0:0<6*n*n:=Nat.mul_pos (Nat.mul_pos (by decide) hn.1) hn.1
     have n3:12*n*n=2*(6*n*n):=by rw[<- Nat.mul_assoc,<- Nat.mul_assoc]
     refine shown_go (n:Nat) n (6*n*n) (12*n*n) P pb cb pw cw pt ct ps cs sky st B Wt T S (cO n P) (eO n P) (fun k=>shB (mkC n P k) B) (fun k=>shW (mkC n P k) Wt) (fun k=>shW (mkC n P k) T) (fun k=>shB (mkE n P k) S) w ⟨n0,by omega⟩ ⟨by omega,n1⟩ hP.2 ⟨iA _ _,by unfold eO;rw[iA];rfl,pG (by omega),by unfold eO;rw[pG (by omega)];exact eB_all hn.1⟩ LV NW LG SP (hid fun v gb gl p c k hk a g qps=> ?_) (hid fun k=>bnd_part hf IB IW IT IS) LB (hid fun k i hk hi=> ?_) (hid fun k hk=> ?_) (hid fun k i hk hi=> ?_) (hid fun k hk=> ?_) (hid fun k e hk he hno=> ?_) (hid IB) (hid IW) (hid IT) (hid IS)
     ·have h:=(LC n gb (p (k*3)) (lsP n P (k*3)).length (c (k*3)) (rd (lsP n P (k*3))) (p (k*3+1)) (lsP n P (k*3+1)).length (c (k*3+1)) (rd (lsP n P (k*3+1))) (p (k*3+2)) (lsP n P (k*3+2)).length (c (k*3+2)) (rd (lsP n P (k*3+2))) pb _ cb B pw _ cw Wt pt _ ct T ps _ cs S sky st v hn g ⟨h64.2.2.1,h64.2.2.2⟩ ⟨Nat.le_trans (LB.out _) (by omega),Nat.le_trans (LB.out _) (by omega),Nat.le_trans (LB.out _) (by omega)⟩ (by omega) (qps.2 _ (by omega)).2 (qps.2 _ (by omega)).2 (qps.2 _ (by omega)).2 (IB.below a) (IW.below a) (IT.below a) (IS.below a)).1 (fit_part hk hf)
      rw[mk_part,mke_part]at h
      exact h
     ·rw[ls_0]at hi ⊢
      have hi2:i<lo (6*n*n) P (k+1) - lo (6*n*n) P k:=by rw[<- lH];exact hi
      have u:=fX (N:=6*n*n) (P:=P) (k:=k+1) (by omega) (by omega)
      have mc:mkC n P k (cO n P k+i)=true:=mkC_iff.2 (.inl (mem_cl.2 (fW.2 ⟨by unfold cO;omega,by unfold cO;omega⟩)))
      refine⟨?_,by unfold cO;omega,shB_y mc,shW_y mc,shW_y mc⟩
      unfold clP cO
      exact row_rd hi2
     ·rw[ls_0,lH]
      have:=bU (6*n*n) P k
      unfold cO
      omega
     ·rw[ls_1]at hi ⊢
      have hi2:i<eB n (lo (6*n*n) P (k+1)) - eB n (lo (6*n*n) P k):=by rw[<- pH hn.1 hk];exact hi
      have u:=jZ hn.1 (fX (N:=6*n*n) (P:=P) (k:=k+1) (by omega) (by omega))
      have me:mkE n P k (eO n P k+i)=true:=qR.2 (by rw[gP hn.1 hk,List.mem_range'_1];unfold eO;omega)
      refine⟨?_,by unfold eO;omega,shB_y me⟩
      rw[gP hn.1 hk]
      unfold eO
      exact row_rd hi2
     ·rw[ls_1,pH hn.1 hk]
      have:=dW (n:=n) (bU (6*n*n) P k)
      unfold eO
      omega
     ·refine shB_n ?_
      rw[Bool.eq_false_iff]
      intro h
      have h:=qR.1 h
      rw[gP hn.1 hk,List.mem_range'_1]at h
      exact hno (by unfold eO;omega)
    ·refine oA (n:Nat) n P pb lb cb pw lw cw pt lt ct ps ls cs sky st w hP (by omega) LV NW LG SP (hid fun v gb gl p c a g qps=> ?_)
     exact(LC n gb (p 0) _ (c 0) _ (p 1) _ (c 1) _ (p 2) _ (c 2) _ pb lb cb B pw lw cw Wt pt lt ct T ps ls cs S sky st v hn g ⟨h64.2.2.1,h64.2.2.2⟩ ⟨Nat.le_trans (LB.out _) (by omega),Nat.le_trans (LB.out _) (by omega),Nat.le_trans (LB.out _) (by omega)⟩ (by omega) (qps.2 0 (by omega)).2 (qps.2 1 (by omega)).2 (qps.2 2 (by omega)).2 (IB.below a) (IW.below a) (IT.below a) (IS.below a)).2 (fun h=>hf h.1)
   ·exact sJ (n:Nat) parts n pb lb cb pw lw cw pt lt ct ps ls cs sky st w LV NW LG (hid fun v gb g=>(SC n gb parts v hn g h64.2.1).2 hp2)
 ·exact shown_no side parts pb lb cb pw lw cw pt lt ct ps ls cs sky st w LV (hid fun v _=>new_no side v hs)
end Spl
end
end Go.Proofs.YtjheiemgfibgpaaDoor
