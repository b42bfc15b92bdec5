/-
  Some of the texts of this proof, one behind the other.
-/
import Derived.Deep.QuietTactic
import Derived.Test.YtilfdnipahabbaaDoorUe10
set_option maxRecDepth 100000
set_option maxHeartbeats 400000000
namespace Go.Proofs.YtilfdnipahabbaaDoor
open _root_.Go.Proofs.Tryd
section
open Go.RowKit Tf Cu Go.Deep
attribute [local go_sem] aG
namespace Spl
theorem pX(p q:Option Addr)(n m c d:Nat)(w:World):(Instr.buildSlice 100 2 #[(0,.slice p n c),(1,.slice q m d)]).run prog w=.ok (.slice (some ⟨w.heap.size,0,none⟩) 2 2) (w.alloc (.cells #[.slice p n c,.slice q m d] 37)):=by
 simp[go_sem,Instr.buildSlice,run_underlying underlying100]
theorem bs_one(p:Option Addr)(n c:Nat)(w:World):(Instr.buildSlice 100 1 #[(0,.slice p n c)]).run prog w=.ok (.slice (some ⟨w.heap.size,0,none⟩) 1 1) (w.alloc (.cells #[.slice p n c] 37)):=by
 simp[go_sem,Instr.buildSlice,run_underlying underlying100]
theorem kD{P:Program}{a:Act}{o:Oper}{t:TypeId}{n:Nat}{ps:Array (Nat × Operand)}{vs:Array (Nat × Value)}{u:Value}{w w':World}(ho:o.op=.buildSlice t n ps)(hv:(ps.map fun(i,x)=>(i,a.eval x))=vs)(M:(Instr.buildSlice t n vs).run P w=.ok u w'):(execOp a.eval o).run P w=.ok (.value u) w':=by
 unfold execOp
 rw[ho]
 simp only[hv]
 exact Ch.run_val M
theorem fJ{P:Program}{a:Act}{o:Oper}{x y:Operand}{f:FuncId}{fn:Func}{ats:Array TypeId}{v u:Value}(ho:o.op=.call {callee:=.value (.func f),args:= #[x,y],argTypes:=ats})(hx:a.eval x=v)(hy:a.eval y=u)(hf:P.funcs[f]? =some fn)(hn:(fn.name== "runtime.NumGoroutine")=false)(hb:fn.body.isNone=false)(w:World):(execOp a.eval o).run P w=.ok (.enter f #[v,u]) w:=by
 have h1:fn.name≠ "runtime.NumGoroutine" :=by simpa using hn
 have ef:a.eval (.func f)=.func (.func f) #[] #[]:=rfl
 have e:execOp a.eval o=callFunc f #[v,u]:=by
  unfold execOp
  simp[ho,resolve,Deferred.ofValue,invoke,ef,hx,hy]
 obtain⟨c,hc⟩: ∃c,fn.body=some c:=by
  cases h:fn.body with
  | none=>simp[h]at hb
  | some c=>exact⟨c,rfl⟩
 rw[e]
 simp[callFunc,hf,h1,hc]
theorem oH{B g n:Nat}{t:TypeId}{F:Nat->Value}{w:World}(h:w.rowIs g t n F)(hB:B<=g)(hc:n<=maxLen):w.ownsRow B t 1 (.slice (some ⟨g,0,none⟩) n n) n ((List.range n).map F):=by
 obtain⟨c,hb,hs,hf⟩:=h
 refine⟨by simp,.inr ⟨g,n,c,rfl,hB,hb,Nat.le_refl _,hc,by omega,?_⟩⟩
 apply List.ext_getElem?
 intro i
 by_cases hi:i<n
 ·have:=hf i hi
  simp[hi,this]
 ·simp[hi,hs]
theorem oI{B g n:Nat}{f:Nat->Nat}{w:World}(h:w.rowIs g 66 n (fun i=>.float .f64 (f i)))(hB:B<=g)(hc:n<=maxLen):OwnG B (.slice (some ⟨g,0,none⟩) n n) ((List.range n).map f) w:=by
 have q:=oH h hB hc
 unfold OwnG
 simpa [Function.comp_def]using q
theorem oJ{B g n:Nat}{f:Nat->Int}{w:World}(h:w.rowIs g 2 n (fun i=>.int .i64 (f i)))(hB:B<=g)(hc:n<=maxLen):Sh.Own B (.slice (some ⟨g,0,none⟩) n n) ((List.range n).map f) w:=by
 have q:=oH h hB hc
 unfold Sh.Own
 simpa [Function.comp_def]using q
def mkS(n:Nat)(x:Ch.Ix):Value:=match x.1 with
 | some b=>.slice (some ⟨b,0,none⟩) n x.2
 | none=>.slice none 0 0
theorem bR{w:World}{g b:Nat}{x y z p q r:Value}(h:b≠g):((((((w.setCell ⟨g,0,none⟩ x).setCell ⟨g,1,none⟩ y).setCell ⟨g,2,none⟩ z).setCell ⟨g,3,none⟩ p).setCell ⟨g,4,none⟩ q).setCell ⟨g,5,none⟩ r).heap[b]? =w.heap[b]? :=by
 rw[aH h,aH h,aH h,aH h,aH h,aH h]
theorem mD(n:Nat)(x:Ch.Ix): ∃p m c,mkS n x=.slice p m c:=by
 obtain⟨x1,x2⟩:=x
 cases x1
 ·exact⟨_,_,_,rfl⟩
 ·exact⟨_,_,_,rfl⟩
def mkP(x:Ch.Ix):Value:=.pointer (x.1.map fun b=>⟨b,0,none⟩)
theorem local_0(gb:Nat)(pc:Option Addr)(lc cc:Nat)(pe:Option Addr)(le ce:Nat)(ph:Option Addr)(lh ch:Nat)(pb:Option Addr)(lb cb:Nat)(pw:Option Addr)(lw cw:Nat)(pt:Option Addr)(lt ct:Nat)(ps:Option Addr)(ls cs:Nat)(sky st:Int)(w:World)
  (CF:Hid (∀v,Ab w v->Calls prog 31 #[.pointer (some ⟨gb,0,none⟩),.agg #[.slice pb lb cb,.slice pw lw cw,.slice pt lt ct,.slice ps ls cs,.int .i64 sky,.int .i64 st]] v fun e w'=>e=.returned (.bool false)/\Below v.heap.size v w')):
  Calls prog 11 #[.pointer (some ⟨gb,0,none⟩),.agg #[.slice pc lc cc,.slice pe le ce,.slice ph lh ch],.agg #[.slice pb lb cb,.slice pw lw cw,.slice pt lt ct,.slice ps ls cs,.int .i64 sky,.int .i64 st]] w fun e w'=>e=.returned (.tuple #[.agg #[.slice none 0 0,.slice none 0 0,.slice none 0 0,.slice none 0 0,.int .i64 0,.int .i64 0],.int .i64 1])/\Below w.heap.size w w':=by
 have A0:Hid (Ab w (((w.alloc (.cells #[.slice pc lc cc,.slice pe le ce,.slice ph lh ch] 39)).alloc (.cells #[.slice pb lb cb,.slice pw lw cw,.slice pt lt ct,.slice ps ls cs,.int .i64 sky,.int .i64 st] 45)).alloc (.cells #[.slice none 0 0,.slice none 0 0,.slice none 0 0,.slice none 0 0,.int .i64 0,.int .i64 0] 45))):=Ab.trans (bl2 _ _ _) (bl1 _ _)
 have P0:Hid ((((w.alloc (.cells #[.slice pc lc cc,.slice pe le ce,.slice ph lh ch] 39)).alloc (.cells #[.slice pb lb cb,.slice pw lw cw,.slice pt lt ct,.slice ps ls cs,.int .i64 sky,.int .i64 st] 45)).alloc (.cells #[.slice none 0 0,.slice none 0 0,.slice none 0 0,.slice none 0 0,.int .i64 0,.int .i64 0] 45)).heap[w.heap.size]? =some (.cells #[.slice pc lc cc,.slice pe le ce,.slice ph lh ch] 39)):=Ab.heap (bl1 _ _) (heap_alloc2_old _ _ _)
 have S0:Hid ((((w.alloc (.cells #[.slice pc lc cc,.slice pe le ce,.slice ph lh ch] 39)).alloc (.cells #[.slice pb lb cb,.slice pw lw cw,.slice pt lt ct,.slice ps ls cs,.int .i64 sky,.int .i64 st] 45)).alloc (.cells #[.slice none 0 0,.slice none 0 0,.slice none 0 0,.slice none 0 0,.int .i64 0,.int .i64 0] 45)).heap[w.heap.size+1]? =some (.cells #[.slice pb lb cb,.slice pw lw cw,.slice pt lt ct,.slice ps ls cs,.int .i64 sky,.int .i64 st] 45)):=Ab.heap (bl1 _ _) (heap_alloc2_new _ _ _)
 have Q0:Hid ((((w.alloc (.cells #[.slice pc lc cc,.slice pe le ce,.slice ph lh ch] 39)).alloc (.cells #[.slice pb lb cb,.slice pw lw cw,.slice pt lt ct,.slice ps ls cs,.int .i64 sky,.int .i64 st] 45)).alloc (.cells #[.slice none 0 0,.slice none 0 0,.slice none 0 0,.slice none 0 0,.int .i64 0,.int .i64 0] 45)).heap[w.heap.size+1+1]? =some (.cells #[.slice none 0 0,.slice none 0 0,.slice none 0 0,.slice none 0 0,.int .i64 0,.int .i64 0] 45)):=by
  have h:=heap_alloc_new ((w.alloc (.cells #[.slice pc lc cc,.slice pe le ce,.slice ph lh ch] 39)).alloc (.cells #[.slice pb lb cb,.slice pw lw cw,.slice pt lt ct,.slice ps ls cs,.int .i64 sky,.int .i64 st] 45)) (.cells #[.slice none 0 0,.slice none 0 0,.slice none 0 0,.slice none 0 0,.int .i64 0,.int .i64 0] 45)
  have e:((w.alloc (.cells #[.slice pc lc cc,.slice pe le ce,.slice ph lh ch] 39)).alloc (.cells #[.slice pb lb cb,.slice pw lw cw,.slice pt lt ct,.slice ps ls cs,.int .i64 sky,.int .i64 st] 45)).heap.size=w.heap.size+1+1:=by rw[cH,cH]
  rw[e]at h
  exact h
 go_enter func11,ntmps11
 go_upto_region 1 with fail
 generalize hW:World.alloc (World.alloc (World.alloc w _) _) _=V0 at*
 obtain⟨gp,hgp⟩:=aC w.heap.size
 obtain⟨gs,hgs⟩:=aC (w.heap.size+1)
 obtain⟨gr,hgr⟩:=aC (w.heap.size+1+1)
 have HG:Hid (w.heap.size<=gr):=by show _<=_;omega
 rw[hgr]at Q0 ⊢
 rw[hgs]at S0 ⊢
 rw[hgp]at P0 ⊢
 clear hgp hgs hgr hW
 go_upto_region 3 with fail
 obtain⟨UU,E,hF1,hF2⟩:=cls V0
 have HU:=hid hF2
 have HU1:=hid hF1
 have HX:Hid (∀u,Ab w (E u)):=fun u=>Ab.trans A0.out (hF1 u)
 have p0: ∀u,(E u).cell? ⟨gp,0,none⟩=some (.slice pc lc cc):=fun u=>aA 0 ((hF1 u).heap P0.out)
 have p1: ∀u,(E u).cell? ⟨gp,1,none⟩=some (.slice pe le ce):=fun u=>aA 1 ((hF1 u).heap P0.out)
 have p2: ∀u,(E u).cell? ⟨gp,2,none⟩=some (.slice ph lh ch):=fun u=>aA 2 ((hF1 u).heap P0.out)
 have s0: ∀u,(E u).cell? ⟨gs,0,none⟩=some (.slice pb lb cb):=fun u=>aA 0 ((hF1 u).heap S0.out)
 have s1: ∀u,(E u).cell? ⟨gs,1,none⟩=some (.slice pw lw cw):=fun u=>aA 1 ((hF1 u).heap S0.out)
 have s2: ∀u,(E u).cell? ⟨gs,2,none⟩=some (.slice pt lt ct):=fun u=>aA 2 ((hF1 u).heap S0.out)
 have s3: ∀u,(E u).cell? ⟨gs,3,none⟩=some (.slice ps ls cs):=fun u=>aA 3 ((hF1 u).heap S0.out)
 have s4: ∀u,(E u).cell? ⟨gs,4,none⟩=some (.int .i64 sky):=fun u=>aA 4 ((hF1 u).heap S0.out)
 have s5: ∀u,(E u).cell? ⟨gs,5,none⟩=some (.int .i64 st):=fun u=>aA 5 ((hF1 u).heap S0.out)
 have DD0:=HU.out _ (Ab.refl V0).drew
 clear hF1 hF2
 refine aK E (by kernel_rfl) (by kernel_rfl) DD0 ?_
 repeat(go_big_quiet_step (first
  | (with_reducible rfl)
  | (go_at_call 31;exact aF HU HU1 (CF.out _ (HX.out _)))))
 refine wpQuiet_nil ?_
 intro z hwz
 obtain⟨u0,hu⟩:=hwz
 have AZ:Hid (Ab V0 z):=by rw[hu];exact HU1.out u0
 clear hu u0
 clear HU HU1 HX DD0 p0 p1 p2 s0 s1 s2 s3 s4 s5
 clear E UU
 have A1:Hid (Ab w z):=A0.out.trans AZ.out
 have Q1:=hid (AZ.out.heap Q0.out)
 have t0:=bJ Q1.out
 have f0:=cE Q1.out
 go_wp2_with fail
 (try simp only[Exit.inBlock,Exit.then])
 refine bodyPost_ret (v:=.tuple #[.agg #[.slice none 0 0,.slice none 0 0,.slice none 0 0,.slice none 0 0,.int .i64 0,.int .i64 0],.int .i64 1]) ?_ rfl ?_
 ·exact cA results11 _ _ gr _ _ (0,0) _ _ rfl rfl (row6 Q1.out) underlying45 rfl (by kernel_rfl)
 ·exact⟨rfl,(((((A1.out.setk HG.out _).setk HG.out _).setk HG.out _).setk HG.out _).setk HG.out _).setk HG.out _⟩
theorem local_1(gb:Nat)(pc:Option Addr)(lc cc:Nat)(pe:Option Addr)(le ce:Nat)(ph:Option Addr)(lh ch:Nat)(pb:Option Addr)(lb cb:Nat)(pw:Option Addr)(lw cw:Nat)(pt:Option Addr)(lt ct:Nat)(ps:Option Addr)(ls cs:Nat)(sky st:Int)(N:Nat)(w:World)
  (CF:Hid (∀v,Ab w v->Calls prog 31 #[.pointer (some ⟨gb,0,none⟩),.agg #[.slice pb lb cb,.slice pw lw cw,.slice pt lt ct,.slice ps ls cs,.int .i64 sky,.int .i64 st]] v fun e w'=>e=.returned (.bool true)/\Below v.heap.size v w'))
  (CC:Hid (∀v,Ab w v->Calls prog 14 #[.pointer (some ⟨gb,0,none⟩)] v fun e w'=>e=.returned (.int .i64 (N:Nat))/\Below v.heap.size v w'))
  (C1:Hid (∀v,Ab w v->Calls prog 32 #[.slice pc lc cc,.int .i64 (N:Nat)] v fun e w'=>e=.returned (.bool false)/\Below v.heap.size v w')):
  Calls prog 11 #[.pointer (some ⟨gb,0,none⟩),.agg #[.slice pc lc cc,.slice pe le ce,.slice ph lh ch],.agg #[.slice pb lb cb,.slice pw lw cw,.slice pt lt ct,.slice ps ls cs,.int .i64 sky,.int .i64 st]] w fun e w'=>e=.returned (.tuple #[.agg #[.slice none 0 0,.slice none 0 0,.slice none 0 0,.slice none 0 0,.int .i64 0,.int .i64 0],.int .i64 1])/\Below w.heap.size w w':=by
 have A0:Hid (Ab w (((w.alloc (.cells #[.slice pc lc cc,.slice pe le ce,.slice ph lh ch] 39)).alloc (.cells #[.slice pb lb cb,.slice pw lw cw,.slice pt lt ct,.slice ps ls cs,.int .i64 sky,.int .i64 st] 45)).alloc (.cells #[.slice none 0 0,.slice none 0 0,.slice none 0 0,.slice none 0 0,.int .i64 0,.int .i64 0] 45))):=Ab.trans (bl2 _ _ _) (bl1 _ _)
 have P0:Hid ((((w.alloc (.cells #[.slice pc lc cc,.slice pe le ce,.slice ph lh ch] 39)).alloc (.cells #[.slice pb lb cb,.slice pw lw cw,.slice pt lt ct,.slice ps ls cs,.int .i64 sky,.int .i64 st] 45)).alloc (.cells #[.slice none 0 0,.slice none 0 0,.slice none 0 0,.slice none 0 0,.int .i64 0,.int .i64 0] 45)).heap[w.heap.size]? =some (.cells #[.slice pc lc cc,.slice pe le ce,.slice ph lh ch] 39)):=Ab.heap (bl1 _ _) (heap_alloc2_old _ _ _)
 have S0:Hid ((((w.alloc (.cells #[.slice pc lc cc,.slice pe le ce,.slice ph lh ch] 39)).alloc (.cells #[.slice pb lb cb,.slice pw lw cw,.slice pt lt ct,.slice ps ls cs,.int .i64 sky,.int .i64 st] 45)).alloc (.cells #[.slice none 0 0,.slice none 0 0,.slice none 0 0,.slice none 0 0,.int .i64 0,.int .i64 0] 45)).heap[w.heap.size+1]? =some (.cells #[.slice pb lb cb,.slice pw lw cw,.slice pt lt ct,.slice ps ls cs,.int .i64 sky,.int .i64 st] 45)):=Ab.heap (bl1 _ _) (heap_alloc2_new _ _ _)
 have Q0:Hid ((((w.alloc (.cells #[.slice pc lc cc,.slice pe le ce,.slice ph lh ch] 39)).alloc (.cells #[.slice pb lb cb,.slice pw lw cw,.slice pt lt ct,.slice ps ls cs,.int .i64 sky,.int .i64 st] 45)).alloc (.cells #[.slice none 0 0,.slice none 0 0,.slice none 0 0,.slice none 0 0,.int .i64 0,.int .i64 0] 45)).heap[w.heap.size+1+1]? =some (.cells #[.slice none 0 0,.slice none 0 0,.slice none 0 0,.slice none 0 0,.int .i64 0,.int .i64 0] 45)):=by
  have h:=heap_alloc_new ((w.alloc (.cells #[.slice pc lc cc,.slice pe le ce,.slice ph lh ch] 39)).alloc (.cells #[.slice pb lb cb,.slice pw lw cw,.slice pt lt ct,.slice ps ls cs,.int .i64 sky,.int .i64 st] 45)) (.cells #[.slice none 0 0,.slice none 0 0,.slice none 0 0,.slice none 0 0,.int .i64 0,.int .i64 0] 45)
  have e:((w.alloc (.cells #[.slice pc lc cc,.slice pe le ce,.slice ph lh ch] 39)).alloc (.cells #[.slice pb lb cb,.slice pw lw cw,.slice pt lt ct,.slice ps ls cs,.int .i64 sky,.int .i64 st] 45)).heap.size=w.heap.size+1+1:=by rw[cH,cH]
  rw[e]at h
  exact h
 go_enter func11,ntmps11
 go_upto_region 1 with fail
 generalize hW:World.alloc (World.alloc (World.alloc w _) _) _=V0 at*
 obtain⟨gp,hgp⟩:=aC w.heap.size
 obtain⟨gs,hgs⟩:=aC (w.heap.size+1)
 obtain⟨gr,hgr⟩:=aC (w.heap.size+1+1)
 have HG:Hid (w.heap.size<=gr):=by show _<=_;omega
 rw[hgr]at Q0 ⊢
 rw[hgs]at S0 ⊢
 rw[hgp]at P0 ⊢
 clear hgp hgs hgr hW
 go_upto_region 3 with fail
 obtain⟨UU,E,hF1,hF2⟩:=cls V0
 have HU:=hid hF2
 have HU1:=hid hF1
 have HX:Hid (∀u,Ab w (E u)):=fun u=>Ab.trans A0.out (hF1 u)
 have p0: ∀u,(E u).cell? ⟨gp,0,none⟩=some (.slice pc lc cc):=fun u=>aA 0 ((hF1 u).heap P0.out)
 have p1: ∀u,(E u).cell? ⟨gp,1,none⟩=some (.slice pe le ce):=fun u=>aA 1 ((hF1 u).heap P0.out)
 have p2: ∀u,(E u).cell? ⟨gp,2,none⟩=some (.slice ph lh ch):=fun u=>aA 2 ((hF1 u).heap P0.out)
 have s0: ∀u,(E u).cell? ⟨gs,0,none⟩=some (.slice pb lb cb):=fun u=>aA 0 ((hF1 u).heap S0.out)
 have s1: ∀u,(E u).cell? ⟨gs,1,none⟩=some (.slice pw lw cw):=fun u=>aA 1 ((hF1 u).heap S0.out)
 have s2: ∀u,(E u).cell? ⟨gs,2,none⟩=some (.slice pt lt ct):=fun u=>aA 2 ((hF1 u).heap S0.out)
 have s3: ∀u,(E u).cell? ⟨gs,3,none⟩=some (.slice ps ls cs):=fun u=>aA 3 ((hF1 u).heap S0.out)
 have s4: ∀u,(E u).cell? ⟨gs,4,none⟩=some (.int .i64 sky):=fun u=>aA 4 ((hF1 u).heap S0.out)
 have s5: ∀u,(E u).cell? ⟨gs,5,none⟩=some (.int .i64 st):=fun u=>aA 5 ((hF1 u).heap S0.out)
 have DD0:=HU.out _ (Ab.refl V0).drew
 clear hF1 hF2
 refine aK E (by kernel_rfl) (by kernel_rfl) DD0 ?_
 repeat(go_big_quiet_step (first
  | (with_reducible rfl)
  | (go_at_call 31;exact aF HU HU1 (CF.out _ (HX.out _)))
  | (go_at_call 14;exact aF HU HU1 (CC.out _ (HX.out _)))
  | (go_at_call_of 32 lc;exact aF HU HU1 (C1.out _ (HX.out _)))))
 refine wpQuiet_nil ?_
 intro z hwz
 obtain⟨u0,hu⟩:=hwz
 have AZ:Hid (Ab V0 z):=by rw[hu];exact HU1.out u0
 clear hu u0
 clear HU HU1 HX DD0 p0 p1 p2 s0 s1 s2 s3 s4 s5
 clear E UU
 have A1:Hid (Ab w z):=A0.out.trans AZ.out
 have Q1:=hid (AZ.out.heap Q0.out)
 have t0:=bJ Q1.out
 have f0:=cE Q1.out
 go_wp2_with fail
 (try simp only[Exit.inBlock,Exit.then])
 refine bodyPost_ret (v:=.tuple #[.agg #[.slice none 0 0,.slice none 0 0,.slice none 0 0,.slice none 0 0,.int .i64 0,.int .i64 0],.int .i64 1]) ?_ rfl ?_
 ·exact cA results11 _ _ gr _ _ (0,0) _ _ rfl rfl (row6 Q1.out) underlying45 rfl (by kernel_rfl)
 ·exact⟨rfl,(((((A1.out.setk HG.out _).setk HG.out _).setk HG.out _).setk HG.out _).setk HG.out _).setk HG.out _⟩
theorem local_2(gb:Nat)(pc:Option Addr)(lc cc:Nat)(pe:Option Addr)(le ce:Nat)(ph:Option Addr)(lh ch:Nat)(pb:Option Addr)(lb cb:Nat)(pw:Option Addr)(lw cw:Nat)(pt:Option Addr)(lt ct:Nat)(ps:Option Addr)(ls cs:Nat)(sky st:Int)(N:Nat)(w:World)
  (CF:Hid (∀v,Ab w v->Calls prog 31 #[.pointer (some ⟨gb,0,none⟩),.agg #[.slice pb lb cb,.slice pw lw cw,.slice pt lt ct,.slice ps ls cs,.int .i64 sky,.int .i64 st]] v fun e w'=>e=.returned (.bool true)/\Below v.heap.size v w'))
  (CC:Hid (∀v,Ab w v->Calls prog 14 #[.pointer (some ⟨gb,0,none⟩)] v fun e w'=>e=.returned (.int .i64 (N:Nat))/\Below v.heap.size v w'))
  (C1:Hid (∀v,Ab w v->Calls prog 32 #[.slice pc lc cc,.int .i64 (N:Nat)] v fun e w'=>e=.returned (.bool true)/\Below v.heap.size v w'))
  (C2:Hid (∀v,Ab w v->Calls prog 32 #[.slice ph lh ch,.int .i64 (N:Nat)] v fun e w'=>e=.returned (.bool false)/\Below v.heap.size v w')):
  Calls prog 11 #[.pointer (some ⟨gb,0,none⟩),.agg #[.slice pc lc cc,.slice pe le ce,.slice ph lh ch],.agg #[.slice pb lb cb,.slice pw lw cw,.slice pt lt ct,.slice ps ls cs,.int .i64 sky,.int .i64 st]] w fun e w'=>e=.returned (.tuple #[.agg #[.slice none 0 0,.slice none 0 0,.slice none 0 0,.slice none 0 0,.int .i64 0,.int .i64 0],.int .i64 1])/\Below w.heap.size w w':=by
 have A0:Hid (Ab w (((w.alloc (.cells #[.slice pc lc cc,.slice pe le ce,.slice ph lh ch] 39)).alloc (.cells #[.slice pb lb cb,.slice pw lw cw,.slice pt lt ct,.slice ps ls cs,.int .i64 sky,.int .i64 st] 45)).alloc (.cells #[.slice none 0 0,.slice none 0 0,.slice none 0 0,.slice none 0 0,.int .i64 0,.int .i64 0] 45))):=Ab.trans (bl2 _ _ _) (bl1 _ _)
 have P0:Hid ((((w.alloc (.cells #[.slice pc lc cc,.slice pe le ce,.slice ph lh ch] 39)).alloc (.cells #[.slice pb lb cb,.slice pw lw cw,.slice pt lt ct,.slice ps ls cs,.int .i64 sky,.int .i64 st] 45)).alloc (.cells #[.slice none 0 0,.slice none 0 0,.slice none 0 0,.slice none 0 0,.int .i64 0,.int .i64 0] 45)).heap[w.heap.size]? =some (.cells #[.slice pc lc cc,.slice pe le ce,.slice ph lh ch] 39)):=Ab.heap (bl1 _ _) (heap_alloc2_old _ _ _)
 have S0:Hid ((((w.alloc (.cells #[.slice pc lc cc,.slice pe le ce,.slice ph lh ch] 39)).alloc (.cells #[.slice pb lb cb,.slice pw lw cw,.slice pt lt ct,.slice ps ls cs,.int .i64 sky,.int .i64 st] 45)).alloc (.cells #[.slice none 0 0,.slice none 0 0,.slice none 0 0,.slice none 0 0,.int .i64 0,.int .i64 0] 45)).heap[w.heap.size+1]? =some (.cells #[.slice pb lb cb,.slice pw lw cw,.slice pt lt ct,.slice ps ls cs,.int .i64 sky,.int .i64 st] 45)):=Ab.heap (bl1 _ _) (heap_alloc2_new _ _ _)
 have Q0:Hid ((((w.alloc (.cells #[.slice pc lc cc,.slice pe le ce,.slice ph lh ch] 39)).alloc (.cells #[.slice pb lb cb,.slice pw lw cw,.slice pt lt ct,.slice ps ls cs,.int .i64 sky,.int .i64 st] 45)).alloc (.cells #[.slice none 0 0,.slice none 0 0,.slice none 0 0,.slice none 0 0,.int .i64 0,.int .i64 0] 45)).heap[w.heap.size+1+1]? =some (.cells #[.slice none 0 0,.slice none 0 0,.slice none 0 0,.slice none 0 0,.int .i64 0,.int .i64 0] 45)):=by
  have h:=heap_alloc_new ((w.alloc (.cells #[.slice pc lc cc,.slice pe le ce,.slice ph lh ch] 39)).alloc (.cells #[.slice pb lb cb,.slice pw lw cw,.slice pt lt ct,.slice ps ls cs,.int .i64 sky,.int .i64 st] 45)) (.cells #[.slice none 0 0,.slice none 0 0,.slice none 0 0,.slice none 0 0,.int .i64 0,.int .i64 0] 45)
  have e:((w.alloc (.cells #[.slice pc lc cc,.slice pe le ce,.slice ph lh ch] 39)).alloc (.cells #[.slice pb lb cb,.slice pw lw cw,.slice pt lt ct,.slice ps ls cs,.int .i64 sky,.int .i64 st] 45)).heap.size=w.heap.size+1+1:=by rw[cH,cH]
  rw[e]at h
  exact h
 go_enter func11,ntmps11
 go_upto_region 1 with fail
 generalize hW:World.alloc (World.alloc (World.alloc w _) _) _=V0 at*
 obtain⟨gp,hgp⟩:=aC w.heap.size
 obtain⟨gs,hgs⟩:=aC (w.heap.size+1)
 obtain⟨gr,hgr⟩:=aC (w.heap.size+1+1)
 have HG:Hid (w.heap.size<=gr):=by show _<=_;omega
 rw[hgr]at Q0 ⊢
 rw[hgs]at S0 ⊢
 rw[hgp]at P0 ⊢
 clear hgp hgs hgr hW
 go_upto_region 3 with fail
 obtain⟨UU,E,hF1,hF2⟩:=cls V0
 have HU:=hid hF2
 have HU1:=hid hF1
 have HX:Hid (∀u,Ab w (E u)):=fun u=>Ab.trans A0.out (hF1 u)
 have p0: ∀u,(E u).cell? ⟨gp,0,none⟩=some (.slice pc lc cc):=fun u=>aA 0 ((hF1 u).heap P0.out)
 have p1: ∀u,(E u).cell? ⟨gp,1,none⟩=some (.slice pe le ce):=fun u=>aA 1 ((hF1 u).heap P0.out)
 have p2: ∀u,(E u).cell? ⟨gp,2,none⟩=some (.slice ph lh ch):=fun u=>aA 2 ((hF1 u).heap P0.out)
 have s0: ∀u,(E u).cell? ⟨gs,0,none⟩=some (.slice pb lb cb):=fun u=>aA 0 ((hF1 u).heap S0.out)
 have s1: ∀u,(E u).cell? ⟨gs,1,none⟩=some (.slice pw lw cw):=fun u=>aA 1 ((hF1 u).heap S0.out)
 have s2: ∀u,(E u).cell? ⟨gs,2,none⟩=some (.slice pt lt ct):=fun u=>aA 2 ((hF1 u).heap S0.out)
 have s3: ∀u,(E u).cell? ⟨gs,3,none⟩=some (.slice ps ls cs):=fun u=>aA 3 ((hF1 u).heap S0.out)
 have s4: ∀u,(E u).cell? ⟨gs,4,none⟩=some (.int .i64 sky):=fun u=>aA 4 ((hF1 u).heap S0.out)
 have s5: ∀u,(E u).cell? ⟨gs,5,none⟩=some (.int .i64 st):=fun u=>aA 5 ((hF1 u).heap S0.out)
 have DD0:=HU.out _ (Ab.refl V0).drew
 clear hF1 hF2
 refine aK E (by kernel_rfl) (by kernel_rfl) DD0 ?_
 repeat(go_big_quiet_step (first
  | (with_reducible rfl)
  | (go_at_call 31;exact aF HU HU1 (CF.out _ (HX.out _)))
  | (go_at_call 14;exact aF HU HU1 (CC.out _ (HX.out _)))
  | (go_at_call_of 32 lc;exact aF HU HU1 (C1.out _ (HX.out _)))
  | (go_at_call_of 32 lh;exact aF HU HU1 (C2.out _ (HX.out _)))))
 refine wpQuiet_nil ?_
 intro z hwz
 obtain⟨u0,hu⟩:=hwz
 have AZ:Hid (Ab V0 z):=by rw[hu];exact HU1.out u0
 clear hu u0
 clear HU HU1 HX DD0 p0 p1 p2 s0 s1 s2 s3 s4 s5
 clear E UU
 have A1:Hid (Ab w z):=A0.out.trans AZ.out
 have Q1:=hid (AZ.out.heap Q0.out)
 have t0:=bJ Q1.out
 have f0:=cE Q1.out
 go_wp2_with fail
 (try simp only[Exit.inBlock,Exit.then])
 refine bodyPost_ret (v:=.tuple #[.agg #[.slice none 0 0,.slice none 0 0,.slice none 0 0,.slice none 0 0,.int .i64 0,.int .i64 0],.int .i64 1]) ?_ rfl ?_
 ·exact cA results11 _ _ gr _ _ (0,0) _ _ rfl rfl (row6 Q1.out) underlying45 rfl (by kernel_rfl)
 ·exact⟨rfl,(((((A1.out.setk HG.out _).setk HG.out _).setk HG.out _).setk HG.out _).setk HG.out _).setk HG.out _⟩
theorem local_3(gb:Nat)(pc:Option Addr)(lc cc:Nat)(pe:Option Addr)(le ce:Nat)(ph:Option Addr)(lh ch:Nat)(pb:Option Addr)(lb cb:Nat)(pw:Option Addr)(lw cw:Nat)(pt:Option Addr)(lt ct:Nat)(ps:Option Addr)(ls cs:Nat)(sky st:Int)(N:Nat)(M:Nat)(w:World)
  (CF:Hid (∀v,Ab w v->Calls prog 31 #[.pointer (some ⟨gb,0,none⟩),.agg #[.slice pb lb cb,.slice pw lw cw,.slice pt lt ct,.slice ps ls cs,.int .i64 sky,.int .i64 st]] v fun e w'=>e=.returned (.bool true)/\Below v.heap.size v w'))
  (CC:Hid (∀v,Ab w v->Calls prog 14 #[.pointer (some ⟨gb,0,none⟩)] v fun e w'=>e=.returned (.int .i64 (N:Nat))/\Below v.heap.size v w'))
  (C1:Hid (∀v,Ab w v->Calls prog 32 #[.slice pc lc cc,.int .i64 (N:Nat)] v fun e w'=>e=.returned (.bool true)/\Below v.heap.size v w'))
  (C2:Hid (∀v,Ab w v->Calls prog 32 #[.slice ph lh ch,.int .i64 (N:Nat)] v fun e w'=>e=.returned (.bool true)/\Below v.heap.size v w'))
  (CE:Hid (∀v,Ab w v->Calls prog 15 #[.pointer (some ⟨gb,0,none⟩)] v fun e w'=>e=.returned (.int .i64 (M:Nat))/\Below v.heap.size v w'))
  (C3:Hid (∀v,Ab w v->Calls prog 32 #[.slice pe le ce,.int .i64 (M:Nat)] v fun e w'=>e=.returned (.bool false)/\Below v.heap.size v w')):
  Calls prog 11 #[.pointer (some ⟨gb,0,none⟩),.agg #[.slice pc lc cc,.slice pe le ce,.slice ph lh ch],.agg #[.slice pb lb cb,.slice pw lw cw,.slice pt lt ct,.slice ps ls cs,.int .i64 sky,.int .i64 st]] w fun e w'=>e=.returned (.tuple #[.agg #[.slice none 0 0,.slice none 0 0,.slice none 0 0,.slice none 0 0,.int .i64 0,.int .i64 0],.int .i64 1])/\Below w.heap.size w w':=by
 have A0:Hid (Ab w (((w.alloc (.cells #[.slice pc lc cc,.slice pe le ce,.slice ph lh ch] 39)).alloc (.cells #[.slice pb lb cb,.slice pw lw cw,.slice pt lt ct,.slice ps ls cs,.int .i64 sky,.int .i64 st] 45)).alloc (.cells #[.slice none 0 0,.slice none 0 0,.slice none 0 0,.slice none 0 0,.int .i64 0,.int .i64 0] 45))):=Ab.trans (bl2 _ _ _) (bl1 _ _)
 have P0:Hid ((((w.alloc (.cells #[.slice pc lc cc,.slice pe le ce,.slice ph lh ch] 39)).alloc (.cells #[.slice pb lb cb,.slice pw lw cw,.slice pt lt ct,.slice ps ls cs,.int .i64 sky,.int .i64 st] 45)).alloc (.cells #[.slice none 0 0,.slice none 0 0,.slice none 0 0,.slice none 0 0,.int .i64 0,.int .i64 0] 45)).heap[w.heap.size]? =some (.cells #[.slice pc lc cc,.slice pe le ce,.slice ph lh ch] 39)):=Ab.heap (bl1 _ _) (heap_alloc2_old _ _ _)
 have S0:Hid ((((w.alloc (.cells #[.slice pc lc cc,.slice pe le ce,.slice ph lh ch] 39)).alloc (.cells #[.slice pb lb cb,.slice pw lw cw,.slice pt lt ct,.slice ps ls cs,.int .i64 sky,.int .i64 st] 45)).alloc (.cells #[.slice none 0 0,.slice none 0 0,.slice none 0 0,.slice none 0 0,.int .i64 0,.int .i64 0] 45)).heap[w.heap.size+1]? =some (.cells #[.slice pb lb cb,.slice pw lw cw,.slice pt lt ct,.slice ps ls cs,.int .i64 sky,.int .i64 st] 45)):=Ab.heap (bl1 _ _) (heap_alloc2_new _ _ _)
 have Q0:Hid ((((w.alloc (.cells #[.slice pc lc cc,.slice pe le ce,.slice ph lh ch] 39)).alloc (.cells #[.slice pb lb cb,.slice pw lw cw,.slice pt lt ct,.slice ps ls cs,.int .i64 sky,.int .i64 st] 45)).alloc (.cells #[.slice none 0 0,.slice none 0 0,.slice none 0 0,.slice none 0 0,.int .i64 0,.int .i64 0] 45)).heap[w.heap.size+1+1]? =some (.cells #[.slice none 0 0,.slice none 0 0,.slice none 0 0,.slice none 0 0,.int .i64 0,.int .i64 0] 45)):=by
  have h:=heap_alloc_new ((w.alloc (.cells #[.slice pc lc cc,.slice pe le ce,.slice ph lh ch] 39)).alloc (.cells #[.slice pb lb cb,.slice pw lw cw,.slice pt lt ct,.slice ps ls cs,.int .i64 sky,.int .i64 st] 45)) (.cells #[.slice none 0 0,.slice none 0 0,.slice none 0 0,.slice none 0 0,.int .i64 0,.int .i64 0] 45)
  have e:((w.alloc (.cells #[.slice pc lc cc,.slice pe le ce,.slice ph lh ch] 39)).alloc (.cells #[.slice pb lb cb,.slice pw lw cw,.slice pt lt ct,.slice ps ls cs,.int .i64 sky,.int .i64 st] 45)).heap.size=w.heap.size+1+1:=by rw[cH,cH]
  rw[e]at h
  exact h
 go_enter func11,ntmps11
 go_upto_region 1 with fail
 generalize hW:World.alloc (World.alloc (World.alloc w _) _) _=V0 at*
 obtain⟨gp,hgp⟩:=aC w.heap.size
 obtain⟨gs,hgs⟩:=aC (w.heap.size+1)
 obtain⟨gr,hgr⟩:=aC (w.heap.size+1+1)
 have HG:Hid (w.heap.size<=gr):=by show _<=_;omega
 rw[hgr]at Q0 ⊢
 rw[hgs]at S0 ⊢
 rw[hgp]at P0 ⊢
 clear hgp hgs hgr hW
 go_upto_region 3 with fail
 obtain⟨UU,E,hF1,hF2⟩:=cls V0
 have HU:=hid hF2
 have HU1:=hid hF1
 have HX:Hid (∀u,Ab w (E u)):=fun u=>Ab.trans A0.out (hF1 u)
 have p0: ∀u,(E u).cell? ⟨gp,0,none⟩=some (.slice pc lc cc):=fun u=>aA 0 ((hF1 u).heap P0.out)
 have p1: ∀u,(E u).cell? ⟨gp,1,none⟩=some (.slice pe le ce):=fun u=>aA 1 ((hF1 u).heap P0.out)
 have p2: ∀u,(E u).cell? ⟨gp,2,none⟩=some (.slice ph lh ch):=fun u=>aA 2 ((hF1 u).heap P0.out)
 have s0: ∀u,(E u).cell? ⟨gs,0,none⟩=some (.slice pb lb cb):=fun u=>aA 0 ((hF1 u).heap S0.out)
 have s1: ∀u,(E u).cell? ⟨gs,1,none⟩=some (.slice pw lw cw):=fun u=>aA 1 ((hF1 u).heap S0.out)
 have s2: ∀u,(E u).cell? ⟨gs,2,none⟩=some (.slice pt lt ct):=fun u=>aA 2 ((hF1 u).heap S0.out)
 have s3: ∀u,(E u).cell? ⟨gs,3,none⟩=some (.slice ps ls cs):=fun u=>aA 3 ((hF1 u).heap S0.out)
 have s4: ∀u,(E u).cell? ⟨gs,4,none⟩=some (.int .i64 sky):=fun u=>aA 4 ((hF1 u).heap S0.out)
 have s5: ∀u,(E u).cell? ⟨gs,5,none⟩=some (.int .i64 st):=fun u=>aA 5 ((hF1 u).heap S0.out)
 have DD0:=HU.out _ (Ab.refl V0).drew
 clear hF1 hF2
 refine aK E (by kernel_rfl) (by kernel_rfl) DD0 ?_
 repeat(go_big_quiet_step (first
  | (with_reducible rfl)
  | (go_at_call 31;exact aF HU HU1 (CF.out _ (HX.out _)))
  | (go_at_call 14;exact aF HU HU1 (CC.out _ (HX.out _)))
  | (go_at_call_of 32 lc;exact aF HU HU1 (C1.out _ (HX.out _)))
  | (go_at_call_of 32 lh;exact aF HU HU1 (C2.out _ (HX.out _)))
  | (go_at_call 15;exact aF HU HU1 (CE.out _ (HX.out _)))
  | (go_at_call_of 32 le;exact aF HU HU1 (C3.out _ (HX.out _)))))
 refine wpQuiet_nil ?_
 intro z hwz
 obtain⟨u0,hu⟩:=hwz
 have AZ:Hid (Ab V0 z):=by rw[hu];exact HU1.out u0
 clear hu u0
 clear HU HU1 HX DD0 p0 p1 p2 s0 s1 s2 s3 s4 s5
 clear E UU
 have A1:Hid (Ab w z):=A0.out.trans AZ.out
 have Q1:=hid (AZ.out.heap Q0.out)
 have t0:=bJ Q1.out
 have f0:=cE Q1.out
 go_wp2_with fail
 (try simp only[Exit.inBlock,Exit.then])
 refine bodyPost_ret (v:=.tuple #[.agg #[.slice none 0 0,.slice none 0 0,.slice none 0 0,.slice none 0 0,.int .i64 0,.int .i64 0],.int .i64 1]) ?_ rfl ?_
 ·exact cA results11 _ _ gr _ _ (0,0) _ _ rfl rfl (row6 Q1.out) underlying45 rfl (by kernel_rfl)
 ·exact⟨rfl,(((((A1.out.setk HG.out _).setk HG.out _).setk HG.out _).setk HG.out _).setk HG.out _).setk HG.out _⟩
end Spl
end
end Go.Proofs.YtilfdnipahabbaaDoor
