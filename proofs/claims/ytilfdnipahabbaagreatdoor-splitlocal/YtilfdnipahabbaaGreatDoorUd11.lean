/-
  Some of the texts of this proof, one behind the other.
-/
import Derived.Deep.QuietTactic
import Derived.BigFrame
import Derived.Test.YtilfdnipahabbaaGreatDoorUd10
set_option maxRecDepth 100000
set_option maxHeartbeats 400000000
namespace Go.Proofs.YtilfdnipahabbaaGreatDoor
open _root_.Go.Proofs.Tryz
section
open Go.RowKit Tf Cu Go.Deep
attribute [local go_sem] aD
namespace Spl
theorem qT(p q:Option Addr)(n m c d:Nat)(w:World):(Instr.buildSlice 83 2 #[(0,.slice p n c),(1,.slice q m d)]).run prog w=.ok (.slice (some ⟨w.heap.size,0,none⟩) 2 2) (w.alloc (.cells #[.slice p n c,.slice q m d] 22)):=by
 simp[go_sem,Instr.buildSlice,run_underlying underlying83]
theorem bs_one(p:Option Addr)(n c:Nat)(w:World):(Instr.buildSlice 83 1 #[(0,.slice p n c)]).run prog w=.ok (.slice (some ⟨w.heap.size,0,none⟩) 1 1) (w.alloc (.cells #[.slice p n c] 22)):=by
 simp[go_sem,Instr.buildSlice,run_underlying underlying83]
theorem mU{P:Program}{a:Act}{o:Oper}{t:TypeId}{n:Nat}{ps:Array (Nat × Operand)}{vs:Array (Nat × Value)}{u:Value}{w w':World}(ho:o.op=.buildSlice t n ps)(hv:(ps.map fun(i,x)=>(i,a.eval x))=vs)(M:(Instr.buildSlice t n vs).run P w=.ok u w'):(execOp a.eval o).run P w=.ok (.value u) w':=by
 unfold execOp
 rw[ho]
 simp only[hv]
 exact Ch.run_val M
theorem fG{P:Program}{a:Act}{o:Oper}{x y:Operand}{f:FuncId}{fn:Func}{ats:Array TypeId}{v u:Value}(ho:o.op=.call {callee:=.value (.func f),args:= #[x,y],argTypes:=ats})(hx:a.eval x=v)(hy:a.eval y=u)(hf:P.funcs[f]? =some fn)(hn:(fn.name== "runtime.NumGoroutine")=false)(hb:fn.body.isNone=false)(w:World):(execOp a.eval o).run P w=.ok (.enter f #[v,u]) w:=by
 have h1:fn.name≠ "runtime.NumGoroutine" :=by simpa using hn
 have ef:a.eval (.func f)=.func (.func f) #[] #[]:=rfl
 have e:execOp a.eval o=callFunc f #[v,u]:=by
  unfold execOp
  simp[ho,resolve,Deferred.ofValue,invoke,ef,hx,hy]
 obtain⟨c,hc⟩: ∃c,fn.body=some c:=by
  cases h:fn.body with
  | none=>simp[h]at hb
  | some c=>exact⟨c,rfl⟩
 rw[e]
 simp[callFunc,hf,h1,hc]
theorem oZ{B g n:Nat}{t:TypeId}{F:Nat->Value}{w:World}(h:w.rowIs g t n F)(hB:B<=g)(hc:n<=maxLen):w.ownsRow B t 1 (.slice (some ⟨g,0,none⟩) n n) n ((List.range n).map F):=by
 obtain⟨c,hb,hs,hf⟩:=h
 refine⟨by simp,.inr ⟨g,n,c,rfl,hB,hb,Nat.le_refl _,hc,by omega,?_⟩⟩
 apply List.ext_getElem?
 intro i
 by_cases hi:i<n
 ·have:=hf i hi
  simp[hi,this]
 ·simp[hi,hs]
theorem pE{B g n:Nat}{f:Nat->Nat}{w:World}(h:w.rowIs g 53 n (fun i=>.float .f64 (f i)))(hB:B<=g)(hc:n<=maxLen):OwnG B (.slice (some ⟨g,0,none⟩) n n) ((List.range n).map f) w:=by
 have q:=oZ h hB hc
 unfold OwnG
 simpa [Function.comp_def]using q
theorem pG{B g n:Nat}{f:Nat->Int}{w:World}(h:w.rowIs g 2 n (fun i=>.int .i64 (f i)))(hB:B<=g)(hc:n<=maxLen):Sh.Own B (.slice (some ⟨g,0,none⟩) n n) ((List.range n).map f) w:=by
 have q:=oZ h hB hc
 unfold Sh.Own
 simpa [Function.comp_def]using q
def mkS(n:Nat)(x:Ch.Ix):Value:=match x.1 with
 | some b=>.slice (some ⟨b,0,none⟩) n x.2
 | none=>.slice none 0 0
theorem aY{w:World}{g b:Nat}{x y z p q r:Value}(h:b≠g):((((((w.setCell ⟨g,0,none⟩ x).setCell ⟨g,1,none⟩ y).setCell ⟨g,2,none⟩ z).setCell ⟨g,3,none⟩ p).setCell ⟨g,4,none⟩ q).setCell ⟨g,5,none⟩ r).heap[b]? =w.heap[b]? :=by
 rw[aH h,aH h,aH h,aH h,aH h,aH h]
theorem eU(n:Nat)(x:Ch.Ix): ∃p m c,mkS n x=.slice p m c:=by
 obtain⟨x1,x2⟩:=x
 cases x1
 ·exact⟨_,_,_,rfl⟩
 ·exact⟨_,_,_,rfl⟩
def mkP(x:Ch.Ix):Value:=.pointer (x.1.map fun b=>⟨b,0,none⟩)
theorem tP(p s:Value)(w:World)(hp: ∃v1 v2 v3,p=.agg #[v1,v2,v3])(hs: ∃v1 v2 v3 v4 v5 v6,s=.agg #[v1,v2,v3,v4,v5,v6]):Calls prog 5 #[.pointer none,p,s] w fun e w'=>e=.returned (.tuple #[.agg #[.slice none 0 0,.slice none 0 0,.slice none 0 0,.slice none 0 0,.int .i64 0,.int .i64 0],.int .i64 2])/\Below w.heap.size w w':=by
 obtain⟨v1,v2,v3,rfl⟩:=hp
 obtain⟨u1,u2,u3,u4,u5,u6,rfl⟩:=hs
 have A0:Hid (Ab w (((w.alloc (.cells #[v1,v2,v3] 29)).alloc (.cells #[u1,u2,u3,u4,u5,u6] 26)).alloc (.cells #[.slice none 0 0,.slice none 0 0,.slice none 0 0,.slice none 0 0,.int .i64 0,.int .i64 0] 26))):=Ab.trans (bl2 _ _ _) (bl1 _ _)
 have P0:Hid ((((w.alloc (.cells #[v1,v2,v3] 29)).alloc (.cells #[u1,u2,u3,u4,u5,u6] 26)).alloc (.cells #[.slice none 0 0,.slice none 0 0,.slice none 0 0,.slice none 0 0,.int .i64 0,.int .i64 0] 26)).heap[w.heap.size]? =some (.cells #[v1,v2,v3] 29)):=Ab.heap (bl1 _ _) (heap_alloc2_old _ _ _)
 have S0:Hid ((((w.alloc (.cells #[v1,v2,v3] 29)).alloc (.cells #[u1,u2,u3,u4,u5,u6] 26)).alloc (.cells #[.slice none 0 0,.slice none 0 0,.slice none 0 0,.slice none 0 0,.int .i64 0,.int .i64 0] 26)).heap[w.heap.size+1]? =some (.cells #[u1,u2,u3,u4,u5,u6] 26)):=Ab.heap (bl1 _ _) (heap_alloc2_new _ _ _)
 have Q0:Hid ((((w.alloc (.cells #[v1,v2,v3] 29)).alloc (.cells #[u1,u2,u3,u4,u5,u6] 26)).alloc (.cells #[.slice none 0 0,.slice none 0 0,.slice none 0 0,.slice none 0 0,.int .i64 0,.int .i64 0] 26)).heap[w.heap.size+1+1]? =some (.cells #[.slice none 0 0,.slice none 0 0,.slice none 0 0,.slice none 0 0,.int .i64 0,.int .i64 0] 26)):=by
  have h:=heap_alloc_new ((w.alloc (.cells #[v1,v2,v3] 29)).alloc (.cells #[u1,u2,u3,u4,u5,u6] 26)) (.cells #[.slice none 0 0,.slice none 0 0,.slice none 0 0,.slice none 0 0,.int .i64 0,.int .i64 0] 26)
  have e:((w.alloc (.cells #[v1,v2,v3] 29)).alloc (.cells #[u1,u2,u3,u4,u5,u6] 26)).heap.size=w.heap.size+1+1:=by rw[bO,bO]
  rw[e]at h
  exact h
 go_enter func5,ntmps5
 go_upto_region 1 with fail
 generalize hW:World.alloc (World.alloc (World.alloc w _) _) _=V0 at*
 obtain⟨gp,hgp⟩:=aB w.heap.size
 obtain⟨gs,hgs⟩:=aB (w.heap.size+1)
 obtain⟨gr,hgr⟩:=aB (w.heap.size+1+1)
 have HG:Hid (w.heap.size<=gr):=by show _<=_;omega
 rw[hgr]at Q0 ⊢
 rw[hgs]at S0 ⊢
 rw[hgp]at P0 ⊢
 clear hgp hgs hgr hW
 have t0:=aE Q0.out
 have f0:=bE Q0.out
 go_wp2_with fail
 (try simp only[Exit.inBlock,Exit.then])
 refine bodyPost_ret (v:=.tuple #[.agg #[.slice none 0 0,.slice none 0 0,.slice none 0 0,.slice none 0 0,.int .i64 0,.int .i64 0],.int .i64 2]) ?_ rfl ?_
 ·exact bK results5 _ _ gr _ _ (0,0) _ _ rfl rfl (fI Q0.out) underlying26 rfl (by kernel_rfl)
 ·exact⟨rfl,(((((A0.out.setk HG.out _).setk HG.out _).setk HG.out _).setk HG.out _).setk HG.out _).setk HG.out _⟩
theorem local_0(gb:Nat)(pc:Option Addr)(lc cc:Nat)(pe:Option Addr)(le ce:Nat)(ph:Option Addr)(lh ch:Nat)(pb:Option Addr)(lb cb:Nat)(pw:Option Addr)(lw cw:Nat)(pt:Option Addr)(lt ct:Nat)(ps:Option Addr)(ls cs:Nat)(sky st:Int)(w:World)
  (CF:Hid (∀v,Ab w v->Calls prog 14 #[.pointer (some ⟨gb,0,none⟩),.agg #[.slice pb lb cb,.slice pw lw cw,.slice pt lt ct,.slice ps ls cs,.int .i64 sky,.int .i64 st]] v fun e w'=>e=.returned (.bool false)/\Below v.heap.size v w')):
  Calls prog 5 #[.pointer (some ⟨gb,0,none⟩),.agg #[.slice pc lc cc,.slice pe le ce,.slice ph lh ch],.agg #[.slice pb lb cb,.slice pw lw cw,.slice pt lt ct,.slice ps ls cs,.int .i64 sky,.int .i64 st]] w fun e w'=>e=.returned (.tuple #[.agg #[.slice none 0 0,.slice none 0 0,.slice none 0 0,.slice none 0 0,.int .i64 0,.int .i64 0],.int .i64 1])/\Below w.heap.size w w':=by
 have A0:Hid (Ab w (((w.alloc (.cells #[.slice pc lc cc,.slice pe le ce,.slice ph lh ch] 29)).alloc (.cells #[.slice pb lb cb,.slice pw lw cw,.slice pt lt ct,.slice ps ls cs,.int .i64 sky,.int .i64 st] 26)).alloc (.cells #[.slice none 0 0,.slice none 0 0,.slice none 0 0,.slice none 0 0,.int .i64 0,.int .i64 0] 26))):=Ab.trans (bl2 _ _ _) (bl1 _ _)
 have P0:Hid ((((w.alloc (.cells #[.slice pc lc cc,.slice pe le ce,.slice ph lh ch] 29)).alloc (.cells #[.slice pb lb cb,.slice pw lw cw,.slice pt lt ct,.slice ps ls cs,.int .i64 sky,.int .i64 st] 26)).alloc (.cells #[.slice none 0 0,.slice none 0 0,.slice none 0 0,.slice none 0 0,.int .i64 0,.int .i64 0] 26)).heap[w.heap.size]? =some (.cells #[.slice pc lc cc,.slice pe le ce,.slice ph lh ch] 29)):=Ab.heap (bl1 _ _) (heap_alloc2_old _ _ _)
 have S0:Hid ((((w.alloc (.cells #[.slice pc lc cc,.slice pe le ce,.slice ph lh ch] 29)).alloc (.cells #[.slice pb lb cb,.slice pw lw cw,.slice pt lt ct,.slice ps ls cs,.int .i64 sky,.int .i64 st] 26)).alloc (.cells #[.slice none 0 0,.slice none 0 0,.slice none 0 0,.slice none 0 0,.int .i64 0,.int .i64 0] 26)).heap[w.heap.size+1]? =some (.cells #[.slice pb lb cb,.slice pw lw cw,.slice pt lt ct,.slice ps ls cs,.int .i64 sky,.int .i64 st] 26)):=Ab.heap (bl1 _ _) (heap_alloc2_new _ _ _)
 have Q0:Hid ((((w.alloc (.cells #[.slice pc lc cc,.slice pe le ce,.slice ph lh ch] 29)).alloc (.cells #[.slice pb lb cb,.slice pw lw cw,.slice pt lt ct,.slice ps ls cs,.int .i64 sky,.int .i64 st] 26)).alloc (.cells #[.slice none 0 0,.slice none 0 0,.slice none 0 0,.slice none 0 0,.int .i64 0,.int .i64 0] 26)).heap[w.heap.size+1+1]? =some (.cells #[.slice none 0 0,.slice none 0 0,.slice none 0 0,.slice none 0 0,.int .i64 0,.int .i64 0] 26)):=by
  have h:=heap_alloc_new ((w.alloc (.cells #[.slice pc lc cc,.slice pe le ce,.slice ph lh ch] 29)).alloc (.cells #[.slice pb lb cb,.slice pw lw cw,.slice pt lt ct,.slice ps ls cs,.int .i64 sky,.int .i64 st] 26)) (.cells #[.slice none 0 0,.slice none 0 0,.slice none 0 0,.slice none 0 0,.int .i64 0,.int .i64 0] 26)
  have e:((w.alloc (.cells #[.slice pc lc cc,.slice pe le ce,.slice ph lh ch] 29)).alloc (.cells #[.slice pb lb cb,.slice pw lw cw,.slice pt lt ct,.slice ps ls cs,.int .i64 sky,.int .i64 st] 26)).heap.size=w.heap.size+1+1:=by rw[bO,bO]
  rw[e]at h
  exact h
 go_enter func5,ntmps5
 go_upto_region 1 with fail
 generalize hW:World.alloc (World.alloc (World.alloc w _) _) _=V0 at*
 obtain⟨gp,hgp⟩:=aB w.heap.size
 obtain⟨gs,hgs⟩:=aB (w.heap.size+1)
 obtain⟨gr,hgr⟩:=aB (w.heap.size+1+1)
 have HG:Hid (w.heap.size<=gr):=by show _<=_;omega
 rw[hgr]at Q0 ⊢
 rw[hgs]at S0 ⊢
 rw[hgp]at P0 ⊢
 clear hgp hgs hgr hW
 go_upto_region 3 with fail
 obtain⟨UU,E,hF1,hF2⟩:=cls V0
 have HU:=hid hF2
 have HU1:=hid hF1
 have HX:Hid (∀u,Ab w (E u)):=fun u=>Ab.trans A0.out (hF1 u)
 have p0: ∀u,(E u).cell? ⟨gp,0,none⟩=some (.slice pc lc cc):=fun u=>aA 0 ((hF1 u).heap P0.out)
 have p1: ∀u,(E u).cell? ⟨gp,1,none⟩=some (.slice pe le ce):=fun u=>aA 1 ((hF1 u).heap P0.out)
 have p2: ∀u,(E u).cell? ⟨gp,2,none⟩=some (.slice ph lh ch):=fun u=>aA 2 ((hF1 u).heap P0.out)
 have s0: ∀u,(E u).cell? ⟨gs,0,none⟩=some (.slice pb lb cb):=fun u=>aA 0 ((hF1 u).heap S0.out)
 have s1: ∀u,(E u).cell? ⟨gs,1,none⟩=some (.slice pw lw cw):=fun u=>aA 1 ((hF1 u).heap S0.out)
 have s2: ∀u,(E u).cell? ⟨gs,2,none⟩=some (.slice pt lt ct):=fun u=>aA 2 ((hF1 u).heap S0.out)
 have s3: ∀u,(E u).cell? ⟨gs,3,none⟩=some (.slice ps ls cs):=fun u=>aA 3 ((hF1 u).heap S0.out)
 have s4: ∀u,(E u).cell? ⟨gs,4,none⟩=some (.int .i64 sky):=fun u=>aA 4 ((hF1 u).heap S0.out)
 have s5: ∀u,(E u).cell? ⟨gs,5,none⟩=some (.int .i64 st):=fun u=>aA 5 ((hF1 u).heap S0.out)
 have DD0:=HU.out _ (Ab.refl V0).drew
 clear hF1 hF2
 refine aI E (by kernel_rfl) (by kernel_rfl) DD0 ?_
 repeat(go_big_quiet_step (first
  | (with_reducible rfl)
  | (go_at_call 14;exact aC HU HU1 (CF.out _ (HX.out _)))))
 refine wpQuiet_nil ?_
 intro z hwz
 obtain⟨u0,hu⟩:=hwz
 have AZ:Hid (Ab V0 z):=by rw[hu];exact HU1.out u0
 clear hu u0
 clear HU HU1 HX DD0 p0 p1 p2 s0 s1 s2 s3 s4 s5
 clear E UU
 have A1:Hid (Ab w z):=A0.out.trans AZ.out
 have Q1:=hid (AZ.out.heap Q0.out)
 have t0:=aE Q1.out
 have f0:=bE Q1.out
 go_wp2_with fail
 (try simp only[Exit.inBlock,Exit.then])
 refine bodyPost_ret (v:=.tuple #[.agg #[.slice none 0 0,.slice none 0 0,.slice none 0 0,.slice none 0 0,.int .i64 0,.int .i64 0],.int .i64 1]) ?_ rfl ?_
 ·exact bK results5 _ _ gr _ _ (0,0) _ _ rfl rfl (fI Q1.out) underlying26 rfl (by kernel_rfl)
 ·exact⟨rfl,(((((A1.out.setk HG.out _).setk HG.out _).setk HG.out _).setk HG.out _).setk HG.out _).setk HG.out _⟩
theorem local_1(gb:Nat)(pc:Option Addr)(lc cc:Nat)(pe:Option Addr)(le ce:Nat)(ph:Option Addr)(lh ch:Nat)(pb:Option Addr)(lb cb:Nat)(pw:Option Addr)(lw cw:Nat)(pt:Option Addr)(lt ct:Nat)(ps:Option Addr)(ls cs:Nat)(sky st:Int)(N:Nat)(w:World)
  (CF:Hid (∀v,Ab w v->Calls prog 14 #[.pointer (some ⟨gb,0,none⟩),.agg #[.slice pb lb cb,.slice pw lw cw,.slice pt lt ct,.slice ps ls cs,.int .i64 sky,.int .i64 st]] v fun e w'=>e=.returned (.bool true)/\Below v.heap.size v w'))
  (CC:Hid (∀v,Ab w v->Calls prog 16 #[.pointer (some ⟨gb,0,none⟩)] v fun e w'=>e=.returned (.int .i64 (N:Nat))/\Below v.heap.size v w'))
  (C1:Hid (∀v,Ab w v->Calls prog 15 #[.slice pc lc cc,.int .i64 (N:Nat)] v fun e w'=>e=.returned (.bool false)/\Below v.heap.size v w')):
  Calls prog 5 #[.pointer (some ⟨gb,0,none⟩),.agg #[.slice pc lc cc,.slice pe le ce,.slice ph lh ch],.agg #[.slice pb lb cb,.slice pw lw cw,.slice pt lt ct,.slice ps ls cs,.int .i64 sky,.int .i64 st]] w fun e w'=>e=.returned (.tuple #[.agg #[.slice none 0 0,.slice none 0 0,.slice none 0 0,.slice none 0 0,.int .i64 0,.int .i64 0],.int .i64 1])/\Below w.heap.size w w':=by
 have A0:Hid (Ab w (((w.alloc (.cells #[.slice pc lc cc,.slice pe le ce,.slice ph lh ch] 29)).alloc (.cells #[.slice pb lb cb,.slice pw lw cw,.slice pt lt ct,.slice ps ls cs,.int .i64 sky,.int .i64 st] 26)).alloc (.cells #[.slice none 0 0,.slice none 0 0,.slice none 0 0,.slice none 0 0,.int .i64 0,.int .i64 0] 26))):=Ab.trans (bl2 _ _ _) (bl1 _ _)
 have P0:Hid ((((w.alloc (.cells #[.slice pc lc cc,.slice pe le ce,.slice ph lh ch] 29)).alloc (.cells #[.slice pb lb cb,.slice pw lw cw,.slice pt lt ct,.slice ps ls cs,.int .i64 sky,.int .i64 st] 26)).alloc (.cells #[.slice none 0 0,.slice none 0 0,.slice none 0 0,.slice none 0 0,.int .i64 0,.int .i64 0] 26)).heap[w.heap.size]? =some (.cells #[.slice pc lc cc,.slice pe le ce,.slice ph lh ch] 29)):=Ab.heap (bl1 _ _) (heap_alloc2_old _ _ _)
 have S0:Hid ((((w.alloc (.cells #[.slice pc lc cc,.slice pe le ce,.slice ph lh ch] 29)).alloc (.cells #[.slice pb lb cb,.slice pw lw cw,.slice pt lt ct,.slice ps ls cs,.int .i64 sky,.int .i64 st] 26)).alloc (.cells #[.slice none 0 0,.slice none 0 0,.slice none 0 0,.slice none 0 0,.int .i64 0,.int .i64 0] 26)).heap[w.heap.size+1]? =some (.cells #[.slice pb lb cb,.slice pw lw cw,.slice pt lt ct,.slice ps ls cs,.int .i64 sky,.int .i64 st] 26)):=Ab.heap (bl1 _ _) (heap_alloc2_new _ _ _)
 have Q0:Hid ((((w.alloc (.cells #[.slice pc lc cc,.slice pe le ce,.slice ph lh ch] 29)).alloc (.cells #[.slice pb lb cb,.slice pw lw cw,.slice pt lt ct,.slice ps ls cs,.int .i64 sky,.int .i64 st] 26)).alloc (.cells #[.slice none 0 0,.slice none 0 0,.slice none 0 0,.slice none 0 0,.int .i64 0,.int .i64 0] 26)).heap[w.heap.size+1+1]? =some (.cells #[.slice none 0 0,.slice none 0 0,.slice none 0 0,.slice none 0 0,.int .i64 0,.int .i64 0] 26)):=by
  have h:=heap_alloc_new ((w.alloc (.cells #[.slice pc lc cc,.slice pe le ce,.slice ph lh ch] 29)).alloc (.cells #[.slice pb lb cb,.slice pw lw cw,.slice pt lt ct,.slice ps ls cs,.int .i64 sky,.int .i64 st] 26)) (.cells #[.slice none 0 0,.slice none 0 0,.slice none 0 0,.slice none 0 0,.int .i64 0,.int .i64 0] 26)
  have e:((w.alloc (.cells #[.slice pc lc cc,.slice pe le ce,.slice ph lh ch] 29)).alloc (.cells #[.slice pb lb cb,.slice pw lw cw,.slice pt lt ct,.slice ps ls cs,.int .i64 sky,.int .i64 st] 26)).heap.size=w.heap.size+1+1:=by rw[bO,bO]
  rw[e]at h
  exact h
 go_enter func5,ntmps5
 go_upto_region 1 with fail
 generalize hW:World.alloc (World.alloc (World.alloc w _) _) _=V0 at*
 obtain⟨gp,hgp⟩:=aB w.heap.size
 obtain⟨gs,hgs⟩:=aB (w.heap.size+1)
 obtain⟨gr,hgr⟩:=aB (w.heap.size+1+1)
 have HG:Hid (w.heap.size<=gr):=by show _<=_;omega
 rw[hgr]at Q0 ⊢
 rw[hgs]at S0 ⊢
 rw[hgp]at P0 ⊢
 clear hgp hgs hgr hW
 go_upto_region 3 with fail
 obtain⟨UU,E,hF1,hF2⟩:=cls V0
 have HU:=hid hF2
 have HU1:=hid hF1
 have HX:Hid (∀u,Ab w (E u)):=fun u=>Ab.trans A0.out (hF1 u)
 have p0: ∀u,(E u).cell? ⟨gp,0,none⟩=some (.slice pc lc cc):=fun u=>aA 0 ((hF1 u).heap P0.out)
 have p1: ∀u,(E u).cell? ⟨gp,1,none⟩=some (.slice pe le ce):=fun u=>aA 1 ((hF1 u).heap P0.out)
 have p2: ∀u,(E u).cell? ⟨gp,2,none⟩=some (.slice ph lh ch):=fun u=>aA 2 ((hF1 u).heap P0.out)
 have s0: ∀u,(E u).cell? ⟨gs,0,none⟩=some (.slice pb lb cb):=fun u=>aA 0 ((hF1 u).heap S0.out)
 have s1: ∀u,(E u).cell? ⟨gs,1,none⟩=some (.slice pw lw cw):=fun u=>aA 1 ((hF1 u).heap S0.out)
 have s2: ∀u,(E u).cell? ⟨gs,2,none⟩=some (.slice pt lt ct):=fun u=>aA 2 ((hF1 u).heap S0.out)
 have s3: ∀u,(E u).cell? ⟨gs,3,none⟩=some (.slice ps ls cs):=fun u=>aA 3 ((hF1 u).heap S0.out)
 have s4: ∀u,(E u).cell? ⟨gs,4,none⟩=some (.int .i64 sky):=fun u=>aA 4 ((hF1 u).heap S0.out)
 have s5: ∀u,(E u).cell? ⟨gs,5,none⟩=some (.int .i64 st):=fun u=>aA 5 ((hF1 u).heap S0.out)
 have DD0:=HU.out _ (Ab.refl V0).drew
 clear hF1 hF2
 refine aI E (by kernel_rfl) (by kernel_rfl) DD0 ?_
 repeat(go_big_quiet_step (first
  | (with_reducible rfl)
  | (go_at_call 14;exact aC HU HU1 (CF.out _ (HX.out _)))
  | (go_at_call 16;exact aC HU HU1 (CC.out _ (HX.out _)))
  | (go_at_call_of 15 lc;exact aC HU HU1 (C1.out _ (HX.out _)))))
 refine wpQuiet_nil ?_
 intro z hwz
 obtain⟨u0,hu⟩:=hwz
 have AZ:Hid (Ab V0 z):=by rw[hu];exact HU1.out u0
 clear hu u0
 clear HU HU1 HX DD0 p0 p1 p2 s0 s1 s2 s3 s4 s5
 clear E UU
 have A1:Hid (Ab w z):=A0.out.trans AZ.out
 have Q1:=hid (AZ.out.heap Q0.out)
 have t0:=aE Q1.out
 have f0:=bE Q1.out
 go_wp2_with fail
 (try simp only[Exit.inBlock,Exit.then])
 refine bodyPost_ret (v:=.tuple #[.agg #[.slice none 0 0,.slice none 0 0,.slice none 0 0,.slice none 0 0,.int .i64 0,.int .i64 0],.int .i64 1]) ?_ rfl ?_
 ·exact bK results5 _ _ gr _ _ (0,0) _ _ rfl rfl (fI Q1.out) underlying26 rfl (by kernel_rfl)
 ·exact⟨rfl,(((((A1.out.setk HG.out _).setk HG.out _).setk HG.out _).setk HG.out _).setk HG.out _).setk HG.out _⟩
theorem local_2(gb:Nat)(pc:Option Addr)(lc cc:Nat)(pe:Option Addr)(le ce:Nat)(ph:Option Addr)(lh ch:Nat)(pb:Option Addr)(lb cb:Nat)(pw:Option Addr)(lw cw:Nat)(pt:Option Addr)(lt ct:Nat)(ps:Option Addr)(ls cs:Nat)(sky st:Int)(N:Nat)(w:World)
  (CF:Hid (∀v,Ab w v->Calls prog 14 #[.pointer (some ⟨gb,0,none⟩),.agg #[.slice pb lb cb,.slice pw lw cw,.slice pt lt ct,.slice ps ls cs,.int .i64 sky,.int .i64 st]] v fun e w'=>e=.returned (.bool true)/\Below v.heap.size v w'))
  (CC:Hid (∀v,Ab w v->Calls prog 16 #[.pointer (some ⟨gb,0,none⟩)] v fun e w'=>e=.returned (.int .i64 (N:Nat))/\Below v.heap.size v w'))
  (C1:Hid (∀v,Ab w v->Calls prog 15 #[.slice pc lc cc,.int .i64 (N:Nat)] v fun e w'=>e=.returned (.bool true)/\Below v.heap.size v w'))
  (C2:Hid (∀v,Ab w v->Calls prog 15 #[.slice ph lh ch,.int .i64 (N:Nat)] v fun e w'=>e=.returned (.bool false)/\Below v.heap.size v w')):
  Calls prog 5 #[.pointer (some ⟨gb,0,none⟩),.agg #[.slice pc lc cc,.slice pe le ce,.slice ph lh ch],.agg #[.slice pb lb cb,.slice pw lw cw,.slice pt lt ct,.slice ps ls cs,.int .i64 sky,.int .i64 st]] w fun e w'=>e=.returned (.tuple #[.agg #[.slice none 0 0,.slice none 0 0,.slice none 0 0,.slice none 0 0,.int .i64 0,.int .i64 0],.int .i64 1])/\Below w.heap.size w w':=by
 have A0:Hid (Ab w (((w.alloc (.cells #[.slice pc lc cc,.slice pe le ce,.slice ph lh ch] 29)).alloc (.cells #[.slice pb lb cb,.slice pw lw cw,.slice pt lt ct,.slice ps ls cs,.int .i64 sky,.int .i64 st] 26)).alloc (.cells #[.slice none 0 0,.slice none 0 0,.slice none 0 0,.slice none 0 0,.int .i64 0,.int .i64 0] 26))):=Ab.trans (bl2 _ _ _) (bl1 _ _)
 have P0:Hid ((((w.alloc (.cells #[.slice pc lc cc,.slice pe le ce,.slice ph lh ch] 29)).alloc (.cells #[.slice pb lb cb,.slice pw lw cw,.slice pt lt ct,.slice ps ls cs,.int .i64 sky,.int .i64 st] 26)).alloc (.cells #[.slice none 0 0,.slice none 0 0,.slice none 0 0,.slice none 0 0,.int .i64 0,.int .i64 0] 26)).heap[w.heap.size]? =some (.cells #[.slice pc lc cc,.slice pe le ce,.slice ph lh ch] 29)):=Ab.heap (bl1 _ _) (heap_alloc2_old _ _ _)
 have S0:Hid ((((w.alloc (.cells #[.slice pc lc cc,.slice pe le ce,.slice ph lh ch] 29)).alloc (.cells #[.slice pb lb cb,.slice pw lw cw,.slice pt lt ct,.slice ps ls cs,.int .i64 sky,.int .i64 st] 26)).alloc (.cells #[.slice none 0 0,.slice none 0 0,.slice none 0 0,.slice none 0 0,.int .i64 0,.int .i64 0] 26)).heap[w.heap.size+1]? =some (.cells #[.slice pb lb cb,.slice pw lw cw,.slice pt lt ct,.slice ps ls cs,.int .i64 sky,.int .i64 st] 26)):=Ab.heap (bl1 _ _) (heap_alloc2_new _ _ _)
 have Q0:Hid ((((w.alloc (.cells #[.slice pc lc cc,.slice pe le ce,.slice ph lh ch] 29)).alloc (.cells #[.slice pb lb cb,.slice pw lw cw,.slice pt lt ct,.slice ps ls cs,.int .i64 sky,.int .i64 st] 26)).alloc (.cells #[.slice none 0 0,.slice none 0 0,.slice none 0 0,.slice none 0 0,.int .i64 0,.int .i64 0] 26)).heap[w.heap.size+1+1]? =some (.cells #[.slice none 0 0,.slice none 0 0,.slice none 0 0,.slice none 0 0,.int .i64 0,.int .i64 0] 26)):=by
  have h:=heap_alloc_new ((w.alloc (.cells #[.slice pc lc cc,.slice pe le ce,.slice ph lh ch] 29)).alloc (.cells #[.slice pb lb cb,.slice pw lw cw,.slice pt lt ct,.slice ps ls cs,.int .i64 sky,.int .i64 st] 26)) (.cells #[.slice none 0 0,.slice none 0 0,.slice none 0 0,.slice none 0 0,.int .i64 0,.int .i64 0] 26)
  have e:((w.alloc (.cells #[.slice pc lc cc,.slice pe le ce,.slice ph lh ch] 29)).alloc (.cells #[.slice pb lb cb,.slice pw lw cw,.slice pt lt ct,.slice ps ls cs,.int .i64 sky,.int .i64 st] 26)).heap.size=w.heap.size+1+1:=by rw[bO,bO]
  rw[e]at h
  exact h
 go_enter func5,ntmps5
 go_upto_region 1 with fail
 generalize hW:World.alloc (World.alloc (World.alloc w _) _) _=V0 at*
 obtain⟨gp,hgp⟩:=aB w.heap.size
 obtain⟨gs,hgs⟩:=aB (w.heap.size+1)
 obtain⟨gr,hgr⟩:=aB (w.heap.size+1+1)
 have HG:Hid (w.heap.size<=gr):=by show _<=_;omega
 rw[hgr]at Q0 ⊢
 rw[hgs]at S0 ⊢
 rw[hgp]at P0 ⊢
 clear hgp hgs hgr hW
 go_upto_region 3 with fail
 obtain⟨UU,E,hF1,hF2⟩:=cls V0
 have HU:=hid hF2
 have HU1:=hid hF1
 have HX:Hid (∀u,Ab w (E u)):=fun u=>Ab.trans A0.out (hF1 u)
 have p0: ∀u,(E u).cell? ⟨gp,0,none⟩=some (.slice pc lc cc):=fun u=>aA 0 ((hF1 u).heap P0.out)
 have p1: ∀u,(E u).cell? ⟨gp,1,none⟩=some (.slice pe le ce):=fun u=>aA 1 ((hF1 u).heap P0.out)
 have p2: ∀u,(E u).cell? ⟨gp,2,none⟩=some (.slice ph lh ch):=fun u=>aA 2 ((hF1 u).heap P0.out)
 have s0: ∀u,(E u).cell? ⟨gs,0,none⟩=some (.slice pb lb cb):=fun u=>aA 0 ((hF1 u).heap S0.out)
 have s1: ∀u,(E u).cell? ⟨gs,1,none⟩=some (.slice pw lw cw):=fun u=>aA 1 ((hF1 u).heap S0.out)
 have s2: ∀u,(E u).cell? ⟨gs,2,none⟩=some (.slice pt lt ct):=fun u=>aA 2 ((hF1 u).heap S0.out)
 have s3: ∀u,(E u).cell? ⟨gs,3,none⟩=some (.slice ps ls cs):=fun u=>aA 3 ((hF1 u).heap S0.out)
 have s4: ∀u,(E u).cell? ⟨gs,4,none⟩=some (.int .i64 sky):=fun u=>aA 4 ((hF1 u).heap S0.out)
 have s5: ∀u,(E u).cell? ⟨gs,5,none⟩=some (.int .i64 st):=fun u=>aA 5 ((hF1 u).heap S0.out)
 have DD0:=HU.out _ (Ab.refl V0).drew
 clear hF1 hF2
 refine aI E (by kernel_rfl) (by kernel_rfl) DD0 ?_
 repeat(go_big_quiet_step (first
  | (with_reducible rfl)
  | (go_at_call 14;exact aC HU HU1 (CF.out _ (HX.out _)))
  | (go_at_call 16;exact aC HU HU1 (CC.out _ (HX.out _)))
  | (go_at_call_of 15 lc;exact aC HU HU1 (C1.out _ (HX.out _)))
  | (go_at_call_of 15 lh;exact aC HU HU1 (C2.out _ (HX.out _)))))
 refine wpQuiet_nil ?_
 intro z hwz
 obtain⟨u0,hu⟩:=hwz
 have AZ:Hid (Ab V0 z):=by rw[hu];exact HU1.out u0
 clear hu u0
 clear HU HU1 HX DD0 p0 p1 p2 s0 s1 s2 s3 s4 s5
 clear E UU
 have A1:Hid (Ab w z):=A0.out.trans AZ.out
 have Q1:=hid (AZ.out.heap Q0.out)
 have t0:=aE Q1.out
 have f0:=bE Q1.out
 go_wp2_with fail
 (try simp only[Exit.inBlock,Exit.then])
 refine bodyPost_ret (v:=.tuple #[.agg #[.slice none 0 0,.slice none 0 0,.slice none 0 0,.slice none 0 0,.int .i64 0,.int .i64 0],.int .i64 1]) ?_ rfl ?_
 ·exact bK results5 _ _ gr _ _ (0,0) _ _ rfl rfl (fI Q1.out) underlying26 rfl (by kernel_rfl)
 ·exact⟨rfl,(((((A1.out.setk HG.out _).setk HG.out _).setk HG.out _).setk HG.out _).setk HG.out _).setk HG.out _⟩
theorem local_3(gb:Nat)(pc:Option Addr)(lc cc:Nat)(pe:Option Addr)(le ce:Nat)(ph:Option Addr)(lh ch:Nat)(pb:Option Addr)(lb cb:Nat)(pw:Option Addr)(lw cw:Nat)(pt:Option Addr)(lt ct:Nat)(ps:Option Addr)(ls cs:Nat)(sky st:Int)(N:Nat)(M:Nat)(w:World)
  (CF:Hid (∀v,Ab w v->Calls prog 14 #[.pointer (some ⟨gb,0,none⟩),.agg #[.slice pb lb cb,.slice pw lw cw,.slice pt lt ct,.slice ps ls cs,.int .i64 sky,.int .i64 st]] v fun e w'=>e=.returned (.bool true)/\Below v.heap.size v w'))
  (CC:Hid (∀v,Ab w v->Calls prog 16 #[.pointer (some ⟨gb,0,none⟩)] v fun e w'=>e=.returned (.int .i64 (N:Nat))/\Below v.heap.size v w'))
  (C1:Hid (∀v,Ab w v->Calls prog 15 #[.slice pc lc cc,.int .i64 (N:Nat)] v fun e w'=>e=.returned (.bool true)/\Below v.heap.size v w'))
  (C2:Hid (∀v,Ab w v->Calls prog 15 #[.slice ph lh ch,.int .i64 (N:Nat)] v fun e w'=>e=.returned (.bool true)/\Below v.heap.size v w'))
  (CE:Hid (∀v,Ab w v->Calls prog 17 #[.pointer (some ⟨gb,0,none⟩)] v fun e w'=>e=.returned (.int .i64 (M:Nat))/\Below v.heap.size v w'))
  (C3:Hid (∀v,Ab w v->Calls prog 15 #[.slice pe le ce,.int .i64 (M:Nat)] v fun e w'=>e=.returned (.bool false)/\Below v.heap.size v w')):
  Calls prog 5 #[.pointer (some ⟨gb,0,none⟩),.agg #[.slice pc lc cc,.slice pe le ce,.slice ph lh ch],.agg #[.slice pb lb cb,.slice pw lw cw,.slice pt lt ct,.slice ps ls cs,.int .i64 sky,.int .i64 st]] w fun e w'=>e=.returned (.tuple #[.agg #[.slice none 0 0,.slice none 0 0,.slice none 0 0,.slice none 0 0,.int .i64 0,.int .i64 0],.int .i64 1])/\Below w.heap.size w w':=by
 have A0:Hid (Ab w (((w.alloc (.cells #[.slice pc lc cc,.slice pe le ce,.slice ph lh ch] 29)).alloc (.cells #[.slice pb lb cb,.slice pw lw cw,.slice pt lt ct,.slice ps ls cs,.int .i64 sky,.int .i64 st] 26)).alloc (.cells #[.slice none 0 0,.slice none 0 0,.slice none 0 0,.slice none 0 0,.int .i64 0,.int .i64 0] 26))):=Ab.trans (bl2 _ _ _) (bl1 _ _)
 have P0:Hid ((((w.alloc (.cells #[.slice pc lc cc,.slice pe le ce,.slice ph lh ch] 29)).alloc (.cells #[.slice pb lb cb,.slice pw lw cw,.slice pt lt ct,.slice ps ls cs,.int .i64 sky,.int .i64 st] 26)).alloc (.cells #[.slice none 0 0,.slice none 0 0,.slice none 0 0,.slice none 0 0,.int .i64 0,.int .i64 0] 26)).heap[w.heap.size]? =some (.cells #[.slice pc lc cc,.slice pe le ce,.slice ph lh ch] 29)):=Ab.heap (bl1 _ _) (heap_alloc2_old _ _ _)
 have S0:Hid ((((w.alloc (.cells #[.slice pc lc cc,.slice pe le ce,.slice ph lh ch] 29)).alloc (.cells #[.slice pb lb cb,.slice pw lw cw,.slice pt lt ct,.slice ps ls cs,.int .i64 sky,.int .i64 st] 26)).alloc (.cells #[.slice none 0 0,.slice none 0 0,.slice none 0 0,.slice none 0 0,.int .i64 0,.int .i64 0] 26)).heap[w.heap.size+1]? =some (.cells #[.slice pb lb cb,.slice pw lw cw,.slice pt lt ct,.slice ps ls cs,.int .i64 sky,.int .i64 st] 26)):=Ab.heap (bl1 _ _) (heap_alloc2_new _ _ _)
 have Q0:Hid ((((w.alloc (.cells #[.slice pc lc cc,.slice pe le ce,.slice ph lh ch] 29)).alloc (.cells #[.slice pb lb cb,.slice pw lw cw,.slice pt lt ct,.slice ps ls cs,.int .i64 sky,.int .i64 st] 26)).alloc (.cells #[.slice none 0 0,.slice none 0 0,.slice none 0 0,.slice none 0 0,.int .i64 0,.int .i64 0] 26)).heap[w.heap.size+1+1]? =some (.cells #[.slice none 0 0,.slice none 0 0,.slice none 0 0,.slice none 0 0,.int .i64 0,.int .i64 0] 26)):=by
  have h:=heap_alloc_new ((w.alloc (.cells #[.slice pc lc cc,.slice pe le ce,.slice ph lh ch] 29)).alloc (.cells #[.slice pb lb cb,.slice pw lw cw,.slice pt lt ct,.slice ps ls cs,.int .i64 sky,.int .i64 st] 26)) (.cells #[.slice none 0 0,.slice none 0 0,.slice none 0 0,.slice none 0 0,.int .i64 0,.int .i64 0] 26)
  have e:((w.alloc (.cells #[.slice pc lc cc,.slice pe le ce,.slice ph lh ch] 29)).alloc (.cells #[.slice pb lb cb,.slice pw lw cw,.slice pt lt ct,.slice ps ls cs,.int .i64 sky,.int .i64 st] 26)).heap.size=w.heap.size+1+1:=by rw[bO,bO]
  rw[e]at h
  exact h
 go_enter func5,ntmps5
 go_upto_region 1 with fail
 generalize hW:World.alloc (World.alloc (World.alloc w _) _) _=V0 at*
 obtain⟨gp,hgp⟩:=aB w.heap.size
 obtain⟨gs,hgs⟩:=aB (w.heap.size+1)
 obtain⟨gr,hgr⟩:=aB (w.heap.size+1+1)
 have HG:Hid (w.heap.size<=gr):=by show _<=_;omega
 rw[hgr]at Q0 ⊢
 rw[hgs]at S0 ⊢
 rw[hgp]at P0 ⊢
 clear hgp hgs hgr hW
 go_upto_region 3 with fail
 obtain⟨UU,E,hF1,hF2⟩:=cls V0
 have HU:=hid hF2
 have HU1:=hid hF1
 have HX:Hid (∀u,Ab w (E u)):=fun u=>Ab.trans A0.out (hF1 u)
 have p0: ∀u,(E u).cell? ⟨gp,0,none⟩=some (.slice pc lc cc):=fun u=>aA 0 ((hF1 u).heap P0.out)
 have p1: ∀u,(E u).cell? ⟨gp,1,none⟩=some (.slice pe le ce):=fun u=>aA 1 ((hF1 u).heap P0.out)
 have p2: ∀u,(E u).cell? ⟨gp,2,none⟩=some (.slice ph lh ch):=fun u=>aA 2 ((hF1 u).heap P0.out)
 have s0: ∀u,(E u).cell? ⟨gs,0,none⟩=some (.slice pb lb cb):=fun u=>aA 0 ((hF1 u).heap S0.out)
 have s1: ∀u,(E u).cell? ⟨gs,1,none⟩=some (.slice pw lw cw):=fun u=>aA 1 ((hF1 u).heap S0.out)
 have s2: ∀u,(E u).cell? ⟨gs,2,none⟩=some (.slice pt lt ct):=fun u=>aA 2 ((hF1 u).heap S0.out)
 have s3: ∀u,(E u).cell? ⟨gs,3,none⟩=some (.slice ps ls cs):=fun u=>aA 3 ((hF1 u).heap S0.out)
 have s4: ∀u,(E u).cell? ⟨gs,4,none⟩=some (.int .i64 sky):=fun u=>aA 4 ((hF1 u).heap S0.out)
 have s5: ∀u,(E u).cell? ⟨gs,5,none⟩=some (.int .i64 st):=fun u=>aA 5 ((hF1 u).heap S0.out)
 have DD0:=HU.out _ (Ab.refl V0).drew
 clear hF1 hF2
 refine aI E (by kernel_rfl) (by kernel_rfl) DD0 ?_
 repeat(go_big_quiet_step (first
  | (with_reducible rfl)
  | (go_at_call 14;exact aC HU HU1 (CF.out _ (HX.out _)))
  | (go_at_call 16;exact aC HU HU1 (CC.out _ (HX.out _)))
  | (go_at_call_of 15 lc;exact aC HU HU1 (C1.out _ (HX.out _)))
  | (go_at_call_of 15 lh;exact aC HU HU1 (C2.out _ (HX.out _)))
  | (go_at_call 17;exact aC HU HU1 (CE.out _ (HX.out _)))
  | (go_at_call_of 15 le;exact aC HU HU1 (C3.out _ (HX.out _)))))
 refine wpQuiet_nil ?_
 intro z hwz
 obtain⟨u0,hu⟩:=hwz
 have AZ:Hid (Ab V0 z):=by rw[hu];exact HU1.out u0
 clear hu u0
 clear HU HU1 HX DD0 p0 p1 p2 s0 s1 s2 s3 s4 s5
 clear E UU
 have A1:Hid (Ab w z):=A0.out.trans AZ.out
 have Q1:=hid (AZ.out.heap Q0.out)
 have t0:=aE Q1.out
 have f0:=bE Q1.out
 go_wp2_with fail
 (try simp only[Exit.inBlock,Exit.then])
 refine bodyPost_ret (v:=.tuple #[.agg #[.slice none 0 0,.slice none 0 0,.slice none 0 0,.slice none 0 0,.int .i64 0,.int .i64 0],.int .i64 1]) ?_ rfl ?_
 ·exact bK results5 _ _ gr _ _ (0,0) _ _ rfl rfl (fI Q1.out) underlying26 rfl (by kernel_rfl)
 ·exact⟨rfl,(((((A1.out.setk HG.out _).setk HG.out _).setk HG.out _).setk HG.out _).setk HG.out _).setk HG.out _⟩
end Spl
end
section
open Go.RowKit Tf Cu Go.Deep
attribute [local go_sem] aL aM aP aQ aR aU aV aD
namespace Spl
theorem mV(p:Option Addr)(L c N:Nat)(f:Nat->Int)(q:Bool)(w:World)(hL:L<=281474976710656)(hN:N<=12288)(i0:Sh.IsI w p L f)(hq:q=true ↔ wi L f N):Calls prog 35 #[.slice p L c,.int .i64 (N:Nat)] w fun e w'=>e=.returned (.bool q)/\w'=w:=by
 have I0:=hid i0
 have HQ:=hid hq
 have HN:=hid (And.intro hL hN)
 have nB:(N:Int)<=12288:=by omega
 have lB:(L:Int)<=281474976710656:=by omega
 clear i0 hq hL hN
 go_enter func35,ntmps35
 go_wp2
 go_loopw [5] (fun iv wr=> ∃k:Nat,k<=L/\iv=.int .i64 (k:Nat)/\wr=w/\wi k f N) (fun iv _=>L - (intOf iv).toNat)
 case atStart=>exact⟨0,by omega,rfl,by first | trivial | rfl,fun i hi=>by omega⟩
 case round=>
  obtain⟨k,hk,rfl,hw,hi⟩:=hrel
  subst hw
  have HI:=hid hi
  have HKL:=hid hk
  have kB:(k:Int)<=281474976710656:=by have:=HN.out;omega
  clear hi hk
  by_cases hkn:k<L
  ·have HK:=hid hkn
   have kI:(k:Int)<L:=by omega
   obtain⟨b,o,rfl⟩:=I0.out.some0 (show 0<L by omega)
   obtain⟨h1,h2,y1⟩:=I0.out.at0 hkn
   obtain⟨x,hx⟩:=aB (f k)
   rw[hx]at y1 h1
   have HX:=hid hx
   have H1:=hid h1
   clear hx h1 h2 hkn
   by_cases a1:x<0
   ·have d1:decide (x<0)=true:=decide_eq_true a1
    have QF:q=false:=by
     have h:=HQ.out
     cases q
     ·rfl
     ·have:=(h.1 rfl) k HK.out
      rw[HX.out]at this
      omega
    subst QF
    clear a1
    go_wp2
    go_ret
    first | exact⟨rfl,rfl⟩ | exact rfl
   ·have d1:decide (x<0)=false:=decide_eq_false a1
    by_cases a2:x<N
    ·have d2:decide (x≥(N:Int))=false:=decide_eq_false (by omega)
     have d3: ¬(N:Int)<=x:=by omega
     have HS:Hid (wi (k+1) f N):=fun i hi=>by
      by_cases e:i=k
      ·subst e;rw[HX.out];omega
      ·exact HI.out i (by omega)
     clear a1 a2
     go_wp2_with fail
     exact⟨⟨k+1,by have:=HK.out;omega,by simp,by first | trivial | rfl,HS.out⟩,by have:=HK.out;simp[intOf];omega⟩
    ·have d2:decide (x≥(N:Int))=true:=decide_eq_true (by omega)
     have d3:(N:Int)<=x:=by omega
     have QF:q=false:=by
      have h:=HQ.out
      cases q
      ·rfl
      ·have:=(h.1 rfl) k HK.out
       rw[HX.out]at this
       omega
     subst QF
     clear a1 a2
     go_wp2
     go_ret
     first | exact⟨rfl,rfl⟩ | exact rfl
  ·have e6:k=L:=by have:=HKL.out;omega
   subst e6
   have QT:q=true:=HQ.out.2 HI.out
   subst QT
   go_wp2
   go_ret
   first | exact⟨rfl,rfl⟩ | exact rfl
theorem bT{v:World}{b g k n:Nat}{t:TypeId}{f:Nat->Value}{x:Value}(h:v.rowIs b t n f)(hb:b≠g):(v.setCell ⟨g,k,none⟩ x).rowIs b t n f:=h.of_block (aH hb)
def Qm(go b1 b2 b3 b4 N M:Nat)(B:Nat->Nat)(W T:Nat->Int)(S:Nat->Nat)(st:Int)(q1 q2 q3 q4:Nat->Bool)(v:World):Prop:=
 v.heap[go]? =some (.cells #[.slice (some ⟨b1,0,none⟩) N N,.slice (some ⟨b2,0,none⟩) N N,.slice (some ⟨b3,0,none⟩) N N,.slice (some ⟨b4,0,none⟩) M M,.int .i64 0,.int .i64 st] 26)/\v.rowIs b1 53 N (fun j=>.float .f64 (shB q1 B j))/\v.rowIs b2 2 N (fun j=>.int .i64 (shW q2 W j))/\v.rowIs b3 2 N (fun j=>.int .i64 (shW q3 T j))/\v.rowIs b4 53 M (fun j=>.float .f64 (shB q4 S j))
def Dq(go b1 b2 b3 b4:Nat):Prop:=(go≠b1/\go≠b2/\go≠b3/\go≠b4)/\b1≠b2/\b1≠b3/\b1≠b4/\b2≠b3/\b2≠b4/\b3≠b4
theorem Qm.to{go b1 b2 b3 b4 N M:Nat}{B:Nat->Nat}{W T:Nat->Int}{S:Nat->Nat}{st:Int}{q1 q2 q3 q4:Nat->Bool}{v v':World}(h:Qm go b1 b2 b3 b4 N M B W T S st q1 q2 q3 q4 v)(a:Ab v v'):Qm go b1 b2 b3 b4 N M B W T S st q1 q2 q3 q4 v':=⟨a.heap h.1,rowIs.ab h.2.1 a,rowIs.ab h.2.2.1 a,rowIs.ab h.2.2.2.1 a,rowIs.ab h.2.2.2.2 a⟩
def mq(q:Nat->Bool)(c j:Nat):Bool:=q j||j==c
theorem shB_mq{q:Nat->Bool}{f:Nat->Nat}{c j:Nat}:shB (mq q c) f j=if j=c then f c else shB q f j:=by
 unfold shB mq
 by_cases h:j=c
 ·subst h;simp
 ·simp[h]
theorem shW_mq{q:Nat->Bool}{f:Nat->Int}{c j:Nat}:shW (mq q c) f j=if j=c then f c else shW q f j:=by
 unfold shW mq
 by_cases h:j=c
 ·subst h;simp
 ·simp[h]
theorem Qm.s1{go b1 b2 b3 b4 N M:Nat}{B:Nat->Nat}{W T:Nat->Int}{S:Nat->Nat}{st:Int}{q1 q2 q3 q4:Nat->Bool}{v:World}(h:Qm go b1 b2 b3 b4 N M B W T S st q1 q2 q3 q4 v)(d:Dq go b1 b2 b3 b4)(c:Nat):Qm go b1 b2 b3 b4 N M B W T S st (mq q1 c) q2 q3 q4 (v.setCell ⟨b1,c,none⟩ (.float .f64 (B c))):=by
 obtain⟨⟨d1,d2,d3,d4⟩,d12,d13,d14,d23,d24,d34⟩:=d
 refine⟨(aH d1).trans h.1,(h.2.1.set c _).congr (fun j _=> ?_),bT h.2.2.1 d12.symm,bT h.2.2.2.1 d13.symm,bT h.2.2.2.2 d14.symm⟩
 (try dsimp only)
 rw[shB_mq]
 split<;>rfl
theorem Qm.s2{go b1 b2 b3 b4 N M:Nat}{B:Nat->Nat}{W T:Nat->Int}{S:Nat->Nat}{st:Int}{q1 q2 q3 q4:Nat->Bool}{v:World}(h:Qm go b1 b2 b3 b4 N M B W T S st q1 q2 q3 q4 v)(d:Dq go b1 b2 b3 b4)(c:Nat):Qm go b1 b2 b3 b4 N M B W T S st q1 (mq q2 c) q3 q4 (v.setCell ⟨b2,c,none⟩ (.int .i64 (W c))):=by
 obtain⟨⟨d1,d2,d3,d4⟩,d12,d13,d14,d23,d24,d34⟩:=d
 refine⟨(aH d2).trans h.1,bT h.2.1 d12,(h.2.2.1.set c _).congr (fun j _=> ?_),bT h.2.2.2.1 d23.symm,bT h.2.2.2.2 d24.symm⟩
 (try dsimp only)
 rw[shW_mq]
 split<;>rfl
theorem Qm.s3{go b1 b2 b3 b4 N M:Nat}{B:Nat->Nat}{W T:Nat->Int}{S:Nat->Nat}{st:Int}{q1 q2 q3 q4:Nat->Bool}{v:World}(h:Qm go b1 b2 b3 b4 N M B W T S st q1 q2 q3 q4 v)(d:Dq go b1 b2 b3 b4)(c:Nat):Qm go b1 b2 b3 b4 N M B W T S st q1 q2 (mq q3 c) q4 (v.setCell ⟨b3,c,none⟩ (.int .i64 (T c))):=by
 obtain⟨⟨d1,d2,d3,d4⟩,d12,d13,d14,d23,d24,d34⟩:=d
 refine⟨(aH d3).trans h.1,bT h.2.1 d13,bT h.2.2.1 d23,(h.2.2.2.1.set c _).congr (fun j _=> ?_),bT h.2.2.2.2 d34.symm⟩
 (try dsimp only)
 rw[shW_mq]
 split<;>rfl
theorem Qm.s4{go b1 b2 b3 b4 N M:Nat}{B:Nat->Nat}{W T:Nat->Int}{S:Nat->Nat}{st:Int}{q1 q2 q3 q4:Nat->Bool}{v:World}(h:Qm go b1 b2 b3 b4 N M B W T S st q1 q2 q3 q4 v)(d:Dq go b1 b2 b3 b4)(c:Nat):Qm go b1 b2 b3 b4 N M B W T S st q1 q2 q3 (mq q4 c) (v.setCell ⟨b4,c,none⟩ (.float .f64 (S c))):=by
 obtain⟨⟨d1,d2,d3,d4⟩,d12,d13,d14,d23,d24,d34⟩:=d
 refine⟨(aH d4).trans h.1,bT h.2.1 d14,bT h.2.2.1 d24,bT h.2.2.2.1 d34,(h.2.2.2.2.set c _).congr (fun j _=> ?_)⟩
 (try dsimp only)
 rw[shB_mq]
 split<;>rfl
theorem hs_stp(f:Nat->Int)(K:Nat)(c:Nat)(hc:f K=(c:Int))(q:Nat->Bool):(fun j=>q j||hs (K+1) f j)=mq (fun j=>q j||hs K f j) c:=by
 funext j
 unfold mq
 have e:hs (K+1) f j=(hs K f j||f K==(j:Int)):=by unfold hs;rw[List.range_succ,List.any_append];simp
 rw[e,hc,Bool.or_assoc]
 congr 2
 rw[Bool.eq_iff_iff,beq_iff_eq,beq_iff_eq]
 omega
theorem iG(go b1 b2 b3 b4 N M:Nat)(qb ob cb qw ow cw qt ot ct:Nat)(ps:Option Addr)(cs:Nat)(B:Nat->Nat)(W T:Nat->Int)(S:Nat->Nat)(sky st:Int)(pc:Option Addr)(lc cc:Nat)(C:Nat->Int)(q q4:Nat->Bool)(W0 w:World)(hN:N<=12288)(hl:lc<=281474976710656)(a0:Ab W0 w)(IB:Hid (IsFl W0 (some ⟨qb,ob,none⟩) N B))(IW:Hid (Sh.IsI W0 (some ⟨qw,ow,none⟩) N W))(IT:Hid (Sh.IsI W0 (some ⟨qt,ot,none⟩) N T))(IC:Hid (Sh.IsI W0 pc lc C))(WC:Hid (wi lc C N))
  (LO:Hid (W0.heap.size<=go/\W0.heap.size<=b1/\W0.heap.size<=b2/\W0.heap.size<=b3)) (DQ:Hid (Dq go b1 b2 b3 b4)) (hq:Qm go b1 b2 b3 b4 N M B W T S st (q) (q) (q) q4 w):
  Calls prog 37 #[.pointer (some ⟨go,0,none⟩),.agg #[.slice (some ⟨qb,ob,none⟩) N cb,.slice (some ⟨qw,ow,none⟩) N cw,.slice (some ⟨qt,ot,none⟩) N ct,.slice ps M cs,.int .i64 sky,.int .i64 st],.slice pc lc cc] w fun e w'=>e=.returned (.tuple #[])/\Ab W0 w'/\Qm go b1 b2 b3 b4 N M B W T S st (fun j=>q j||hs lc C j) (fun j=>q j||hs lc C j) (fun j=>q j||hs lc C j) q4 w':=by
 have HQ0:=hid hq
 have W0A:=hid a0
 have nB:(N:Int)<=12288:=by omega
 have lB:(lc:Int)<=281474976710656:=by omega
 have HN:=hid hN
 clear hN hl a0
 obtain⟨A0,S0⟩:=cD w (.cells #[.slice (some ⟨qb,ob,none⟩) N cb,.slice (some ⟨qw,ow,none⟩) N cw,.slice (some ⟨qt,ot,none⟩) N ct,.slice ps M cs,.int .i64 sky,.int .i64 st] 26)
 have HB:Hid (go<w.heap.size/\b1<w.heap.size/\b2<w.heap.size/\b3<w.heap.size):=⟨lt_of_block hq.1,hq.2.1.lt,hq.2.2.1.lt,hq.2.2.2.1.lt⟩
 go_enter func37,ntmps37
 go_upto_region 1 with fail
 obtain⟨gs,hgs⟩:=aB w.heap.size
 generalize hW:World.alloc w _=v0 at*
 have NS:Hid (gs≠b1/\gs≠b2/\gs≠b3):=by
  have h:=HB.out
  refine⟨?_,?_,?_⟩<;>omega
 rw[hgs]at S0 ⊢
 clear hgs hW hq
 go_wp2
 go_loopw [6] (fun iv wr=> ∃i:Nat,i<=lc/\iv=.int .i64 (i:Nat)/\AbQ v0 (fun b=>b=b1\/b=b2\/b=b3) wr/\Qm go b1 b2 b3 b4 N M B W T S st (fun j=>q j||hs i C j) (fun j=>q j||hs i C j) (fun j=>q j||hs i C j) q4 wr) (fun iv _=>lc - (intOf iv).toNat)
 case atStart=>exact⟨0,by omega,rfl,AbQ.refl _ _,by
  have e:(fun j=>q j||hs 0 C j)=q:=by funext j;unfold hs;simp
  rw[e]
  exact HQ0.out.to A0.out⟩
 case round=>
  obtain⟨i,hi,rfl,aq,tq⟩:=hrel
  have AQ:=hid aq
  have TQ:=hid tq
  have HIL:=hid hi
  have iB:(i:Int)<=281474976710656:=by omega
  clear aq tq hi
  have WR:Hid (Ab W0 wr):=AQ.out.ab (W0A.out.trans A0.out) (fun b hb e=>by
   have h:=LO.out
   rcases e with rfl | rfl | rfl<;>omega)
  by_cases hin:i<lc
  ·have HI:=hid hin
   have iI:(i:Int)<lc:=by omega
   obtain⟨bc,oc,rfl⟩:=IC.out.some0 (by omega)
   have y0:=((IC.out.below WR.out).at0 hin).2.2
   obtain⟨w1,w2⟩:=WC.out i hin
   obtain⟨c,hc⟩: ∃c:Nat,C i=(c:Int):=⟨(C i).toNat,by omega⟩
   rw[hc]at y0 w2
   have HC:=hid hc
   have cN:c<N:=by omega
   have CN:=hid cN
   have cI:(c:Int)<N:=by omega
   have u1:wr.cell? ⟨qb,ob+c,none⟩=some (.float .f64 (B c)):=qS (IB.out.below WR.out) cN
   have u2:wr.cell? ⟨qw,ow+c,none⟩=some (.int .i64 (W c)):=((IW.out.below WR.out).at0 cN).2.2
   have u3:wr.cell? ⟨qt,ot+c,none⟩=some (.int .i64 (T c)):=((IT.out.below WR.out).at0 cN).2.2
   have LT:Hid (qb<W0.heap.size/\qw<W0.heap.size/\qt<W0.heap.size/\W0.heap.size<=wr.heap.size):=by
    refine⟨?_,?_,?_,WR.out.size⟩
    ·obtain⟨_,b,o,e,l,_⟩:=IB.out c cN
     injection e with e
     injection e with e1 e2
     rw[e1];exact l
    ·obtain⟨_,b,o,e,l,_⟩:=IW.out c cN
     injection e with e
     injection e with e1 e2
     rw[e1];exact l
    ·obtain⟨_,b,o,e,l,_⟩:=IT.out c cN
     injection e with e
     injection e with e1 e2
     rw[e1];exact l
   have SQ:Hid (wr.heap[gs]? =some (.cells #[.slice (some ⟨qb,ob,none⟩) N cb,.slice (some ⟨qw,ow,none⟩) N cw,.slice (some ⟨qt,ot,none⟩) N ct,.slice ps M cs,.int .i64 sky,.int .i64 st] 26)):=(AQ.out.2.2.2.2 gs (lt_of_block S0.out) (fun e=>by
    have h:=NS.out
    rcases e with e | e | e
    ·exact h.1 e
    ·exact h.2.1 e
    ·exact h.2.2 e)).trans S0.out
   have U1:=hid u1
   have U2:=hid u2
   have U3:=hid u3
   clear hin w1 w2 hc cN u1 u2 u3
   go_upto_region 5 with fail
   clear y0
   obtain⟨UU,E,hF1,hF2⟩:=cls wr
   have HU:=hid hF2
   have HU1:=hid hF1
   have e0: ∀u,(E u).cell? ⟨go,0,none⟩=some (.slice (some ⟨b1,0,none⟩) N N):=fun u=>aA 0 ((hF1 u).heap TQ.out.1)
   have e1: ∀u,(E u).cell? ⟨gs,0,none⟩=some (.slice (some ⟨qb,ob,none⟩) N cb):=fun u=>aA 0 ((hF1 u).heap SQ.out)
   have e2: ∀u,(E u).cell? ⟨qb,ob+c,none⟩=some (.float .f64 (B c)):=fun u=>(Below.cell (hF1 u) (show qb<wr.heap.size by have h:=LT.out;omega)).trans U1.out
   have DD0:=HU.out _ (Ab.refl wr).drew
   clear hF1 hF2
   refine bW 11 E (by kernel_rfl) (by kernel_rfl) (by kernel_rfl) DD0 ?_
   simp only[List.take_succ_cons,List.take_zero,List.drop_succ_cons,List.drop_zero]
   repeat(go_big_quiet_step (with_reducible rfl))
   refine wpQuiet_nil ?_
   intro z1 hwz
   obtain⟨u0,hu⟩:=hwz
   have Az1:Hid (Ab wr z1):=by rw[hu];exact HU1.out u0
   clear hu u0
   clear HU HU1 DD0 e0 e1 e2
   clear E UU
   have TZ1:=hid (TQ.out.to Az1.out)
   have SZ1:=hid (Ab.heap Az1.out SQ.out)
   have x1:=TZ1.out.2.1.cell CN.out
   have f1:=TZ1.out.2.1.frozen c
   go_upto_region 6 with fail
   clear x1 f1
   obtain⟨s1,hs1⟩:=aB (z1.setCell ⟨b1,c,none⟩ (.float .f64 (B c)))
   have TA1:=hid (TZ1.out.s1 DQ.out c)
   have SA1:=hid ((aH (k:=c) (x:=.float .f64 (B c)) NS.out.1).trans SZ1.out)
   have QA1:Hid (AbQ v0 (fun b=>b=b1\/b=b2\/b=b3) (z1.setCell ⟨b1,c,none⟩ (.float .f64 (B c)))):=(AQ.out.to Az1.out).set (.inl (.inl rfl)) _
   have ZS1:Hid (wr.heap.size<=s1.heap.size):=by
    rw[<- hs1]
    show wr.heap.size<=_
    simpa [World.setCell]using Az1.out.size
   have V12:Hid (s1.cell? ⟨qw,ow+c,none⟩=some (.int .i64 (W c))):=by
    rw[<- hs1]
    refine(World.cell?_of_block (aH (show qw≠b1 by have h:=LT.out;have h2:=LO.out;omega))).trans ((Below.cell Az1.out (show qw<wr.heap.size by have h:=LT.out;omega)).trans U2.out)
   have V13:Hid (s1.cell? ⟨qt,ot+c,none⟩=some (.int .i64 (T c))):=by
    rw[<- hs1]
    refine(World.cell?_of_block (aH (show qt≠b1 by have h:=LT.out;have h2:=LO.out;omega))).trans ((Below.cell Az1.out (show qt<wr.heap.size by have h:=LT.out;omega)).trans U3.out)
   rw[hs1]at TA1 SA1 QA1 ⊢
   clear hs1
   obtain⟨UU,E,hF1,hF2⟩:=cls s1
   have HU:=hid hF2
   have HU1:=hid hF1
   have e0: ∀u,(E u).cell? ⟨go,1,none⟩=some (.slice (some ⟨b2,0,none⟩) N N):=fun u=>aA 1 ((hF1 u).heap TA1.out.1)
   have e1: ∀u,(E u).cell? ⟨gs,1,none⟩=some (.slice (some ⟨qw,ow,none⟩) N cw):=fun u=>aA 1 ((hF1 u).heap SA1.out)
   have e2: ∀u,(E u).cell? ⟨qw,ow+c,none⟩=some (.int .i64 (W c)):=fun u=>(Below.cell (hF1 u) (show qw<s1.heap.size by have h:=LT.out;have h1:=ZS1.out;omega)).trans V12.out
   have DD0:=HU.out _ (Ab.refl s1).drew
   clear hF1 hF2
   refine bW 11 E (by kernel_rfl) (by kernel_rfl) (by kernel_rfl) DD0 ?_
   simp only[List.take_succ_cons,List.take_zero,List.drop_succ_cons,List.drop_zero]
   repeat(go_big_quiet_step (with_reducible rfl))
   refine wpQuiet_nil ?_
   intro z2 hwz
   obtain⟨u0,hu⟩:=hwz
   have Az2:Hid (Ab s1 z2):=by rw[hu];exact HU1.out u0
   clear hu u0
   clear HU HU1 DD0 e0 e1 e2
   clear E UU
   have TZ2:=hid (TA1.out.to Az2.out)
   have SZ2:=hid (Ab.heap Az2.out SA1.out)
   have x1:=TZ2.out.2.2.1.cell CN.out
   have f1:=TZ2.out.2.2.1.frozen c
   go_upto_region 7 with fail
   clear x1 f1
   obtain⟨s2,hs2⟩:=aB (z2.setCell ⟨b2,c,none⟩ (.int .i64 (W c)))
   have TA2:=hid (TZ2.out.s2 DQ.out c)
   have SA2:=hid ((aH (k:=c) (x:=.int .i64 (W c)) NS.out.2.1).trans SZ2.out)
   have QA2:Hid (AbQ v0 (fun b=>b=b1\/b=b2\/b=b3) (z2.setCell ⟨b2,c,none⟩ (.int .i64 (W c)))):=(QA1.out.to Az2.out).set (.inl (.inr (.inl rfl))) _
   have ZS2:Hid (s1.heap.size<=s2.heap.size):=by
    rw[<- hs2]
    show s1.heap.size<=_
    simpa [World.setCell]using Az2.out.size
   have V23:Hid (s2.cell? ⟨qt,ot+c,none⟩=some (.int .i64 (T c))):=by
    rw[<- hs2]
    refine(World.cell?_of_block (aH (show qt≠b2 by have h:=LT.out;have h2:=LO.out;omega))).trans ((Below.cell Az2.out (show qt<s1.heap.size by have h:=LT.out;have h1:=ZS1.out;omega)).trans V13.out)
   rw[hs2]at TA2 SA2 QA2 ⊢
   clear hs2
   obtain⟨UU,E,hF1,hF2⟩:=cls s2
   have HU:=hid hF2
   have HU1:=hid hF1
   have e0: ∀u,(E u).cell? ⟨go,2,none⟩=some (.slice (some ⟨b3,0,none⟩) N N):=fun u=>aA 2 ((hF1 u).heap TA2.out.1)
   have e1: ∀u,(E u).cell? ⟨gs,2,none⟩=some (.slice (some ⟨qt,ot,none⟩) N ct):=fun u=>aA 2 ((hF1 u).heap SA2.out)
   have e2: ∀u,(E u).cell? ⟨qt,ot+c,none⟩=some (.int .i64 (T c)):=fun u=>(Below.cell (hF1 u) (show qt<s2.heap.size by have h:=LT.out;have h1:=ZS1.out;have h2:=ZS2.out;omega)).trans V23.out
   have DD0:=HU.out _ (Ab.refl s2).drew
   clear hF1 hF2
   refine bW 11 E (by kernel_rfl) (by kernel_rfl) (by kernel_rfl) DD0 ?_
   simp only[List.take_succ_cons,List.take_zero,List.drop_succ_cons,List.drop_zero]
   repeat(go_big_quiet_step (with_reducible rfl))
   refine wpQuiet_nil ?_
   intro z3 hwz
   obtain⟨u0,hu⟩:=hwz
   have Az3:Hid (Ab s2 z3):=by rw[hu];exact HU1.out u0
   clear hu u0
   clear HU HU1 DD0 e0 e1 e2
   clear E UU
   have TZ3:=hid (TA2.out.to Az3.out)
   have SZ3:=hid (Ab.heap Az3.out SA2.out)
   have x1:=TZ3.out.2.2.2.1.cell CN.out
   have f1:=TZ3.out.2.2.2.1.frozen c
   go_wp2
   exact⟨⟨i+1,by have:=HI.out;omega,by simp,(QA2.out.to Az3.out).set (.inl (.inr (.inr rfl))) _,by
    rw[hs_stp C i c HC.out]
    exact TZ3.out.s3 DQ.out c⟩,by have:=HI.out;simp[intOf];omega⟩
  ·have e6:lc=i:=by have:=HIL.out;omega
   subst e6
   go_wp2
   go_end0
   exact⟨rfl,WR.out,TQ.out⟩
end Spl
end
end Go.Proofs.YtilfdnipahabbaaGreatDoor
