/-
  Some of the texts of this proof, one behind the other.
-/
import Derived.Test.YtilfdnipahabbaaGreatDoorUd12
set_option maxRecDepth 100000
set_option maxHeartbeats 400000000
namespace Go.Proofs.YtilfdnipahabbaaGreatDoor
open _root_.Go.Proofs.Tryz
section
open Go.RowKit Tf Cu Go.Deep
attribute [local go_sem] aL aM aP aQ aR aU aV aD
namespace Spl
theorem tQ{P:Program}{a:Act}{o:Oper}{x:Operand}{f:FuncId}{fn:Func}{ats:Array TypeId}{v:Value}(ho:o.op=.call {callee:=.value (.func f),args:= #[x],argTypes:=ats})(hx:a.eval x=v)(hf:P.funcs[f]? =some fn)(hn:(fn.name== "runtime.NumGoroutine")=false)(hb:fn.body.isNone=false)(w:World):(execOp a.eval o).run P w=.ok (.enter f #[v]) w:=by
 have h1:fn.name≠ "runtime.NumGoroutine" :=by simpa using hn
 have ef:a.eval (.func f)=.func (.func f) #[] #[]:=rfl
 have e:execOp a.eval o=callFunc f #[v]:=by
  unfold execOp
  simp[ho,resolve,Deferred.ofValue,invoke,ef,hx]
 obtain⟨c,hc⟩: ∃c,fn.body=some c:=by
  cases h:fn.body with
  | none=>simp[h]at hb
  | some c=>exact⟨c,rfl⟩
 rw[e]
 simp[callFunc,hf,h1,hc]
theorem rfits22{n rb:Nat}(pb pw pt ps:Option Addr)(lb cb lw cw lt ct ls cs:Nat)(sky st:Int)(q:Bool)(w:World)(hn:1<=n/\n<=32)(g:RefOf n rb w)(hq:q=true ↔ (lb=6*n*n/\lw=6*n*n/\lt=6*n*n/\ls=12*n*n)):
  Calls prog 34 #[(.pointer (some ⟨rb,0,none⟩)),.agg #[.slice pb lb cb,.slice pw lw cw,.slice pt lt ct,.slice ps ls cs,.int .i64 sky,.int .i64 st]] w fun e w'=>e=.returned (.bool q)/\Below w.heap.size w w':=by
 refine qU rb pb pw pt ps lb cb lw cw lt ct ls cs sky st (6*n*n) (12*n*n) q w ?_ (fun v hv=>(kZ hn (g.to hv)).mono fun _ _ h=>⟨h.1,by obtain⟨_,rfl⟩:=h;exact Below.refl _ _⟩) (fun v hv=>(lA (g.to hv)).mono fun _ _ h=>⟨h.1,by obtain⟨_,rfl⟩:=h;exact Below.refl _ _⟩)
 generalize 6*n*n=M at*
 generalize 12*n*n=N at*
 have e: ∀a b:Nat,(((a:Int)==(b:Int))=true ↔ a=b):=fun a b=>by simp;omega
 have f: ∀a b:Nat,(((a:Int)==(b:Int))=false ↔ a≠b):=fun a b=>by simp;omega
 rw[e,f,e,f,e,f]
 by_cases h1:lb=M
 ·by_cases h2:lw=M
  ·by_cases h3:lt=M
   ·refine .inr (.inr (.inr ⟨h1,h2,h3,?_⟩))
    by_cases h4:ls=N
    ·rw[hq.2 ⟨h1,h2,h3,h4⟩];exact(e _ _).2 h4
    ·have:q=false:=by
        cases q;· rfl
        ·exact absurd (hq.1 rfl).2.2.2 h4
     rw[this];exact(f _ _).2 h4
   ·exact .inr (.inr (.inl ⟨h1,h2,h3,by
           cases q;· rfl
           ·exact absurd (hq.1 rfl).2.2.1 h3⟩))
  ·exact .inr (.inl ⟨h1,h2,by
         cases q;· rfl
         ·exact absurd (hq.1 rfl).2.1 h2⟩)
 ·exact .inl ⟨h1,by
      cases q;· rfl
      ·exact absurd (hq.1 rfl).1 h1⟩
theorem rlocal_0(rb:Nat)(pc:Option Addr)(lc cc:Nat)(pe:Option Addr)(le ce:Nat)(ph:Option Addr)(lh ch:Nat)(pb:Option Addr)(lb cb:Nat)(pw:Option Addr)(lw cw:Nat)(pt:Option Addr)(lt ct:Nat)(ps:Option Addr)(ls cs:Nat)(sky st:Int)(N:Nat)(w:World)
  (CF:Hid (∀v,Ab w v->Calls prog 34 #[.pointer (some ⟨rb,0,none⟩),.agg #[.slice pb lb cb,.slice pw lw cw,.slice pt lt ct,.slice ps ls cs,.int .i64 sky,.int .i64 st]] v fun e w'=>e=.returned (.bool false)/\Below v.heap.size v w'))
  (CC:Hid (∀v,Ab w v->Calls prog 33 #[.pointer (some ⟨rb,0,none⟩)] v fun e w'=>e=.returned (.int .i64 (N:Nat))/\Below v.heap.size v w')):
  Calls prog 9 #[.pointer (some ⟨rb,0,none⟩),.agg #[.slice pc lc cc,.slice pe le ce,.slice ph lh ch],.agg #[.slice pb lb cb,.slice pw lw cw,.slice pt lt ct,.slice ps ls cs,.int .i64 sky,.int .i64 st]] w fun e w'=>e=.returned (.tuple #[.agg #[.slice none 0 0,.slice none 0 0,.slice none 0 0,.slice none 0 0,.int .i64 0,.int .i64 0],.int .i64 1])/\Below w.heap.size w w':=by
 have A0:Hid (Ab w (((w.alloc (.cells #[.slice pc lc cc,.slice pe le ce,.slice ph lh ch] 41)).alloc (.cells #[.slice pb lb cb,.slice pw lw cw,.slice pt lt ct,.slice ps ls cs,.int .i64 sky,.int .i64 st] 26)).alloc (.cells #[.slice none 0 0,.slice none 0 0,.slice none 0 0,.slice none 0 0,.int .i64 0,.int .i64 0] 26))):=Ab.trans (bl2 _ _ _) (bl1 _ _)
 have P0:Hid ((((w.alloc (.cells #[.slice pc lc cc,.slice pe le ce,.slice ph lh ch] 41)).alloc (.cells #[.slice pb lb cb,.slice pw lw cw,.slice pt lt ct,.slice ps ls cs,.int .i64 sky,.int .i64 st] 26)).alloc (.cells #[.slice none 0 0,.slice none 0 0,.slice none 0 0,.slice none 0 0,.int .i64 0,.int .i64 0] 26)).heap[w.heap.size]? =some (.cells #[.slice pc lc cc,.slice pe le ce,.slice ph lh ch] 41)):=Ab.heap (bl1 _ _) (heap_alloc2_old _ _ _)
 have S0:Hid ((((w.alloc (.cells #[.slice pc lc cc,.slice pe le ce,.slice ph lh ch] 41)).alloc (.cells #[.slice pb lb cb,.slice pw lw cw,.slice pt lt ct,.slice ps ls cs,.int .i64 sky,.int .i64 st] 26)).alloc (.cells #[.slice none 0 0,.slice none 0 0,.slice none 0 0,.slice none 0 0,.int .i64 0,.int .i64 0] 26)).heap[w.heap.size+1]? =some (.cells #[.slice pb lb cb,.slice pw lw cw,.slice pt lt ct,.slice ps ls cs,.int .i64 sky,.int .i64 st] 26)):=Ab.heap (bl1 _ _) (heap_alloc2_new _ _ _)
 have Q0:Hid ((((w.alloc (.cells #[.slice pc lc cc,.slice pe le ce,.slice ph lh ch] 41)).alloc (.cells #[.slice pb lb cb,.slice pw lw cw,.slice pt lt ct,.slice ps ls cs,.int .i64 sky,.int .i64 st] 26)).alloc (.cells #[.slice none 0 0,.slice none 0 0,.slice none 0 0,.slice none 0 0,.int .i64 0,.int .i64 0] 26)).heap[w.heap.size+1+1]? =some (.cells #[.slice none 0 0,.slice none 0 0,.slice none 0 0,.slice none 0 0,.int .i64 0,.int .i64 0] 26)):=by
  have h:=heap_alloc_new ((w.alloc (.cells #[.slice pc lc cc,.slice pe le ce,.slice ph lh ch] 41)).alloc (.cells #[.slice pb lb cb,.slice pw lw cw,.slice pt lt ct,.slice ps ls cs,.int .i64 sky,.int .i64 st] 26)) (.cells #[.slice none 0 0,.slice none 0 0,.slice none 0 0,.slice none 0 0,.int .i64 0,.int .i64 0] 26)
  have e:((w.alloc (.cells #[.slice pc lc cc,.slice pe le ce,.slice ph lh ch] 41)).alloc (.cells #[.slice pb lb cb,.slice pw lw cw,.slice pt lt ct,.slice ps ls cs,.int .i64 sky,.int .i64 st] 26)).heap.size=w.heap.size+1+1:=by rw[bO,bO]
  rw[e]at h
  exact h
 go_enter func9,ntmps9
 go_upto_region 1 with fail
 generalize hW:World.alloc (World.alloc (World.alloc w _) _) _=V0 at*
 obtain⟨gp,hgp⟩:=aB w.heap.size
 obtain⟨gs,hgs⟩:=aB (w.heap.size+1)
 obtain⟨gr,hgr⟩:=aB (w.heap.size+1+1)
 have HG:Hid (w.heap.size<=gr):=by show _<=_;omega
 rw[hgr]at Q0 ⊢
 rw[hgs]at S0 ⊢
 rw[hgp]at P0 ⊢
 clear hgp hgs hgr hW
 go_wp2_with fail
 refine(CC.out V0 A0.out).mono ?_
 rintro e9 V1 ⟨rfl,k9⟩
 have A1:Hid (Ab w V1):=A0.out.call k9
 have P1:=hid (Ab.heap k9 P0.out)
 have S1:=hid (Ab.heap k9 S0.out)
 have Q1:=hid (Ab.heap k9 Q0.out)
 clear k9 A0 P0 S0 Q0 CC
 go_upto_region 4 with fail
 obtain⟨UU,E,hF1,hF2⟩:=cls V1
 have HU:=hid hF2
 have HU1:=hid hF1
 have HX:Hid (∀u,Ab w (E u)):=fun u=>Ab.trans A1.out (hF1 u)
 have p0: ∀u,(E u).cell? ⟨gp,0,none⟩=some (.slice pc lc cc):=fun u=>aA 0 ((hF1 u).heap P1.out)
 have p1: ∀u,(E u).cell? ⟨gp,1,none⟩=some (.slice pe le ce):=fun u=>aA 1 ((hF1 u).heap P1.out)
 have p2: ∀u,(E u).cell? ⟨gp,2,none⟩=some (.slice ph lh ch):=fun u=>aA 2 ((hF1 u).heap P1.out)
 have s0: ∀u,(E u).cell? ⟨gs,0,none⟩=some (.slice pb lb cb):=fun u=>aA 0 ((hF1 u).heap S1.out)
 have s1: ∀u,(E u).cell? ⟨gs,1,none⟩=some (.slice pw lw cw):=fun u=>aA 1 ((hF1 u).heap S1.out)
 have s2: ∀u,(E u).cell? ⟨gs,2,none⟩=some (.slice pt lt ct):=fun u=>aA 2 ((hF1 u).heap S1.out)
 have s3: ∀u,(E u).cell? ⟨gs,3,none⟩=some (.slice ps ls cs):=fun u=>aA 3 ((hF1 u).heap S1.out)
 have s4: ∀u,(E u).cell? ⟨gs,4,none⟩=some (.int .i64 sky):=fun u=>aA 4 ((hF1 u).heap S1.out)
 have s5: ∀u,(E u).cell? ⟨gs,5,none⟩=some (.int .i64 st):=fun u=>aA 5 ((hF1 u).heap S1.out)
 have DD0:=HU.out _ (Ab.refl V1).drew
 clear hF1 hF2
 refine aI E (by kernel_rfl) (by kernel_rfl) DD0 ?_
 repeat(go_big_quiet_step (first
  | (with_reducible rfl)
  | (go_at_call 34;exact aC HU HU1 (CF.out _ (HX.out _)))))
 refine wpQuiet_nil ?_
 intro z hwz
 obtain⟨u0,hu⟩:=hwz
 have AZ:Hid (Ab V1 z):=by rw[hu];exact HU1.out u0
 clear hu u0
 clear HU HU1 HX DD0 p0 p1 p2 s0 s1 s2 s3 s4 s5
 clear E UU
 have A2:Hid (Ab w z):=A1.out.trans AZ.out
 have Q2:=hid (AZ.out.heap Q1.out)
 have t0:=aE Q2.out
 have f0:=bE Q2.out
 go_wp2_with fail
 (try simp only[Exit.inBlock,Exit.then])
 refine bodyPost_ret (v:=.tuple #[.agg #[.slice none 0 0,.slice none 0 0,.slice none 0 0,.slice none 0 0,.int .i64 0,.int .i64 0],.int .i64 1]) ?_ rfl ?_
 ·exact bK results9 _ _ gr _ _ (0,0) _ _ rfl rfl (fI Q2.out) underlying26 rfl (by kernel_rfl)
 ·exact⟨rfl,(((((A2.out.setk HG.out _).setk HG.out _).setk HG.out _).setk HG.out _).setk HG.out _).setk HG.out _⟩
theorem rlocal_1(rb:Nat)(pc:Option Addr)(lc cc:Nat)(pe:Option Addr)(le ce:Nat)(ph:Option Addr)(lh ch:Nat)(pb:Option Addr)(lb cb:Nat)(pw:Option Addr)(lw cw:Nat)(pt:Option Addr)(lt ct:Nat)(ps:Option Addr)(ls cs:Nat)(sky st:Int)(N:Nat)(w:World)
  (CF:Hid (∀v,Ab w v->Calls prog 34 #[.pointer (some ⟨rb,0,none⟩),.agg #[.slice pb lb cb,.slice pw lw cw,.slice pt lt ct,.slice ps ls cs,.int .i64 sky,.int .i64 st]] v fun e w'=>e=.returned (.bool true)/\Below v.heap.size v w'))
  (CC:Hid (∀v,Ab w v->Calls prog 33 #[.pointer (some ⟨rb,0,none⟩)] v fun e w'=>e=.returned (.int .i64 (N:Nat))/\Below v.heap.size v w'))
  (C1:Hid (∀v,Ab w v->Calls prog 35 #[.slice pc lc cc,.int .i64 (N:Nat)] v fun e w'=>e=.returned (.bool false)/\Below v.heap.size v w')):
  Calls prog 9 #[.pointer (some ⟨rb,0,none⟩),.agg #[.slice pc lc cc,.slice pe le ce,.slice ph lh ch],.agg #[.slice pb lb cb,.slice pw lw cw,.slice pt lt ct,.slice ps ls cs,.int .i64 sky,.int .i64 st]] w fun e w'=>e=.returned (.tuple #[.agg #[.slice none 0 0,.slice none 0 0,.slice none 0 0,.slice none 0 0,.int .i64 0,.int .i64 0],.int .i64 1])/\Below w.heap.size w w':=by
 have A0:Hid (Ab w (((w.alloc (.cells #[.slice pc lc cc,.slice pe le ce,.slice ph lh ch] 41)).alloc (.cells #[.slice pb lb cb,.slice pw lw cw,.slice pt lt ct,.slice ps ls cs,.int .i64 sky,.int .i64 st] 26)).alloc (.cells #[.slice none 0 0,.slice none 0 0,.slice none 0 0,.slice none 0 0,.int .i64 0,.int .i64 0] 26))):=Ab.trans (bl2 _ _ _) (bl1 _ _)
 have P0:Hid ((((w.alloc (.cells #[.slice pc lc cc,.slice pe le ce,.slice ph lh ch] 41)).alloc (.cells #[.slice pb lb cb,.slice pw lw cw,.slice pt lt ct,.slice ps ls cs,.int .i64 sky,.int .i64 st] 26)).alloc (.cells #[.slice none 0 0,.slice none 0 0,.slice none 0 0,.slice none 0 0,.int .i64 0,.int .i64 0] 26)).heap[w.heap.size]? =some (.cells #[.slice pc lc cc,.slice pe le ce,.slice ph lh ch] 41)):=Ab.heap (bl1 _ _) (heap_alloc2_old _ _ _)
 have S0:Hid ((((w.alloc (.cells #[.slice pc lc cc,.slice pe le ce,.slice ph lh ch] 41)).alloc (.cells #[.slice pb lb cb,.slice pw lw cw,.slice pt lt ct,.slice ps ls cs,.int .i64 sky,.int .i64 st] 26)).alloc (.cells #[.slice none 0 0,.slice none 0 0,.slice none 0 0,.slice none 0 0,.int .i64 0,.int .i64 0] 26)).heap[w.heap.size+1]? =some (.cells #[.slice pb lb cb,.slice pw lw cw,.slice pt lt ct,.slice ps ls cs,.int .i64 sky,.int .i64 st] 26)):=Ab.heap (bl1 _ _) (heap_alloc2_new _ _ _)
 have Q0:Hid ((((w.alloc (.cells #[.slice pc lc cc,.slice pe le ce,.slice ph lh ch] 41)).alloc (.cells #[.slice pb lb cb,.slice pw lw cw,.slice pt lt ct,.slice ps ls cs,.int .i64 sky,.int .i64 st] 26)).alloc (.cells #[.slice none 0 0,.slice none 0 0,.slice none 0 0,.slice none 0 0,.int .i64 0,.int .i64 0] 26)).heap[w.heap.size+1+1]? =some (.cells #[.slice none 0 0,.slice none 0 0,.slice none 0 0,.slice none 0 0,.int .i64 0,.int .i64 0] 26)):=by
  have h:=heap_alloc_new ((w.alloc (.cells #[.slice pc lc cc,.slice pe le ce,.slice ph lh ch] 41)).alloc (.cells #[.slice pb lb cb,.slice pw lw cw,.slice pt lt ct,.slice ps ls cs,.int .i64 sky,.int .i64 st] 26)) (.cells #[.slice none 0 0,.slice none 0 0,.slice none 0 0,.slice none 0 0,.int .i64 0,.int .i64 0] 26)
  have e:((w.alloc (.cells #[.slice pc lc cc,.slice pe le ce,.slice ph lh ch] 41)).alloc (.cells #[.slice pb lb cb,.slice pw lw cw,.slice pt lt ct,.slice ps ls cs,.int .i64 sky,.int .i64 st] 26)).heap.size=w.heap.size+1+1:=by rw[bO,bO]
  rw[e]at h
  exact h
 go_enter func9,ntmps9
 go_upto_region 1 with fail
 generalize hW:World.alloc (World.alloc (World.alloc w _) _) _=V0 at*
 obtain⟨gp,hgp⟩:=aB w.heap.size
 obtain⟨gs,hgs⟩:=aB (w.heap.size+1)
 obtain⟨gr,hgr⟩:=aB (w.heap.size+1+1)
 have HG:Hid (w.heap.size<=gr):=by show _<=_;omega
 rw[hgr]at Q0 ⊢
 rw[hgs]at S0 ⊢
 rw[hgp]at P0 ⊢
 clear hgp hgs hgr hW
 go_wp2_with fail
 refine(CC.out V0 A0.out).mono ?_
 rintro e9 V1 ⟨rfl,k9⟩
 have A1:Hid (Ab w V1):=A0.out.call k9
 have P1:=hid (Ab.heap k9 P0.out)
 have S1:=hid (Ab.heap k9 S0.out)
 have Q1:=hid (Ab.heap k9 Q0.out)
 clear k9 A0 P0 S0 Q0 CC
 go_upto_region 4 with fail
 obtain⟨UU,E,hF1,hF2⟩:=cls V1
 have HU:=hid hF2
 have HU1:=hid hF1
 have HX:Hid (∀u,Ab w (E u)):=fun u=>Ab.trans A1.out (hF1 u)
 have p0: ∀u,(E u).cell? ⟨gp,0,none⟩=some (.slice pc lc cc):=fun u=>aA 0 ((hF1 u).heap P1.out)
 have p1: ∀u,(E u).cell? ⟨gp,1,none⟩=some (.slice pe le ce):=fun u=>aA 1 ((hF1 u).heap P1.out)
 have p2: ∀u,(E u).cell? ⟨gp,2,none⟩=some (.slice ph lh ch):=fun u=>aA 2 ((hF1 u).heap P1.out)
 have s0: ∀u,(E u).cell? ⟨gs,0,none⟩=some (.slice pb lb cb):=fun u=>aA 0 ((hF1 u).heap S1.out)
 have s1: ∀u,(E u).cell? ⟨gs,1,none⟩=some (.slice pw lw cw):=fun u=>aA 1 ((hF1 u).heap S1.out)
 have s2: ∀u,(E u).cell? ⟨gs,2,none⟩=some (.slice pt lt ct):=fun u=>aA 2 ((hF1 u).heap S1.out)
 have s3: ∀u,(E u).cell? ⟨gs,3,none⟩=some (.slice ps ls cs):=fun u=>aA 3 ((hF1 u).heap S1.out)
 have s4: ∀u,(E u).cell? ⟨gs,4,none⟩=some (.int .i64 sky):=fun u=>aA 4 ((hF1 u).heap S1.out)
 have s5: ∀u,(E u).cell? ⟨gs,5,none⟩=some (.int .i64 st):=fun u=>aA 5 ((hF1 u).heap S1.out)
 have DD0:=HU.out _ (Ab.refl V1).drew
 clear hF1 hF2
 refine aI E (by kernel_rfl) (by kernel_rfl) DD0 ?_
 repeat(go_big_quiet_step (first
  | (with_reducible rfl)
  | (go_at_call 34;exact aC HU HU1 (CF.out _ (HX.out _)))
  | (go_at_call_of 35 lc;exact aC HU HU1 (C1.out _ (HX.out _)))))
 refine wpQuiet_nil ?_
 intro z hwz
 obtain⟨u0,hu⟩:=hwz
 have AZ:Hid (Ab V1 z):=by rw[hu];exact HU1.out u0
 clear hu u0
 clear HU HU1 HX DD0 p0 p1 p2 s0 s1 s2 s3 s4 s5
 clear E UU
 have A2:Hid (Ab w z):=A1.out.trans AZ.out
 have Q2:=hid (AZ.out.heap Q1.out)
 have t0:=aE Q2.out
 have f0:=bE Q2.out
 go_wp2_with fail
 (try simp only[Exit.inBlock,Exit.then])
 refine bodyPost_ret (v:=.tuple #[.agg #[.slice none 0 0,.slice none 0 0,.slice none 0 0,.slice none 0 0,.int .i64 0,.int .i64 0],.int .i64 1]) ?_ rfl ?_
 ·exact bK results9 _ _ gr _ _ (0,0) _ _ rfl rfl (fI Q2.out) underlying26 rfl (by kernel_rfl)
 ·exact⟨rfl,(((((A2.out.setk HG.out _).setk HG.out _).setk HG.out _).setk HG.out _).setk HG.out _).setk HG.out _⟩
theorem rlocal_2(rb:Nat)(pc:Option Addr)(lc cc:Nat)(pe:Option Addr)(le ce:Nat)(ph:Option Addr)(lh ch:Nat)(pb:Option Addr)(lb cb:Nat)(pw:Option Addr)(lw cw:Nat)(pt:Option Addr)(lt ct:Nat)(ps:Option Addr)(ls cs:Nat)(sky st:Int)(N:Nat)(w:World)
  (CF:Hid (∀v,Ab w v->Calls prog 34 #[.pointer (some ⟨rb,0,none⟩),.agg #[.slice pb lb cb,.slice pw lw cw,.slice pt lt ct,.slice ps ls cs,.int .i64 sky,.int .i64 st]] v fun e w'=>e=.returned (.bool true)/\Below v.heap.size v w'))
  (CC:Hid (∀v,Ab w v->Calls prog 33 #[.pointer (some ⟨rb,0,none⟩)] v fun e w'=>e=.returned (.int .i64 (N:Nat))/\Below v.heap.size v w'))
  (C1:Hid (∀v,Ab w v->Calls prog 35 #[.slice pc lc cc,.int .i64 (N:Nat)] v fun e w'=>e=.returned (.bool true)/\Below v.heap.size v w'))
  (C2:Hid (∀v,Ab w v->Calls prog 35 #[.slice ph lh ch,.int .i64 (N:Nat)] v fun e w'=>e=.returned (.bool false)/\Below v.heap.size v w')):
  Calls prog 9 #[.pointer (some ⟨rb,0,none⟩),.agg #[.slice pc lc cc,.slice pe le ce,.slice ph lh ch],.agg #[.slice pb lb cb,.slice pw lw cw,.slice pt lt ct,.slice ps ls cs,.int .i64 sky,.int .i64 st]] w fun e w'=>e=.returned (.tuple #[.agg #[.slice none 0 0,.slice none 0 0,.slice none 0 0,.slice none 0 0,.int .i64 0,.int .i64 0],.int .i64 1])/\Below w.heap.size w w':=by
 have A0:Hid (Ab w (((w.alloc (.cells #[.slice pc lc cc,.slice pe le ce,.slice ph lh ch] 41)).alloc (.cells #[.slice pb lb cb,.slice pw lw cw,.slice pt lt ct,.slice ps ls cs,.int .i64 sky,.int .i64 st] 26)).alloc (.cells #[.slice none 0 0,.slice none 0 0,.slice none 0 0,.slice none 0 0,.int .i64 0,.int .i64 0] 26))):=Ab.trans (bl2 _ _ _) (bl1 _ _)
 have P0:Hid ((((w.alloc (.cells #[.slice pc lc cc,.slice pe le ce,.slice ph lh ch] 41)).alloc (.cells #[.slice pb lb cb,.slice pw lw cw,.slice pt lt ct,.slice ps ls cs,.int .i64 sky,.int .i64 st] 26)).alloc (.cells #[.slice none 0 0,.slice none 0 0,.slice none 0 0,.slice none 0 0,.int .i64 0,.int .i64 0] 26)).heap[w.heap.size]? =some (.cells #[.slice pc lc cc,.slice pe le ce,.slice ph lh ch] 41)):=Ab.heap (bl1 _ _) (heap_alloc2_old _ _ _)
 have S0:Hid ((((w.alloc (.cells #[.slice pc lc cc,.slice pe le ce,.slice ph lh ch] 41)).alloc (.cells #[.slice pb lb cb,.slice pw lw cw,.slice pt lt ct,.slice ps ls cs,.int .i64 sky,.int .i64 st] 26)).alloc (.cells #[.slice none 0 0,.slice none 0 0,.slice none 0 0,.slice none 0 0,.int .i64 0,.int .i64 0] 26)).heap[w.heap.size+1]? =some (.cells #[.slice pb lb cb,.slice pw lw cw,.slice pt lt ct,.slice ps ls cs,.int .i64 sky,.int .i64 st] 26)):=Ab.heap (bl1 _ _) (heap_alloc2_new _ _ _)
 have Q0:Hid ((((w.alloc (.cells #[.slice pc lc cc,.slice pe le ce,.slice ph lh ch] 41)).alloc (.cells #[.slice pb lb cb,.slice pw lw cw,.slice pt lt ct,.slice ps ls cs,.int .i64 sky,.int .i64 st] 26)).alloc (.cells #[.slice none 0 0,.slice none 0 0,.slice none 0 0,.slice none 0 0,.int .i64 0,.int .i64 0] 26)).heap[w.heap.size+1+1]? =some (.cells #[.slice none 0 0,.slice none 0 0,.slice none 0 0,.slice none 0 0,.int .i64 0,.int .i64 0] 26)):=by
  have h:=heap_alloc_new ((w.alloc (.cells #[.slice pc lc cc,.slice pe le ce,.slice ph lh ch] 41)).alloc (.cells #[.slice pb lb cb,.slice pw lw cw,.slice pt lt ct,.slice ps ls cs,.int .i64 sky,.int .i64 st] 26)) (.cells #[.slice none 0 0,.slice none 0 0,.slice none 0 0,.slice none 0 0,.int .i64 0,.int .i64 0] 26)
  have e:((w.alloc (.cells #[.slice pc lc cc,.slice pe le ce,.slice ph lh ch] 41)).alloc (.cells #[.slice pb lb cb,.slice pw lw cw,.slice pt lt ct,.slice ps ls cs,.int .i64 sky,.int .i64 st] 26)).heap.size=w.heap.size+1+1:=by rw[bO,bO]
  rw[e]at h
  exact h
 go_enter func9,ntmps9
 go_upto_region 1 with fail
 generalize hW:World.alloc (World.alloc (World.alloc w _) _) _=V0 at*
 obtain⟨gp,hgp⟩:=aB w.heap.size
 obtain⟨gs,hgs⟩:=aB (w.heap.size+1)
 obtain⟨gr,hgr⟩:=aB (w.heap.size+1+1)
 have HG:Hid (w.heap.size<=gr):=by show _<=_;omega
 rw[hgr]at Q0 ⊢
 rw[hgs]at S0 ⊢
 rw[hgp]at P0 ⊢
 clear hgp hgs hgr hW
 go_wp2_with fail
 refine(CC.out V0 A0.out).mono ?_
 rintro e9 V1 ⟨rfl,k9⟩
 have A1:Hid (Ab w V1):=A0.out.call k9
 have P1:=hid (Ab.heap k9 P0.out)
 have S1:=hid (Ab.heap k9 S0.out)
 have Q1:=hid (Ab.heap k9 Q0.out)
 clear k9 A0 P0 S0 Q0 CC
 go_upto_region 4 with fail
 obtain⟨UU,E,hF1,hF2⟩:=cls V1
 have HU:=hid hF2
 have HU1:=hid hF1
 have HX:Hid (∀u,Ab w (E u)):=fun u=>Ab.trans A1.out (hF1 u)
 have p0: ∀u,(E u).cell? ⟨gp,0,none⟩=some (.slice pc lc cc):=fun u=>aA 0 ((hF1 u).heap P1.out)
 have p1: ∀u,(E u).cell? ⟨gp,1,none⟩=some (.slice pe le ce):=fun u=>aA 1 ((hF1 u).heap P1.out)
 have p2: ∀u,(E u).cell? ⟨gp,2,none⟩=some (.slice ph lh ch):=fun u=>aA 2 ((hF1 u).heap P1.out)
 have s0: ∀u,(E u).cell? ⟨gs,0,none⟩=some (.slice pb lb cb):=fun u=>aA 0 ((hF1 u).heap S1.out)
 have s1: ∀u,(E u).cell? ⟨gs,1,none⟩=some (.slice pw lw cw):=fun u=>aA 1 ((hF1 u).heap S1.out)
 have s2: ∀u,(E u).cell? ⟨gs,2,none⟩=some (.slice pt lt ct):=fun u=>aA 2 ((hF1 u).heap S1.out)
 have s3: ∀u,(E u).cell? ⟨gs,3,none⟩=some (.slice ps ls cs):=fun u=>aA 3 ((hF1 u).heap S1.out)
 have s4: ∀u,(E u).cell? ⟨gs,4,none⟩=some (.int .i64 sky):=fun u=>aA 4 ((hF1 u).heap S1.out)
 have s5: ∀u,(E u).cell? ⟨gs,5,none⟩=some (.int .i64 st):=fun u=>aA 5 ((hF1 u).heap S1.out)
 have DD0:=HU.out _ (Ab.refl V1).drew
 clear hF1 hF2
 refine aI E (by kernel_rfl) (by kernel_rfl) DD0 ?_
 repeat(go_big_quiet_step (first
  | (with_reducible rfl)
  | (go_at_call 34;exact aC HU HU1 (CF.out _ (HX.out _)))
  | (go_at_call_of 35 lc;exact aC HU HU1 (C1.out _ (HX.out _)))
  | (go_at_call_of 35 lh;exact aC HU HU1 (C2.out _ (HX.out _)))))
 refine wpQuiet_nil ?_
 intro z hwz
 obtain⟨u0,hu⟩:=hwz
 have AZ:Hid (Ab V1 z):=by rw[hu];exact HU1.out u0
 clear hu u0
 clear HU HU1 HX DD0 p0 p1 p2 s0 s1 s2 s3 s4 s5
 clear E UU
 have A2:Hid (Ab w z):=A1.out.trans AZ.out
 have Q2:=hid (AZ.out.heap Q1.out)
 have t0:=aE Q2.out
 have f0:=bE Q2.out
 go_wp2_with fail
 (try simp only[Exit.inBlock,Exit.then])
 refine bodyPost_ret (v:=.tuple #[.agg #[.slice none 0 0,.slice none 0 0,.slice none 0 0,.slice none 0 0,.int .i64 0,.int .i64 0],.int .i64 1]) ?_ rfl ?_
 ·exact bK results9 _ _ gr _ _ (0,0) _ _ rfl rfl (fI Q2.out) underlying26 rfl (by kernel_rfl)
 ·exact⟨rfl,(((((A2.out.setk HG.out _).setk HG.out _).setk HG.out _).setk HG.out _).setk HG.out _).setk HG.out _⟩
theorem rlocal_3(rb:Nat)(pc:Option Addr)(lc cc:Nat)(pe:Option Addr)(le ce:Nat)(ph:Option Addr)(lh ch:Nat)(pb:Option Addr)(lb cb:Nat)(pw:Option Addr)(lw cw:Nat)(pt:Option Addr)(lt ct:Nat)(ps:Option Addr)(ls cs:Nat)(sky st:Int)(N:Nat)(M:Nat)(w:World)
  (CF:Hid (∀v,Ab w v->Calls prog 34 #[.pointer (some ⟨rb,0,none⟩),.agg #[.slice pb lb cb,.slice pw lw cw,.slice pt lt ct,.slice ps ls cs,.int .i64 sky,.int .i64 st]] v fun e w'=>e=.returned (.bool true)/\Below v.heap.size v w'))
  (CC:Hid (∀v,Ab w v->Calls prog 33 #[.pointer (some ⟨rb,0,none⟩)] v fun e w'=>e=.returned (.int .i64 (N:Nat))/\Below v.heap.size v w'))
  (C1:Hid (∀v,Ab w v->Calls prog 35 #[.slice pc lc cc,.int .i64 (N:Nat)] v fun e w'=>e=.returned (.bool true)/\Below v.heap.size v w'))
  (C2:Hid (∀v,Ab w v->Calls prog 35 #[.slice ph lh ch,.int .i64 (N:Nat)] v fun e w'=>e=.returned (.bool true)/\Below v.heap.size v w'))
  (CE:Hid (∀v,Ab w v->Calls prog 36 #[.pointer (some ⟨rb,0,none⟩)] v fun e w'=>e=.returned (.int .i64 (M:Nat))/\Below v.heap.size v w'))
  (C3:Hid (∀v,Ab w v->Calls prog 35 #[.slice pe le ce,.int .i64 (M:Nat)] v fun e w'=>e=.returned (.bool false)/\Below v.heap.size v w')):
  Calls prog 9 #[.pointer (some ⟨rb,0,none⟩),.agg #[.slice pc lc cc,.slice pe le ce,.slice ph lh ch],.agg #[.slice pb lb cb,.slice pw lw cw,.slice pt lt ct,.slice ps ls cs,.int .i64 sky,.int .i64 st]] w fun e w'=>e=.returned (.tuple #[.agg #[.slice none 0 0,.slice none 0 0,.slice none 0 0,.slice none 0 0,.int .i64 0,.int .i64 0],.int .i64 1])/\Below w.heap.size w w':=by
 have A0:Hid (Ab w (((w.alloc (.cells #[.slice pc lc cc,.slice pe le ce,.slice ph lh ch] 41)).alloc (.cells #[.slice pb lb cb,.slice pw lw cw,.slice pt lt ct,.slice ps ls cs,.int .i64 sky,.int .i64 st] 26)).alloc (.cells #[.slice none 0 0,.slice none 0 0,.slice none 0 0,.slice none 0 0,.int .i64 0,.int .i64 0] 26))):=Ab.trans (bl2 _ _ _) (bl1 _ _)
 have P0:Hid ((((w.alloc (.cells #[.slice pc lc cc,.slice pe le ce,.slice ph lh ch] 41)).alloc (.cells #[.slice pb lb cb,.slice pw lw cw,.slice pt lt ct,.slice ps ls cs,.int .i64 sky,.int .i64 st] 26)).alloc (.cells #[.slice none 0 0,.slice none 0 0,.slice none 0 0,.slice none 0 0,.int .i64 0,.int .i64 0] 26)).heap[w.heap.size]? =some (.cells #[.slice pc lc cc,.slice pe le ce,.slice ph lh ch] 41)):=Ab.heap (bl1 _ _) (heap_alloc2_old _ _ _)
 have S0:Hid ((((w.alloc (.cells #[.slice pc lc cc,.slice pe le ce,.slice ph lh ch] 41)).alloc (.cells #[.slice pb lb cb,.slice pw lw cw,.slice pt lt ct,.slice ps ls cs,.int .i64 sky,.int .i64 st] 26)).alloc (.cells #[.slice none 0 0,.slice none 0 0,.slice none 0 0,.slice none 0 0,.int .i64 0,.int .i64 0] 26)).heap[w.heap.size+1]? =some (.cells #[.slice pb lb cb,.slice pw lw cw,.slice pt lt ct,.slice ps ls cs,.int .i64 sky,.int .i64 st] 26)):=Ab.heap (bl1 _ _) (heap_alloc2_new _ _ _)
 have Q0:Hid ((((w.alloc (.cells #[.slice pc lc cc,.slice pe le ce,.slice ph lh ch] 41)).alloc (.cells #[.slice pb lb cb,.slice pw lw cw,.slice pt lt ct,.slice ps ls cs,.int .i64 sky,.int .i64 st] 26)).alloc (.cells #[.slice none 0 0,.slice none 0 0,.slice none 0 0,.slice none 0 0,.int .i64 0,.int .i64 0] 26)).heap[w.heap.size+1+1]? =some (.cells #[.slice none 0 0,.slice none 0 0,.slice none 0 0,.slice none 0 0,.int .i64 0,.int .i64 0] 26)):=by
  have h:=heap_alloc_new ((w.alloc (.cells #[.slice pc lc cc,.slice pe le ce,.slice ph lh ch] 41)).alloc (.cells #[.slice pb lb cb,.slice pw lw cw,.slice pt lt ct,.slice ps ls cs,.int .i64 sky,.int .i64 st] 26)) (.cells #[.slice none 0 0,.slice none 0 0,.slice none 0 0,.slice none 0 0,.int .i64 0,.int .i64 0] 26)
  have e:((w.alloc (.cells #[.slice pc lc cc,.slice pe le ce,.slice ph lh ch] 41)).alloc (.cells #[.slice pb lb cb,.slice pw lw cw,.slice pt lt ct,.slice ps ls cs,.int .i64 sky,.int .i64 st] 26)).heap.size=w.heap.size+1+1:=by rw[bO,bO]
  rw[e]at h
  exact h
 go_enter func9,ntmps9
 go_upto_region 1 with fail
 generalize hW:World.alloc (World.alloc (World.alloc w _) _) _=V0 at*
 obtain⟨gp,hgp⟩:=aB w.heap.size
 obtain⟨gs,hgs⟩:=aB (w.heap.size+1)
 obtain⟨gr,hgr⟩:=aB (w.heap.size+1+1)
 have HG:Hid (w.heap.size<=gr):=by show _<=_;omega
 rw[hgr]at Q0 ⊢
 rw[hgs]at S0 ⊢
 rw[hgp]at P0 ⊢
 clear hgp hgs hgr hW
 go_wp2_with fail
 refine(CC.out V0 A0.out).mono ?_
 rintro e9 V1 ⟨rfl,k9⟩
 have A1:Hid (Ab w V1):=A0.out.call k9
 have P1:=hid (Ab.heap k9 P0.out)
 have S1:=hid (Ab.heap k9 S0.out)
 have Q1:=hid (Ab.heap k9 Q0.out)
 clear k9 A0 P0 S0 Q0 CC
 go_upto_region 4 with fail
 obtain⟨UU,E,hF1,hF2⟩:=cls V1
 have HU:=hid hF2
 have HU1:=hid hF1
 have HX:Hid (∀u,Ab w (E u)):=fun u=>Ab.trans A1.out (hF1 u)
 have p0: ∀u,(E u).cell? ⟨gp,0,none⟩=some (.slice pc lc cc):=fun u=>aA 0 ((hF1 u).heap P1.out)
 have p1: ∀u,(E u).cell? ⟨gp,1,none⟩=some (.slice pe le ce):=fun u=>aA 1 ((hF1 u).heap P1.out)
 have p2: ∀u,(E u).cell? ⟨gp,2,none⟩=some (.slice ph lh ch):=fun u=>aA 2 ((hF1 u).heap P1.out)
 have s0: ∀u,(E u).cell? ⟨gs,0,none⟩=some (.slice pb lb cb):=fun u=>aA 0 ((hF1 u).heap S1.out)
 have s1: ∀u,(E u).cell? ⟨gs,1,none⟩=some (.slice pw lw cw):=fun u=>aA 1 ((hF1 u).heap S1.out)
 have s2: ∀u,(E u).cell? ⟨gs,2,none⟩=some (.slice pt lt ct):=fun u=>aA 2 ((hF1 u).heap S1.out)
 have s3: ∀u,(E u).cell? ⟨gs,3,none⟩=some (.slice ps ls cs):=fun u=>aA 3 ((hF1 u).heap S1.out)
 have s4: ∀u,(E u).cell? ⟨gs,4,none⟩=some (.int .i64 sky):=fun u=>aA 4 ((hF1 u).heap S1.out)
 have s5: ∀u,(E u).cell? ⟨gs,5,none⟩=some (.int .i64 st):=fun u=>aA 5 ((hF1 u).heap S1.out)
 have DD0:=HU.out _ (Ab.refl V1).drew
 clear hF1 hF2
 refine aI E (by kernel_rfl) (by kernel_rfl) DD0 ?_
 repeat(go_big_quiet_step (first
  | (with_reducible rfl)
  | (go_at_call 34;exact aC HU HU1 (CF.out _ (HX.out _)))
  | (go_at_call_of 35 lc;exact aC HU HU1 (C1.out _ (HX.out _)))
  | (go_at_call_of 35 lh;exact aC HU HU1 (C2.out _ (HX.out _)))
  | (go_at_call 36;exact aC HU HU1 (CE.out _ (HX.out _)))
  | (go_at_call_of 35 le;exact aC HU HU1 (C3.out _ (HX.out _)))))
 refine wpQuiet_nil ?_
 intro z hwz
 obtain⟨u0,hu⟩:=hwz
 have AZ:Hid (Ab V1 z):=by rw[hu];exact HU1.out u0
 clear hu u0
 clear HU HU1 HX DD0 p0 p1 p2 s0 s1 s2 s3 s4 s5
 clear E UU
 have A2:Hid (Ab w z):=A1.out.trans AZ.out
 have Q2:=hid (AZ.out.heap Q1.out)
 have t0:=aE Q2.out
 have f0:=bE Q2.out
 go_wp2_with fail
 (try simp only[Exit.inBlock,Exit.then])
 refine bodyPost_ret (v:=.tuple #[.agg #[.slice none 0 0,.slice none 0 0,.slice none 0 0,.slice none 0 0,.int .i64 0,.int .i64 0],.int .i64 1]) ?_ rfl ?_
 ·exact bK results9 _ _ gr _ _ (0,0) _ _ rfl rfl (fI Q2.out) underlying26 rfl (by kernel_rfl)
 ·exact⟨rfl,(((((A2.out.setk HG.out _).setk HG.out _).setk HG.out _).setk HG.out _).setk HG.out _).setk HG.out _⟩
theorem tR(rb N M:Nat)(pc:Option Addr)(lc cc:Nat)(pe:Option Addr)(le ce:Nat)(ph:Option Addr)(lh ch:Nat)(C E H:Nat->Int)(qb ob cb qw ow cw qt ot ct qs os cs:Nat)(B:Nat->Nat)(Wt T:Nat->Int)(S:Nat->Nat)(sky st:Int)(w:World)(hN:N<=12288)(hM:M<=12288)(hl:lc<=281474976710656/\le<=281474976710656/\lh<=281474976710656)
  (CF:Hid (∀v,Ab w v->Calls prog 34 #[.pointer (some ⟨rb,0,none⟩),.agg #[.slice (some ⟨qb,ob,none⟩) N cb,.slice (some ⟨qw,ow,none⟩) N cw,.slice (some ⟨qt,ot,none⟩) N ct,.slice (some ⟨qs,os,none⟩) M cs,.int .i64 sky,.int .i64 st]] v fun e w'=>e=.returned (.bool true)/\Below v.heap.size v w'))
  (CC:Hid (∀v,Ab w v->Calls prog 33 #[.pointer (some ⟨rb,0,none⟩)] v fun e w'=>e=.returned (.int .i64 (N:Nat))/\Below v.heap.size v w'))
  (CE:Hid (∀v,Ab w v->Calls prog 36 #[.pointer (some ⟨rb,0,none⟩)] v fun e w'=>e=.returned (.int .i64 (M:Nat))/\Below v.heap.size v w'))
  (C1:Hid (∀v,Ab w v->Calls prog 35 #[.slice pc lc cc,.int .i64 (N:Nat)] v fun e w'=>e=.returned (.bool true)/\Below v.heap.size v w'))
  (C2:Hid (∀v,Ab w v->Calls prog 35 #[.slice ph lh ch,.int .i64 (N:Nat)] v fun e w'=>e=.returned (.bool true)/\Below v.heap.size v w'))
  (C3:Hid (∀v,Ab w v->Calls prog 35 #[.slice pe le ce,.int .i64 (M:Nat)] v fun e w'=>e=.returned (.bool true)/\Below v.heap.size v w'))
  (IC:Hid (Sh.IsI w pc lc C)) (IE:Hid (Sh.IsI w pe le E)) (IH:Hid (Sh.IsI w ph lh H)) (WC:Hid (wi lc C N)) (WE:Hid (wi le E M)) (WH:Hid (wi lh H N))
  (I4:Hid (IsFl w (some ⟨qb,ob,none⟩) N B)) (I5:Hid (Sh.IsI w (some ⟨qw,ow,none⟩) N Wt)) (I6:Hid (Sh.IsI w (some ⟨qt,ot,none⟩) N T)) (I7:Hid (IsFl w (some ⟨qs,os,none⟩) M S)):
  Calls prog 9 #[.pointer (some ⟨rb,0,none⟩),.agg #[.slice pc lc cc,.slice pe le ce,.slice ph lh ch],.agg #[.slice (some ⟨qb,ob,none⟩) N cb,.slice (some ⟨qw,ow,none⟩) N cw,.slice (some ⟨qt,ot,none⟩) N ct,.slice (some ⟨qs,os,none⟩) M cs,.int .i64 sky,.int .i64 st]] w fun e w'=> ∃b1 b2 b3 b4,e=.returned (.tuple #[.agg #[.slice (some ⟨b1,0,none⟩) N N,.slice (some ⟨b2,0,none⟩) N N,.slice (some ⟨b3,0,none⟩) N N,.slice (some ⟨b4,0,none⟩) M M,.int .i64 0,.int .i64 st],.int .i64 0])/\Below w.heap.size w w'/\w'.rowIs b1 53 N (fun i=>.float .f64 (shB (mk2 lc lh C H) B i))/\w'.rowIs b2 2 N (fun i=>.int .i64 (shW (mk2 lc lh C H) Wt i))/\w'.rowIs b3 2 N (fun i=>.int .i64 (shW (mk2 lc lh C H) T i))/\w'.rowIs b4 53 M (fun i=>.float .f64 (shB (hs le E) S i)):=by
 have M1: ∀v:World,(Instr.makeSlice 23 (.int .i64 (N:Nat)) (.int .i64 (N:Nat))).run prog v=.ok (.slice (some ⟨v.heap.size,0,none⟩) N N) (v.alloc (Obj.cells (madeCells #[.float .f64 0] N) 53)):=fun v=>run_make_row' (P:=prog) 23 53 (.float .f64 0) 8 underlying23 mT rfl .i64 .i64 N (by omega) (by omega) v
 have M2: ∀v:World,(Instr.makeSlice 24 (.int .i64 (N:Nat)) (.int .i64 (N:Nat))).run prog v=.ok (.slice (some ⟨v.heap.size,0,none⟩) N N) (v.alloc (Obj.cells (madeCells #[.int .i64 0] N) 2)):=fun v=>run_make_row' (P:=prog) 24 2 (.int .i64 0) 8 underlying24 qG rfl .i64 .i64 N (by omega) (by omega) v
 have M4: ∀v:World,(Instr.makeSlice 23 (.int .i64 (M:Nat)) (.int .i64 (M:Nat))).run prog v=.ok (.slice (some ⟨v.heap.size,0,none⟩) M M) (v.alloc (Obj.cells (madeCells #[.float .f64 0] M) 53)):=fun v=>run_make_row' (P:=prog) 23 53 (.float .f64 0) 8 underlying23 mT rfl .i64 .i64 M (by omega) (by omega) v
 have AL: ∀v:World,(Instr.alloc 26 true (.tuple #[])).run prog v=.ok (.pointer (some ⟨v.heap.size,0,none⟩)) (v.alloc (.cells #[.slice none 0 0,.slice none 0 0,.slice none 0 0,.slice none 0 0,.int .i64 0,.int .i64 0] 26)):=fun v=>by
  simp[go_sem]
 have HN:=hid (And.intro hN hM)
 have HL:=hid hl
 have CE2:=hid CE.out
 have nB:(N:Int)<=12288:=by omega
 have mB:(M:Int)<=12288:=by omega
 have eB:(le:Int)<=281474976710656:=by omega
 clear hN hM hl
 have A0:Hid (Ab w (((w.alloc (.cells #[.slice pc lc cc,.slice pe le ce,.slice ph lh ch] 41)).alloc (.cells #[.slice (some ⟨qb,ob,none⟩) N cb,.slice (some ⟨qw,ow,none⟩) N cw,.slice (some ⟨qt,ot,none⟩) N ct,.slice (some ⟨qs,os,none⟩) M cs,.int .i64 sky,.int .i64 st] 26)).alloc (.cells #[.slice none 0 0,.slice none 0 0,.slice none 0 0,.slice none 0 0,.int .i64 0,.int .i64 0] 26))):=Ab.trans (bl2 _ _ _) (bl1 _ _)
 have P0:Hid ((((w.alloc (.cells #[.slice pc lc cc,.slice pe le ce,.slice ph lh ch] 41)).alloc (.cells #[.slice (some ⟨qb,ob,none⟩) N cb,.slice (some ⟨qw,ow,none⟩) N cw,.slice (some ⟨qt,ot,none⟩) N ct,.slice (some ⟨qs,os,none⟩) M cs,.int .i64 sky,.int .i64 st] 26)).alloc (.cells #[.slice none 0 0,.slice none 0 0,.slice none 0 0,.slice none 0 0,.int .i64 0,.int .i64 0] 26)).heap[w.heap.size]? =some (.cells #[.slice pc lc cc,.slice pe le ce,.slice ph lh ch] 41)):=Ab.heap (bl1 _ _) (heap_alloc2_old _ _ _)
 have S0:Hid ((((w.alloc (.cells #[.slice pc lc cc,.slice pe le ce,.slice ph lh ch] 41)).alloc (.cells #[.slice (some ⟨qb,ob,none⟩) N cb,.slice (some ⟨qw,ow,none⟩) N cw,.slice (some ⟨qt,ot,none⟩) N ct,.slice (some ⟨qs,os,none⟩) M cs,.int .i64 sky,.int .i64 st] 26)).alloc (.cells #[.slice none 0 0,.slice none 0 0,.slice none 0 0,.slice none 0 0,.int .i64 0,.int .i64 0] 26)).heap[w.heap.size+1]? =some (.cells #[.slice (some ⟨qb,ob,none⟩) N cb,.slice (some ⟨qw,ow,none⟩) N cw,.slice (some ⟨qt,ot,none⟩) N ct,.slice (some ⟨qs,os,none⟩) M cs,.int .i64 sky,.int .i64 st] 26)):=Ab.heap (bl1 _ _) (heap_alloc2_new _ _ _)
 have Q0:Hid ((((w.alloc (.cells #[.slice pc lc cc,.slice pe le ce,.slice ph lh ch] 41)).alloc (.cells #[.slice (some ⟨qb,ob,none⟩) N cb,.slice (some ⟨qw,ow,none⟩) N cw,.slice (some ⟨qt,ot,none⟩) N ct,.slice (some ⟨qs,os,none⟩) M cs,.int .i64 sky,.int .i64 st] 26)).alloc (.cells #[.slice none 0 0,.slice none 0 0,.slice none 0 0,.slice none 0 0,.int .i64 0,.int .i64 0] 26)).heap[w.heap.size+1+1]? =some (.cells #[.slice none 0 0,.slice none 0 0,.slice none 0 0,.slice none 0 0,.int .i64 0,.int .i64 0] 26)):=by
  have h:=heap_alloc_new ((w.alloc (.cells #[.slice pc lc cc,.slice pe le ce,.slice ph lh ch] 41)).alloc (.cells #[.slice (some ⟨qb,ob,none⟩) N cb,.slice (some ⟨qw,ow,none⟩) N cw,.slice (some ⟨qt,ot,none⟩) N ct,.slice (some ⟨qs,os,none⟩) M cs,.int .i64 sky,.int .i64 st] 26)) (.cells #[.slice none 0 0,.slice none 0 0,.slice none 0 0,.slice none 0 0,.int .i64 0,.int .i64 0] 26)
  have e:((w.alloc (.cells #[.slice pc lc cc,.slice pe le ce,.slice ph lh ch] 41)).alloc (.cells #[.slice (some ⟨qb,ob,none⟩) N cb,.slice (some ⟨qw,ow,none⟩) N cw,.slice (some ⟨qt,ot,none⟩) N ct,.slice (some ⟨qs,os,none⟩) M cs,.int .i64 sky,.int .i64 st] 26)).heap.size=w.heap.size+1+1:=by rw[bO,bO]
  rw[e]at h
  exact h
 go_enter func9,ntmps9
 go_upto_region 1 with fail
 generalize hW:World.alloc (World.alloc (World.alloc w _) _) _=V0 at*
 obtain⟨gp,hgp⟩:=aB w.heap.size
 obtain⟨gs,hgs⟩:=aB (w.heap.size+1)
 obtain⟨gr,hgr⟩:=aB (w.heap.size+1+1)
 have HG:Hid (w.heap.size<=gr):=by show _<=_;omega
 rw[hgr]at Q0 ⊢
 rw[hgs]at S0 ⊢
 rw[hgp]at P0 ⊢
 clear hgp hgs hgr hW
 go_wp2_with fail
 refine(CC.out V0 A0.out).mono ?_
 rintro e9 V1 ⟨rfl,k9⟩
 have A1:Hid (Ab w V1):=A0.out.call k9
 have P1:=hid (Ab.heap k9 P0.out)
 have S1:=hid (Ab.heap k9 S0.out)
 have Q1:=hid (Ab.heap k9 Q0.out)
 clear k9 A0 P0 S0 Q0 CC
 go_upto_region 4 with fail
 obtain⟨UU,E,hF1,hF2⟩:=cls V1
 have HU:=hid hF2
 have HU1:=hid hF1
 have HX:Hid (∀u,Ab w (E u)):=fun u=>Ab.trans A1.out (hF1 u)
 have p0: ∀u,(E u).cell? ⟨gp,0,none⟩=some (.slice pc lc cc):=fun u=>aA 0 ((hF1 u).heap P1.out)
 have p1: ∀u,(E u).cell? ⟨gp,1,none⟩=some (.slice pe le ce):=fun u=>aA 1 ((hF1 u).heap P1.out)
 have p2: ∀u,(E u).cell? ⟨gp,2,none⟩=some (.slice ph lh ch):=fun u=>aA 2 ((hF1 u).heap P1.out)
 have s0: ∀u,(E u).cell? ⟨gs,0,none⟩=some (.slice (some ⟨qb,ob,none⟩) N cb):=fun u=>aA 0 ((hF1 u).heap S1.out)
 have s1: ∀u,(E u).cell? ⟨gs,1,none⟩=some (.slice (some ⟨qw,ow,none⟩) N cw):=fun u=>aA 1 ((hF1 u).heap S1.out)
 have s2: ∀u,(E u).cell? ⟨gs,2,none⟩=some (.slice (some ⟨qt,ot,none⟩) N ct):=fun u=>aA 2 ((hF1 u).heap S1.out)
 have s3: ∀u,(E u).cell? ⟨gs,3,none⟩=some (.slice (some ⟨qs,os,none⟩) M cs):=fun u=>aA 3 ((hF1 u).heap S1.out)
 have s4: ∀u,(E u).cell? ⟨gs,4,none⟩=some (.int .i64 sky):=fun u=>aA 4 ((hF1 u).heap S1.out)
 have s5: ∀u,(E u).cell? ⟨gs,5,none⟩=some (.int .i64 st):=fun u=>aA 5 ((hF1 u).heap S1.out)
 have DD0:=HU.out _ (Ab.refl V1).drew
 clear hF1 hF2
 refine aI E (by kernel_rfl) (by kernel_rfl) DD0 ?_
 repeat(go_big_quiet_step (first
  | (with_reducible rfl)
  | (go_at_call 34;exact aC HU HU1 (CF.out _ (HX.out _)))
  | (go_at_call_of 35 lc;exact aC HU HU1 (C1.out _ (HX.out _)))
  | (go_at_call_of 35 lh;exact aC HU HU1 (C2.out _ (HX.out _)))
  | (go_at_call 36;exact aC HU HU1 (CE.out _ (HX.out _)))
  | (go_at_call_of 35 le;exact aC HU HU1 (C3.out _ (HX.out _)))))
 refine wpQuiet_nil ?_
 intro z hwz
 obtain⟨u0,hu⟩:=hwz
 have AZ:Hid (Ab V1 z):=by rw[hu];exact HU1.out u0
 clear hu u0
 clear HU HU1 HX DD0 p0 p1 p2 s0 s1 s2 s3 s4 s5
 clear E UU
 have A2:Hid (Ab w z):=A1.out.trans AZ.out
 have P2:=hid (AZ.out.heap P1.out)
 have S2:=hid (AZ.out.heap S1.out)
 have Q2:=hid (AZ.out.heap Q1.out)
 clear AZ A1 P1 S1 Q1 CF CE C1 C2 C3
 have x5:=aA 5 S2.out
 go_upto_region 6 with fail
 clear x5
 go_cut [9]from 43 to 54 (fun s9 wx=> ∃go b1 b2 b3 b4,s9=.pointer (some ⟨go,0,none⟩)/\Ab z wx/\wx.heap[go]? =some (.cells #[.slice (some ⟨b1,0,none⟩) N N,.slice (some ⟨b2,0,none⟩) N N,.slice (some ⟨b3,0,none⟩) N N,.slice (some ⟨b4,0,none⟩) M M,.int .i64 0,.int .i64 st] 26)/\wx.heap[b1]? =some (Obj.cells (madeCells #[.float .f64 0] N) 53)/\wx.heap[b2]? =some (Obj.cells (madeCells #[.int .i64 0] N) 2)/\wx.heap[b3]? =some (Obj.cells (madeCells #[.int .i64 0] N) 2)/\wx.heap[b4]? =some (Obj.cells (madeCells #[.float .f64 0] M) 53)/\(z.heap.size<=go/\z.heap.size<=b1/\z.heap.size<=b2/\z.heap.size<=b3/\z.heap.size<=b4)/\Dq go b1 b2 b3 b4)
 case first=>
  obtain⟨UU,E',hF1,hF2⟩:=cls z.drew
  have HU:=hid hF2
  have HU1:=hid hF1
  have s5: ∀u,(E' u).cell? ⟨gs,5,none⟩=some (.int .i64 st):=fun u=>aA 5 ((hF1 u).heap S2.out)
  clear hF1 hF2
  have STB:Ch.Stable (fun k=>if k=1 then some ((fun(x:Ch.Ix) (w':World)=> ∃b,x=(some b,N)/\w'.heap[b]? =some (Obj.cells (madeCells #[.float .f64 0] N) 53)),mkS N)else if k=3 then some ((fun(x:Ch.Ix) (w':World)=> ∃b,x=(some b,N)/\w'.heap[b]? =some (Obj.cells (madeCells #[.int .i64 0] N) 2)),mkS N)else if k=5 then some ((fun(x:Ch.Ix) (w':World)=> ∃b,x=(some b,N)/\w'.heap[b]? =some (Obj.cells (madeCells #[.int .i64 0] N) 2)),mkS N)else if k=7 then some ((fun(x:Ch.Ix) (_:World)=>x=(none,0)),(fun _=>.int .i64 (M:Nat)))else if k=8 then some ((fun(x:Ch.Ix) (w':World)=> ∃b,x=(some b,M)/\w'.heap[b]? =some (Obj.cells (madeCells #[.float .f64 0] M) 53)),mkS M)else if k=12 then some ((fun(x:Ch.Ix) (w':World)=> ∃b,x=(some b,0)/\w'.heap[b]? =some (.cells #[.slice none 0 0,.slice none 0 0,.slice none 0 0,.slice none 0 0,.int .i64 0,.int .i64 0] 26)),mkP)else none):=fun i R mk h x v v' hr ha=>by
   rcases Nat.decEq i 1 with q1 | q1
   rotate_left
   ·subst q1
    simp only[if_true,Option.some.injEq,Prod.mk.injEq]at h
    obtain⟨h1,h2⟩:=h
    subst h1 h2
    obtain⟨b,e,hb⟩:=hr
    exact⟨b,e,ha.heap hb⟩
   rcases Nat.decEq i 3 with q3 | q3
   rotate_left
   ·subst q3
    simp only[if_true,if_neg (show¬(3:Nat)=1 by decide),Option.some.injEq,Prod.mk.injEq]at h
    obtain⟨h1,h2⟩:=h
    subst h1 h2
    obtain⟨b,e,hb⟩:=hr
    exact⟨b,e,ha.heap hb⟩
   rcases Nat.decEq i 5 with q5 | q5
   rotate_left
   ·subst q5
    simp only[if_true,if_neg (show¬(5:Nat)=1 by decide),if_neg (show¬(5:Nat)=3 by decide),Option.some.injEq,Prod.mk.injEq]at h
    obtain⟨h1,h2⟩:=h
    subst h1 h2
    obtain⟨b,e,hb⟩:=hr
    exact⟨b,e,ha.heap hb⟩
   rcases Nat.decEq i 7 with q7 | q7
   rotate_left
   ·subst q7
    simp only[if_true,if_neg (show¬(7:Nat)=1 by decide),if_neg (show¬(7:Nat)=3 by decide),if_neg (show¬(7:Nat)=5 by decide),Option.some.injEq,Prod.mk.injEq]at h
    obtain⟨h1,h2⟩:=h
    subst h1 h2
    exact hr
   rcases Nat.decEq i 8 with q8 | q8
   rotate_left
   ·subst q8
    simp only[if_true,if_neg (show¬(8:Nat)=1 by decide),if_neg (show¬(8:Nat)=3 by decide),if_neg (show¬(8:Nat)=5 by decide),if_neg (show¬(8:Nat)=7 by decide),Option.some.injEq,Prod.mk.injEq]at h
    obtain⟨h1,h2⟩:=h
    subst h1 h2
    obtain⟨b,e,hb⟩:=hr
    exact⟨b,e,ha.heap hb⟩
   rcases Nat.decEq i 12 with q12 | q12
   rotate_left
   ·subst q12
    simp only[if_true,if_neg (show¬(12:Nat)=1 by decide),if_neg (show¬(12:Nat)=3 by decide),if_neg (show¬(12:Nat)=5 by decide),if_neg (show¬(12:Nat)=7 by decide),if_neg (show¬(12:Nat)=8 by decide),Option.some.injEq,Prod.mk.injEq]at h
    obtain⟨h1,h2⟩:=h
    subst h1 h2
    obtain⟨b,e,hb⟩:=hr
    exact⟨b,e,ha.heap hb⟩
   simp only[if_neg q1,if_neg q3,if_neg q5,if_neg q7,if_neg q8,if_neg q12]at h
   cases h
  refine Ch.dD 13 (fun k=>if k=1 then some ((fun(x:Ch.Ix) (w':World)=> ∃b,x=(some b,N)/\w'.heap[b]? =some (Obj.cells (madeCells #[.float .f64 0] N) 53)),mkS N)else if k=3 then some ((fun(x:Ch.Ix) (w':World)=> ∃b,x=(some b,N)/\w'.heap[b]? =some (Obj.cells (madeCells #[.int .i64 0] N) 2)),mkS N)else if k=5 then some ((fun(x:Ch.Ix) (w':World)=> ∃b,x=(some b,N)/\w'.heap[b]? =some (Obj.cells (madeCells #[.int .i64 0] N) 2)),mkS N)else if k=7 then some ((fun(x:Ch.Ix) (_:World)=>x=(none,0)),(fun _=>.int .i64 (M:Nat)))else if k=8 then some ((fun(x:Ch.Ix) (w':World)=> ∃b,x=(some b,M)/\w'.heap[b]? =some (Obj.cells (madeCells #[.float .f64 0] M) 53)),mkS M)else if k=12 then some ((fun(x:Ch.Ix) (w':World)=> ∃b,x=(some b,0)/\w'.heap[b]? =some (.cells #[.slice none 0 0,.slice none 0 0,.slice none 0 0,.slice none 0 0,.int .i64 0,.int .i64 0] 26)),mkP)else none) (fun _=>[]) STB (by kernel_rfl) (by kernel_rfl) (by kernel_rfl) (by kernel_rfl) ?_
  simp only[List.take_succ_cons,List.take_zero]
  refine Ch.aF HU (by rfl) (by rfl) ?_
  go_big_quiet_step (with_reducible rfl)
  refine wpQuiet_nil ?_
  refine Ch.aN (ob:=(fun(x:Ch.Ix) (w':World)=> ∃b,x=(some b,N)/\w'.heap[b]? =some (Obj.cells (madeCells #[.float .f64 0] N) 53))) (mk:=mkS N) (by rfl) (by kernel_rfl) ?_ ?_
  ·exact Ch.cF (O:=(Obj.cells (madeCells #[.float .f64 0] N) 53)) (c:=N) (fun v _=>Ch.run_make (vx:=.int .i64 (N:Nat)) (vy:=.int .i64 (N:Nat)) rfl (by rfl) (by rfl) (M1 v)) (fun v _=>⟨v.heap.size,rfl,heap_alloc_new _ _⟩)
  intro x1 fx1
  simp only[Act.put,List.setIfInBounds_toArray,List.set_cons_succ,List.set_cons_zero]
  refine Ch.aF HU (by rfl) (by rfl) ?_
  go_big_quiet_step (with_reducible rfl)
  refine wpQuiet_nil ?_
  refine Ch.aN (ob:=(fun(x:Ch.Ix) (w':World)=> ∃b,x=(some b,N)/\w'.heap[b]? =some (Obj.cells (madeCells #[.int .i64 0] N) 2))) (mk:=mkS N) (by rfl) (by kernel_rfl) ?_ ?_
  ·exact Ch.cF (O:=(Obj.cells (madeCells #[.int .i64 0] N) 2)) (c:=N) (fun v _=>Ch.run_make (vx:=.int .i64 (N:Nat)) (vy:=.int .i64 (N:Nat)) rfl (by rfl) (by rfl) (M2 v)) (fun v _=>⟨v.heap.size,rfl,heap_alloc_new _ _⟩)
  intro x3 fx3
  simp only[Act.put,List.setIfInBounds_toArray,List.set_cons_succ,List.set_cons_zero]
  refine Ch.aF HU (by rfl) (by rfl) ?_
  go_big_quiet_step (with_reducible rfl)
  refine wpQuiet_nil ?_
  refine Ch.aN (ob:=(fun(x:Ch.Ix) (w':World)=> ∃b,x=(some b,N)/\w'.heap[b]? =some (Obj.cells (madeCells #[.int .i64 0] N) 2))) (mk:=mkS N) (by rfl) (by kernel_rfl) ?_ ?_
  ·exact Ch.cF (O:=(Obj.cells (madeCells #[.int .i64 0] N) 2)) (c:=N) (fun v _=>Ch.run_make (vx:=.int .i64 (N:Nat)) (vy:=.int .i64 (N:Nat)) rfl (by rfl) (by rfl) (M2 v)) (fun v _=>⟨v.heap.size,rfl,heap_alloc_new _ _⟩)
  intro x5 fx5
  simp only[Act.put,List.setIfInBounds_toArray,List.set_cons_succ,List.set_cons_zero]
  refine Ch.aF HU (by rfl) (by rfl) ?_
  go_big_quiet_step (with_reducible rfl)
  refine wpQuiet_nil ?_
  refine Ch.aN (ob:=(fun(x:Ch.Ix) (_:World)=>x=(none,0))) (mk:=(fun _=>.int .i64 (M:Nat))) (by rfl) (by kernel_rfl) ?_ ?_
  ·refine Ch.eT (f:=36) (args:= #[.pointer (some ⟨rb,0,none⟩)]) ?_ (fun v hv=>(CE2.out v (A2.out.trans ((Ab.refl z).drew.trans hv.1))).mono fun _ _ h=>⟨(none,0),h.1,h.2,(fun b e=>by cases e),rfl⟩)
   intro v
   exact tQ (x:=.tmp 49) (by rfl) (by rfl) func36 (by kernel_rfl) (by kernel_rfl) v
  intro x7 fx7
  simp only[Act.put,List.setIfInBounds_toArray,List.set_cons_succ,List.set_cons_zero]
  refine Ch.aN (ob:=(fun(x:Ch.Ix) (w':World)=> ∃b,x=(some b,M)/\w'.heap[b]? =some (Obj.cells (madeCells #[.float .f64 0] M) 53))) (mk:=mkS M) (by rfl) (by kernel_rfl) ?_ ?_
  ·exact Ch.cF (O:=(Obj.cells (madeCells #[.float .f64 0] M) 53)) (c:=M) (fun v _=>Ch.run_make (vx:=.int .i64 (M:Nat)) (vy:=.int .i64 (M:Nat)) rfl (by rfl) (by rfl) (M4 v)) (fun v _=>⟨v.heap.size,rfl,heap_alloc_new _ _⟩)
  intro x8 fx8
  simp only[Act.put,List.setIfInBounds_toArray,List.set_cons_succ,List.set_cons_zero]
  refine Ch.aF HU (by rfl) (by rfl) ?_
  go_big_quiet_step (with_reducible rfl)
  refine wpQuiet_nil ?_
  refine Ch.aF HU (by rfl) (by rfl) ?_
  go_big_quiet_step (with_reducible rfl)
  refine wpQuiet_nil ?_
  obtain⟨pp1,m1,c1,q1⟩:=eU N x1
  obtain⟨pp2,m2,c2,q2⟩:=eU N x3
  obtain⟨pp3,m3,c3,q3⟩:=eU N x5
  obtain⟨pp4,m4,c4,q4⟩:=eU M x8
  rw[q1,q2,q3,q4]
  refine Ch.aF HU (by rfl) (by rfl) ?_
  go_big_quiet_step (with_reducible rfl)
  refine wpQuiet_nil ?_
  refine Ch.aN (ob:=(fun(x:Ch.Ix) (w':World)=> ∃b,x=(some b,0)/\w'.heap[b]? =some (.cells #[.slice none 0 0,.slice none 0 0,.slice none 0 0,.slice none 0 0,.int .i64 0,.int .i64 0] 26))) (mk:=mkP) (by rfl) (by kernel_rfl) ?_ ?_
  ·exact Ch.cF (O:=.cells #[.slice none 0 0,.slice none 0 0,.slice none 0 0,.slice none 0 0,.int .i64 0,.int .i64 0] 26) (c:=0) (fun v _=>Ch.run_alloc rfl (AL v)) (fun v _=>⟨v.heap.size,rfl,heap_alloc_new _ _⟩)
  intro x12 fx12
  simp only[Act.put,List.setIfInBounds_toArray,List.set_cons_succ,List.set_cons_zero]
  refine Ch.eA ?_
  intro wz hz
  have h1:=hz.at (i:=1) (x:=x1) (R:=(fun(x:Ch.Ix) (w':World)=> ∃b,x=(some b,N)/\w'.heap[b]? =some (Obj.cells (madeCells #[.float .f64 0] N) 53))) (mk:=mkS N) (by rfl) (by rfl)
  have h3:=hz.at (i:=3) (x:=x3) (R:=(fun(x:Ch.Ix) (w':World)=> ∃b,x=(some b,N)/\w'.heap[b]? =some (Obj.cells (madeCells #[.int .i64 0] N) 2))) (mk:=mkS N) (by rfl) (by rfl)
  have h5:=hz.at (i:=5) (x:=x5) (R:=(fun(x:Ch.Ix) (w':World)=> ∃b,x=(some b,N)/\w'.heap[b]? =some (Obj.cells (madeCells #[.int .i64 0] N) 2))) (mk:=mkS N) (by rfl) (by rfl)
  have h8:=hz.at (i:=8) (x:=x8) (R:=(fun(x:Ch.Ix) (w':World)=> ∃b,x=(some b,M)/\w'.heap[b]? =some (Obj.cells (madeCells #[.float .f64 0] M) 53))) (mk:=mkS M) (by rfl) (by rfl)
  have h12:=hz.at (i:=12) (x:=x12) (R:=(fun(x:Ch.Ix) (w':World)=> ∃b,x=(some b,0)/\w'.heap[b]? =some (.cells #[.slice none 0 0,.slice none 0 0,.slice none 0 0,.slice none 0 0,.int .i64 0,.int .i64 0] 26))) (mk:=mkP) (by rfl) (by rfl)
  obtain⟨⟨b1,rfl,r1⟩,k1⟩:=h1
  obtain⟨⟨b2,rfl,r2⟩,k2⟩:=h3
  obtain⟨⟨b3,rfl,r3⟩,k3⟩:=h5
  obtain⟨⟨b4,rfl,r4⟩,k4⟩:=h8
  obtain⟨⟨go,rfl,r5⟩,k5⟩:=h12
  have E1:(.slice (some ⟨b1,0,none⟩) N N:Value)=.slice pp1 m1 c1:=q1
  have E2:(.slice (some ⟨b2,0,none⟩) N N:Value)=.slice pp2 m2 c2:=q2
  have E3:(.slice (some ⟨b3,0,none⟩) N N:Value)=.slice pp3 m3 c3:=q3
  have E4:(.slice (some ⟨b4,0,none⟩) M M:Value)=.slice pp4 m4 c4:=q4
  rw[<- E1,<- E2,<- E3,<- E4]
  have e5:mkP (some go,0)=.pointer (some ⟨go,0,none⟩):=rfl
  rw[e5]
  have DD:Hid (Dq go b1 b2 b3 b4):=⟨⟨fun e=>(fx12 go rfl).2 1 (some b1,N) (by rfl) (by rw[e]),fun e=>(fx12 go rfl).2 3 (some b2,N) (by rfl) (by rw[e]),fun e=>(fx12 go rfl).2 5 (some b3,N) (by rfl) (by rw[e]),fun e=>(fx12 go rfl).2 8 (some b4,M) (by rfl) (by rw[e])⟩,fun e=>(fx3 b2 rfl).2 1 (some b1,N) (by rfl) (by rw[e]),fun e=>(fx5 b3 rfl).2 1 (some b1,N) (by rfl) (by rw[e]),fun e=>(fx8 b4 rfl).2 1 (some b1,N) (by rfl) (by rw[e]),fun e=>(fx5 b3 rfl).2 3 (some b2,N) (by rfl) (by rw[e]),fun e=>(fx8 b4 rfl).2 3 (some b2,N) (by rfl) (by rw[e]),fun e=>(fx8 b4 rfl).2 5 (some b3,N) (by rfl) (by rw[e])⟩
  have LL:Hid (z.heap.size<=go/\z.heap.size<=b1/\z.heap.size<=b2/\z.heap.size<=b3/\z.heap.size<=b4):=⟨(k5 go rfl).1,(k1 b1 rfl).1,(k2 b2 rfl).1,(k3 b3 rfl).1,(k4 b4 rfl).1⟩
  have RR:=hid (And.intro r1 (And.intro r2 (And.intro r3 r4)))
  have B5:=hid r5
  have HAZ:Hid (Ab z wz):=(Ab.refl z).drew.trans hz.1
  clear k1 k2 k3 k4 k5 r1 r2 r3 r4 r5 e5 E1 E2 E3 E4 q1 q2 q3 q4 hz fx1 fx3 fx5 fx7 fx8 fx12 STB HU HU1 s5
  clear E' UU
  have t0:=aE B5.out
  obtain⟨f0,f1,f2,f3,f4,f5⟩:=bE B5.out
  simp only[List.drop_succ_cons,List.drop_zero]
  go_wp2_with fail
  go_meet
  obtain⟨l5,l1,l2,l3,l4⟩:=LL.out
  refine⟨go,b1,b2,b3,b4,rfl,?_,fI B5.out,(aY DD.out.1.1.symm).trans RR.out.1,(aY DD.out.1.2.1.symm).trans RR.out.2.1,(aY DD.out.1.2.2.1.symm).trans RR.out.2.2.1,(aY DD.out.1.2.2.2.symm).trans RR.out.2.2.2,LL.out,DD.out⟩
  exact(((((HAZ.out.setk l5 _).setk l5 _).setk l5 _).setk l5 _).setk l5 _).setk l5 _
 case rest=>
  obtain⟨go,b1,b2,b3,b4,rfl,a3,r5,m1,m2,m3,m4,hl,hd⟩:=hcut
  rename World=>v3
  have A3:Hid (Ab z v3):=a3
  have DQ:=hid hd
  have LO:=hid hl
  have e0:(fun _=>false:Nat->Bool)=fun _=>false:=rfl
  have T3:Hid (Qm go b1 b2 b3 b4 N M B Wt T S st (fun _=>false) (fun _=>false) (fun _=>false) (fun _=>false) v3):=⟨r5,(bM m1).congr (fun _ _=>by unfold shB;simp),(bM m2).congr (fun _ _=>by unfold shW;simp),(bM m3).congr (fun _ _=>by unfold shW;simp),(bM m4).congr (fun _ _=>by unfold shB;simp)⟩
  have W3:Hid (Ab w v3):=A2.out.trans A3.out
  have P3:=hid (Ab.heap A3.out P2.out)
  have S3:=hid (Ab.heap A3.out S2.out)
  have NG:Hid (gr<z.heap.size/\gs<z.heap.size/\gp<z.heap.size):=⟨lt_of_block Q2.out,lt_of_block S2.out,lt_of_block P2.out⟩
  clear a3 r5 m1 m2 m3 m4 hl hd e0 M1 M2 M4 AL CE2
  have p0:=aA 0 P3.out
  have p1:=aA 1 P3.out
  have p2:=aA 2 P3.out
  obtain⟨s0,s1,s2,s3,s4,s5⟩:=aE S3.out
  go_wp2_with fail
  refine(iG go b1 b2 b3 b4 N M qb ob cb qw ow cw qt ot ct (some ⟨qs,os,none⟩) cs B Wt T S sky st pc lc cc C (fun _=>false) (fun _=>false) z v3 HN.out.1 (by have:=HL.out;omega) A3.out (hid (I4.out.below A2.out)) (hid (I5.out.below A2.out)) (hid (I6.out.below A2.out)) (hid (IC.out.below A2.out)) WC ⟨LO.out.1,LO.out.2.1,LO.out.2.2.1,LO.out.2.2.2.1⟩ DQ T3.out).mono ?_
  rintro e9 v4 ⟨rfl,k9,q9⟩
  have A4:Hid (Ab z v4):=k9
  have T4:=hid q9
  have P4:=hid (Ab.heap A4.out P2.out)
  have S4:=hid (Ab.heap A4.out S2.out)
  clear k9 q9 p0 p1 p2 s0 s1 s2 s3 s4 s5
  have p0:=aA 0 P4.out
  have p1:=aA 1 P4.out
  have p2:=aA 2 P4.out
  obtain⟨s0,s1,s2,s3,s4,s5⟩:=aE S4.out
  go_wp2_with fail
  refine(iG go b1 b2 b3 b4 N M qb ob cb qw ow cw qt ot ct (some ⟨qs,os,none⟩) cs B Wt T S sky st ph lh ch H (fun j=>(fun _=>false) j||hs lc C j) (fun _=>false) z v4 HN.out.1 (by have:=HL.out;omega) A4.out (hid (I4.out.below A2.out)) (hid (I5.out.below A2.out)) (hid (I6.out.below A2.out)) (hid (IH.out.below A2.out)) WH ⟨LO.out.1,LO.out.2.1,LO.out.2.2.1,LO.out.2.2.2.1⟩ DQ T4.out).mono ?_
  rintro e9 v5 ⟨rfl,k9,q9⟩
  have A5:Hid (Ab z v5):=k9
  have T5:=hid q9
  have P5:=hid (Ab.heap A5.out P2.out)
  have S5:=hid (Ab.heap A5.out S2.out)
  clear k9 q9 p0 p1 p2 s0 s1 s2 s3 s4 s5
  have p0:=aA 0 P5.out
  have p1:=aA 1 P5.out
  have p2:=aA 2 P5.out
  obtain⟨s0,s1,s2,s3,s4,s5⟩:=aE S5.out
  have eq3:(fun j=>(fun j=>(fun _=>false) j||hs lc C j) j||hs lh H j)=mk2 lc lh C H:=by funext j;simp[mk2]
  rw[eq3]at T5
  clear eq3
  go_wp2_with fail
  go_loopw [10] (fun iv wr=> ∃i:Nat,i<=le/\iv=.int .i64 (i:Nat)/\AbQ v5 (fun b=>b=b4) wr/\Qm go b1 b2 b3 b4 N M B Wt T S st (mk2 lc lh C H) (mk2 lc lh C H) (mk2 lc lh C H) (fun j=>(fun _=>false) j||hs i E j) wr) (fun iv _=>le - (intOf iv).toNat)
  case atStart=>exact⟨0,by omega,rfl,AbQ.refl _ _,by
   have e:(fun j=>(fun _=>false) j||hs 0 E j)=fun _=>false:=by funext j;unfold hs;simp
   rw[e]
   exact T5.out⟩
  case round=>
   obtain⟨i,hi,rfl,aq,tq⟩:=hrel
   have AQ:=hid aq
   have TQ:=hid tq
   have HIL:=hid hi
   have iB:(i:Int)<=281474976710656:=by omega
   clear aq tq hi
   have WR:Hid (Ab z wr):=AQ.out.ab A5.out (fun b hb e=>by
    have h:=LO.out
    subst e
    omega)
   have PR:=hid (Ab.heap WR.out P2.out)
   have SR:=hid (Ab.heap WR.out S2.out)
   have p0:=aA 0 PR.out
   have p1:=aA 1 PR.out
   have p2:=aA 2 PR.out
   by_cases hin:i<le
   ·have HI:=hid hin
    have iI:(i:Int)<le:=by omega
    have IEw:=hid (IE.out.below (A2.out.trans WR.out))
    obtain⟨be,oe,rfl⟩:=IEw.out.some0 (by omega)
    have y0:=(IEw.out.at0 hin).2.2
    have ltE:be<wr.heap.size:=by
     obtain⟨_,b,o,e,l,_⟩:=IEw.out i hin
     injection e with e
     injection e with e1 e2
     rw[e1];exact l
    obtain⟨w1,w2⟩:=WE.out i hin
    obtain⟨c,hc⟩: ∃c:Nat,E i=(c:Int):=⟨(E i).toNat,by omega⟩
    rw[hc]at y0 w2
    have HC:=hid hc
    have cN:c<M:=by omega
    have CN:=hid cN
    have cI:(c:Int)<M:=by omega
    have u1:wr.cell? ⟨qs,os+c,none⟩=some (.float .f64 (S c)):=qS (I7.out.below (A2.out.trans WR.out)) cN
    have ltS:qs<wr.heap.size:=by
     obtain⟨_,b,o,e,l,_⟩:=(I7.out.below (A2.out.trans WR.out)) c cN
     injection e with e
     injection e with e1 e2
     rw[e1];exact l
    have U1:=hid u1
    have Y0:=hid y0
    have LT:=hid (And.intro ltE ltS)
    clear hin w1 w2 hc cN u1 ltE ltS
    go_upto_region 12 with fail
    clear y0 p0 p1 p2
    obtain⟨UU,E,hF1,hF2⟩:=cls wr
    have HU:=hid hF2
    have HU1:=hid hF1
    have e0: ∀u,(E u).cell? ⟨go,3,none⟩=some (.slice (some ⟨b4,0,none⟩) M M):=fun u=>aA 3 ((hF1 u).heap TQ.out.1)
    have e1: ∀u,(E u).cell? ⟨gp,1,none⟩=some (.slice (some ⟨be,oe,none⟩) le ce):=fun u=>aA 1 ((hF1 u).heap PR.out)
    have e2: ∀u,(E u).cell? ⟨gs,3,none⟩=some (.slice (some ⟨qs,os,none⟩) M cs):=fun u=>aA 3 ((hF1 u).heap SR.out)
    have e3: ∀u,(E u).cell? ⟨be,oe+i,none⟩=some (.int .i64 (c:Nat)):=fun u=>(Below.cell (hF1 u) LT.out.1).trans Y0.out
    have e4: ∀u,(E u).cell? ⟨qs,os+c,none⟩=some (.float .f64 (S c)):=fun u=>(Below.cell (hF1 u) LT.out.2).trans U1.out
    have DD0:=HU.out _ (Ab.refl wr).drew
    clear hF1 hF2
    refine bW 17 E (by kernel_rfl) (by kernel_rfl) (by kernel_rfl) DD0 ?_
    simp only[List.take_succ_cons,List.take_zero,List.drop_succ_cons,List.drop_zero]
    repeat(go_big_quiet_step (with_reducible rfl))
    refine wpQuiet_nil ?_
    intro z1 hwz
    obtain⟨u0,hu⟩:=hwz
    have Az1:Hid (Ab wr z1):=by rw[hu];exact HU1.out u0
    clear hu u0
    clear HU HU1 DD0 e0 e1 e2 e3 e4
    clear E UU
    have TZ1:=hid (TQ.out.to Az1.out)
    have x1:=TZ1.out.2.2.2.2.cell CN.out
    have f1:=TZ1.out.2.2.2.2.frozen c
    go_wp2
    exact⟨⟨i+1,by have:=HI.out;omega,by simp,(AQ.out.to Az1.out).set (.inl rfl) _,by
     rw[hs_stp E i c HC.out]
     exact TZ1.out.s4 DQ.out c⟩,by have:=HI.out;simp[intOf];omega⟩
   ·have e6:le=i:=by have:=HIL.out;omega
    subst e6
    have QR:Hid (wr.heap[gr]? =some (.cells #[.slice none 0 0,.slice none 0 0,.slice none 0 0,.slice none 0 0,.int .i64 0,.int .i64 0] 26)):=Ab.heap WR.out Q2.out
    have eqE:(fun j=>(fun _=>false) j||hs le E j)=hs le E:=by funext j;simp
    rw[eqE]at TQ
    clear eqE
    have o0:=aE TQ.out.1
    have t0:=aE QR.out
    obtain⟨f0,f1,f2,f3,f4,f5⟩:=bE QR.out
    go_wp2_with fail
    (try simp only[Exit.inBlock,Exit.then])
    have RY:=hid (fI (x:=.slice (some ⟨b1,0,none⟩) N N) (y:=.slice (some ⟨b2,0,none⟩) N N) (z:=.slice (some ⟨b3,0,none⟩) N N) (p:=.slice (some ⟨b4,0,none⟩) M M) (q:=.int .i64 0) (r:=.int .i64 st) QR.out)
    refine bodyPost_ret (v:=.tuple #[.agg #[.slice (some ⟨b1,0,none⟩) N N,.slice (some ⟨b2,0,none⟩) N N,.slice (some ⟨b3,0,none⟩) N N,.slice (some ⟨b4,0,none⟩) M M,.int .i64 0,.int .i64 st],.int .i64 0]) ?_ rfl ?_
    ·exact bK results9 _ _ gr _ _ (0,0) _ _ rfl rfl RY.out underlying26 rfl (by kernel_rfl)
    have hg:=HG.out
    have hn:=NG.out
    have hl:=LO.out
    have AW:Ab w wr:=A2.out.trans WR.out
    exact⟨b1,b2,b3,b4,rfl,(((((AW.setk hg _).setk hg _).setk hg _).setk hg _).setk hg _).setk hg _,TQ.out.2.1.of_block (aY (by omega)),TQ.out.2.2.1.of_block (aY (by omega)),TQ.out.2.2.2.1.of_block (aY (by omega)),TQ.out.2.2.2.2.of_block (aY (by omega))⟩
theorem iH(n rb:Nat)(pc:Option Addr)(lc cc:Nat)(C:Nat->Int)(pe:Option Addr)(le ce:Nat)(E:Nat->Int)(ph:Option Addr)(lh ch:Nat)(H:Nat->Int)(pb:Option Addr)(lb cb:Nat)(B:Nat->Nat)(pw:Option Addr)(lw cw:Nat)(W:Nat->Int)(pt:Option Addr)(lt ct:Nat)(T:Nat->Int)(ps:Option Addr)(ls cs:Nat)(S:Nat->Nat)(sky st:Int)(w:World)(hn:1<=n/\n<=32)(g:RefOf n rb w)(hl:lc<=281474976710656/\le<=281474976710656/\lh<=281474976710656)(IC:Sh.IsI w pc lc C)(IE:Sh.IsI w pe le E)(IH:Sh.IsI w ph lh H)(IB:IsFl w pb lb B)(IW:Sh.IsI w pw lw W)(IT:Sh.IsI w pt lt T)(IS:IsFl w ps ls S):
  (lG n lc le lh C E H lb lw lt ls->Calls prog 9 #[.pointer (some ⟨rb,0,none⟩),.agg #[.slice pc lc cc,.slice pe le ce,.slice ph lh ch],.agg #[.slice pb lb cb,.slice pw lw cw,.slice pt lt ct,.slice ps ls cs,.int .i64 sky,.int .i64 st]] w fun e w'=> ∃b1 b2 b3 b4,e=.returned (.tuple #[.agg #[.slice (some ⟨b1,0,none⟩) (6*n*n) (6*n*n),.slice (some ⟨b2,0,none⟩) (6*n*n) (6*n*n),.slice (some ⟨b3,0,none⟩) (6*n*n) (6*n*n),.slice (some ⟨b4,0,none⟩) (12*n*n) (12*n*n),.int .i64 0,.int .i64 st],.int .i64 0])/\Below w.heap.size w w'/\w'.rowIs b1 53 (6*n*n) (fun i=>.float .f64 (shB (mk2 lc lh C H) B i))/\w'.rowIs b2 2 (6*n*n) (fun i=>.int .i64 (shW (mk2 lc lh C H) W i))/\w'.rowIs b3 2 (6*n*n) (fun i=>.int .i64 (shW (mk2 lc lh C H) T i))/\w'.rowIs b4 53 (12*n*n) (fun i=>.float .f64 (shB (hs le E) S i)))/\
  (¬lG n lc le lh C E H lb lw lt ls->Calls prog 9 #[.pointer (some ⟨rb,0,none⟩),.agg #[.slice pc lc cc,.slice pe le ce,.slice ph lh ch],.agg #[.slice pb lb cb,.slice pw lw cw,.slice pt lt ct,.slice ps ls cs,.int .i64 sky,.int .i64 st]] w fun e w'=>e=.returned (.tuple #[.agg #[.slice none 0 0,.slice none 0 0,.slice none 0 0,.slice none 0 0,.int .i64 0,.int .i64 0],.int .i64 1])/\Below w.heap.size w w'):=by
 have n1:=n12 hn
 have n0:0<6*n*n:=Nat.mul_pos (Nat.mul_pos (by decide) hn.1) hn.1
 have n3:12*n*n=2*(6*n*n):=by rw[<- Nat.mul_assoc,<- Nat.mul_assoc]
 have CC:Hid (∀v,Ab w v->Calls prog 33 #[.pointer (some ⟨rb,0,none⟩)] v fun e w'=>e=.returned (.int .i64 (6*n*n:Nat))/\Below v.heap.size v w'):=fun v a=>(kZ hn (g.to a)).mono fun _ _ h=>⟨h.1,by obtain⟨_,rfl⟩:=h;exact Below.refl _ _⟩
 have CE:Hid (∀v,Ab w v->Calls prog 36 #[.pointer (some ⟨rb,0,none⟩)] v fun e w'=>e=.returned (.int .i64 (12*n*n:Nat))/\Below v.heap.size v w'):=fun v a=>(lA (g.to a)).mono fun _ _ h=>⟨h.1,by obtain⟨_,rfl⟩:=h;exact Below.refl _ _⟩
 have CF: ∀q:Bool,(q=true ↔ fit4 n lb lw lt ls)->Hid (∀v,Ab w v->Calls prog 34 #[.pointer (some ⟨rb,0,none⟩),.agg #[.slice pb lb cb,.slice pw lw cw,.slice pt lt ct,.slice ps ls cs,.int .i64 sky,.int .i64 st]] v fun e w'=>e=.returned (.bool q)/\Below v.heap.size v w'):=fun q hq v a=>rfits22 pb pw pt ps lb cb lw cw lt ct ls cs sky st q v hn (g.to a) hq
 have CI: ∀(p:Option Addr) (l c N:Nat) (f:Nat->Int) (q:Bool),l<=281474976710656->N<=12288->Sh.IsI w p l f->(q=true ↔ wi l f N)->Hid (∀v,Ab w v->Calls prog 35 #[.slice p l c,.int .i64 (N:Nat)] v fun e w'=>e=.returned (.bool q)/\Below v.heap.size v w'):=fun p l c N f q h1 h2 i hq v a=>(mV p l c N f q v h1 h2 (i.below a) hq).mono fun _ _ h=>⟨h.1,by obtain⟨_,rfl⟩:=h;exact Below.refl _ _⟩
 refine⟨fun fit=> ?_,fun no=> ?_⟩
 ·obtain⟨⟨rfl,rfl,rfl,rfl⟩,w1,w2,w3⟩:=fit
  obtain⟨qb,ob,rfl⟩:=IB.some0 n0
  obtain⟨qw,ow,rfl⟩:=IW.some0 n0
  obtain⟨qt,ot,rfl⟩:=IT.some0 n0
  obtain⟨qs,os,rfl⟩:=IS.some0 (by omega)
  exact tR rb (6*n*n) (12*n*n) pc lc cc pe le ce ph lh ch C E H qb ob cb qw ow cw qt ot ct qs os cs B W T S sky st w (by omega) n1 hl (CF true ⟨fun _=>⟨rfl,rfl,rfl,rfl⟩,fun _=>rfl⟩) CC CE (CI pc lc cc _ C true hl.1 (by omega) IC ⟨fun _=>w1,fun _=>rfl⟩) (CI ph lh ch _ H true hl.2.2 (by omega) IH ⟨fun _=>w2,fun _=>rfl⟩) (CI pe le ce _ E true hl.2.1 n1 IE ⟨fun _=>w3,fun _=>rfl⟩) IC IE IH w1 w3 w2 IB IW IT IS
 ·by_cases q0:fit4 n lb lw lt ls
  ·by_cases q1:wi lc C (6*n*n)
   ·by_cases q2:wi lh H (6*n*n)
    ·have q3: ¬wi le E (12*n*n):=fun h=>no ⟨q0,q1,q2,h⟩
     exact rlocal_3 rb pc lc cc pe le ce ph lh ch pb lb cb pw lw cw pt lt ct ps ls cs sky st (6*n*n) (12*n*n) w (CF true ⟨fun _=>q0,fun _=>rfl⟩) CC (CI pc lc cc _ C true hl.1 (by omega) IC ⟨fun _=>q1,fun _=>rfl⟩) (CI ph lh ch _ H true hl.2.2 (by omega) IH ⟨fun _=>q2,fun _=>rfl⟩) CE (CI pe le ce _ E false hl.2.1 n1 IE ⟨(fun h=>by cases h),fun h=>absurd h q3⟩)
    ·exact rlocal_2 rb pc lc cc pe le ce ph lh ch pb lb cb pw lw cw pt lt ct ps ls cs sky st (6*n*n) w (CF true ⟨fun _=>q0,fun _=>rfl⟩) CC (CI pc lc cc _ C true hl.1 (by omega) IC ⟨fun _=>q1,fun _=>rfl⟩) (CI ph lh ch _ H false hl.2.2 (by omega) IH ⟨(fun h=>by cases h),fun h=>absurd h q2⟩)
   ·exact rlocal_1 rb pc lc cc pe le ce ph lh ch pb lb cb pw lw cw pt lt ct ps ls cs sky st (6*n*n) w (CF true ⟨fun _=>q0,fun _=>rfl⟩) CC (CI pc lc cc _ C false hl.1 (by omega) IC ⟨(fun h=>by cases h),fun h=>absurd h q1⟩)
  ·exact rlocal_0 rb pc lc cc pe le ce ph lh ch pb lb cb pw lw cw pt lt ct ps ls cs sky st (6*n*n) w (CF false ⟨(fun h=>by cases h),fun h=>absurd h q0⟩) CC
end Spl
end
end Go.Proofs.YtilfdnipahabbaaGreatDoor
