/-
  Some of the texts of this proof, one behind the other.
-/
import Derived.Test.YtmhnilnaffjhmaaGreatDoorTie
import Derived.Test.YtmhnilnaffjhmaaGreatDoorCards
import Derived.ProofKit
import Derived.LaidMore
import Derived.OpenShut
import Derived.Stop.Joined
import Derived.Carry
import Derived.Lib.SmallJoins
import Derived.WalkLawsBesides
import Derived.Test.YtmhnilnaffjhmaaGreatDoorRows
import Derived.Deep.Slices
import Derived.Deep.OwnRows
import Derived.StillTail
import Derived.BigQuiet
import Derived.Deep.QuietTactic
import Derived.Deep.AppendLies
import Derived.OwnWalk
import Derived.Test.YtmhnilnaffjhmaaGreatDoorCeg07
set_option maxRecDepth 100000
set_option maxHeartbeats 400000000
namespace Go.Proofs.YtmhnilnaffjhmaaGreatDoor
open _root_.Go.Proofs.Tryz
section
open Tf Ieee
def ps(a:Nat):Bool:=decide (0<a/\a<=9218868437227405312)
def ns(a:Nat):Bool:=decide (9223372036854775808<a/\a<=18442240474082181120)
theorem bV{a:Nat}:ps a=true ↔ 0<a/\a<=9218868437227405312:=by unfold ps;rw[decide_eq_true_iff]
theorem gB{a:Nat}:ns a=true ↔ 9223372036854775808<a/\a<=18442240474082181120:=by unfold ns;rw[decide_eq_true_iff]
theorem ps_no{a:Nat}:ps a=false ↔ a=0\/9218868437227405312<a:=by unfold ps;rw[decide_eq_false_iff_not];omega
theorem pZ:rk 0=0:=by decide
theorem cM{a:Nat}(ha:a<18446744073709551616):fgt a 0=ps a:=by
 rw[eT a 0 ha (by decide),pZ,show isN 0=false by decide]
 unfold ps isN rk ng mg
 by_cases c:9223372036854775808<=a
 ·rw[decide_eq_true c,if_pos rfl,decide_eq_false (p:=0<a/\_) (by omega),decide_eq_false (p:=(0:Int)<_) (by omega),Bool.and_false]
 ·rw[decide_eq_false c,if_neg (by decide),Nat.mod_eq_of_lt (by omega)]
  by_cases d:9218868437227405312<a
  ·rw[decide_eq_true d,decide_eq_false (p:=0<a/\_) (by omega)];rfl
  ·rw[decide_eq_false d]
   by_cases e:0<a
   ·rw[decide_eq_true (p:=0<a/\_) (by omega),decide_eq_true (p:=(0:Int)<_) (by omega)];rfl
   ·rw[decide_eq_false (p:=0<a/\_) (by omega),decide_eq_false (p:=(0:Int)<_) (by omega)];rfl
theorem dX{a:Nat}(ha:a<18446744073709551616):flt a 0=ns a:=by
 rw[lM a 0 ha (by decide),pZ,show isN 0=false by decide]
 unfold ns isN rk ng mg
 by_cases c:9223372036854775808<=a
 ·rw[decide_eq_true c,if_pos rfl]
  have e:a%9223372036854775808=a - 9223372036854775808:=by omega
  rw[e]
  by_cases d:9218868437227405312<a - 9223372036854775808
  ·rw[decide_eq_true d,decide_eq_false (p:=9223372036854775808<a/\_) (by omega)];rfl
  ·rw[decide_eq_false d]
   by_cases e:9223372036854775808<a
   ·rw[decide_eq_true (p:=9223372036854775808<a/\_) (by omega),decide_eq_true (p:= -_<(0:Int)) (by omega)];rfl
   ·rw[decide_eq_false (p:=9223372036854775808<a/\_) (by omega),decide_eq_false (p:= -_<(0:Int)) (by omega)];rfl
 ·rw[decide_eq_false c,if_neg (by decide),decide_eq_false (p:=9223372036854775808<a/\_) (by omega),decide_eq_false (p:=_<(0:Int)) (by omega),Bool.and_false]
theorem nn_N{a:Nat}(h:a<=9218868437227405312):isN a=false:=cF.2 (by rw[aZ (by omega)];exact h)
theorem flt_nn{a b:Nat}(ha:a<=9218868437227405312)(hb:b<=9218868437227405312):flt a b=decide (a<b):=by
 rw[lM a b (by omega) (by omega),jW a (by omega),jW b (by omega),nn_N ha,nn_N hb]
 by_cases c:a<b
 ·rw[decide_eq_true c,decide_eq_true (by omega)];rfl
 ·rw[decide_eq_false c,decide_eq_false (by omega)];rfl
theorem fgt_nn{a b:Nat}(ha:a<=9218868437227405312)(hb:b<=9218868437227405312):fgt a b=decide (b<a):=by
 rw[eT a b (by omega) (by omega),jW a (by omega),jW b (by omega),nn_N ha,nn_N hb]
 by_cases c:b<a
 ·rw[decide_eq_true c,decide_eq_true (by omega)];rfl
 ·rw[decide_eq_false c,decide_eq_false (by omega)];rfl
theorem feq_nn{a b:Nat}(ha:a<=9218868437227405312)(hb:b<=9218868437227405312):feq a b=decide (a=b):=by
 rw[gQ a b (by omega) (by omega),jW a (by omega),jW b (by omega),nn_N ha,nn_N hb]
 by_cases c:a=b
 ·rw[decide_eq_true c,decide_eq_true (by omega)];rfl
 ·rw[decide_eq_false c,decide_eq_false (by omega)];rfl
def lr(a b:Nat):Nat:=if leer a b<9218868437227405312 then leer a b else 0
def lm(k:Int)(a b:Nat):Nat:=if k=1 then min a b else if k=2 then sbee a b else if k=3 then lr a b else 0
def op(x:Nat):Nat:=if x=0 then 0 else x+9223372036854775808
def slp(k:Int)(a b:Nat):Nat:=if(ps a&&ps b)=true then lm k a b else if(ns a&&ns b)=true then op (lm k (a - 9223372036854775808) (b - 9223372036854775808))else 0
theorem lr_le(a b:Nat):lr a b<9218868437227405312:=by unfold lr;split<;>omega
theorem lJ(k:Int){a b:Nat}(ha:a<=9218868437227405312)(hb:b<=9218868437227405312):lm k a b<=9218868437227405312:=by
 have s:=AK ha hb
 have l:=lr_le a b
 unfold lm
 split
 ·omega
 ·split
  ·omega
  ·split<;>omega
theorem op_lt{x:Nat}(h:x<=9218868437227405312):op x<=18442240474082181120:=by unfold op;split<;>omega
theorem slp_lt(k:Int)(a b:Nat):slp k a b<18446744073709551616:=by
 unfold slp
 split
 ·rename_i h
  rw[Bool.and_eq_true,bV,bV]at h
  have:=lJ k h.1.2 h.2.2
  omega
 ·split
  ·rename_i h
   rw[Bool.and_eq_true,gB,gB]at h
   have:=op_lt (lJ k (a:=a - 9223372036854775808) (b:=b - 9223372036854775808) (by omega) (by omega))
   omega
  ·omega
theorem canon_op{x:Nat}(h:x<=9218868437227405312):canonB (negB x)=op x:=by
 unfold negB op canonB
 rw[bK (by omega)]
 simp only[Bool.false_eq_true,if_false]
 by_cases c:x=0
 ·subst c;decide
 ·have m:mg (x+9223372036854775808)=x:=by unfold mg;omega
  unfold isN
  rw[m,if_neg c,if_neg (by simp;omega)]
theorem jY{a:Nat}(h:9223372036854775808<a):negB a=a - 9223372036854775808:=by
 unfold negB
 rw[if_pos]
 unfold ng;exact decide_eq_true (by omega)
theorem vW{x y:Nat}(hx:x<=9218868437227405312)(hy:y<=9218868437227405312)(x0:0<x)(y0:0<y):Ieee.double.mul x y=some (mlB x y):=by
 have h:=ml_nn hx hy x0 y0
 cases e:Ieee.double.mul x y with
 | none=>rw[eA e]at h;unfold quiet at h;omega
 | some r=>rw[cZ e]
theorem add_pp{x y:Nat}(hx:x<=9218868437227405312)(hy:y<=9218868437227405312):Ieee.double.add x y=some (plB x y):=by
 have h:=(plB_nn hx hy).1
 cases e:Ieee.double.add x y with
 | none=>rw[qX e]at h;unfold quiet at h;omega
 | some r=>rw[iM e]
theorem yI{a b:Nat}(ha:a<=9218868437227405312)(hb:b<=9218868437227405312):Ieee.double.order a b=some (if a<b then .lt else if b<a then .gt else .eq):=by
 have h1:=flt_nn ha hb
 have h2:=fgt_nn ha hb
 have h3:=feq_nn ha hb
 unfold flt at h1
 unfold fgt at h2
 unfold feq at h3
 by_cases c:a<b
 ·rw[if_pos c];rw[decide_eq_true c]at h1;simpa using h1
 ·rw[if_neg c]
  by_cases d:b<a
  ·rw[if_pos d];rw[decide_eq_true d]at h2;simpa using h2
  ·rw[if_neg d];rw[decide_eq_true (by omega)]at h3;simpa using h3
theorem lr_le_of{r:Nat}{a b:Nat}(h:IsC r (leer a b))(hn:leer a b=quiet\/leer a b<=9218868437227405312):
  (flt r 9218868437227405311||feq r 9218868437227405311)=decide (leer a b<9218868437227405312)/\(leer a b<9218868437227405312->canonB r=leer a b):=by
 obtain⟨h1,h2⟩:=h
 refine⟨?_,fun _=>h2⟩
 rcases hn with e | e
 ·rw[e]at h2 ⊢
  have nr:isN r=true:=by
   cases k:isN r
   ·unfold canonB at h2
    rw[k]at h2
    have:=cF.1 k
    simp only[Bool.false_eq_true,if_false]at h2
    split at h2
    ·exact absurd h2 (by decide)
    ·rw[h2]at k;exact absurd k (by decide)
   ·rfl
  rw[lM r _ h1 (by decide),gQ r _ h1 (by decide),nr]
  rfl
 ·have nr:isN r=false:=by
   cases k:isN r
   ·rfl
   ·unfold canonB at h2
    rw[k,if_pos rfl]at h2
    rw[<- h2]at e
    unfold quiet at e
    omega
  have rr:rk r=leer a b:=by
   unfold canonB at h2
   rw[nr,if_neg (by decide)]at h2
   split at h2
   ·rename_i m
    rw[<- h2]
    unfold rk
    rw[m];split<;>rfl
   ·rw[h2];exact jW _ (by omega)
  rw[lM r _ h1 (by decide),gQ r _ h1 (by decide),nr,rr,show isN 9218868437227405311=false by decide,jW 9218868437227405311 (by decide)]
  by_cases c:leer a b<9218868437227405312
  ·rw[decide_eq_true c]
   by_cases d:leer a b=9218868437227405311
   ·rw[d];decide
   ·rw[decide_eq_true (p:=(_:Int)<_) (by omega)];rfl
  ·rw[decide_eq_false c,decide_eq_false (p:=(_:Int)<_) (by omega),decide_eq_false (p:=(_:Int)=_) (by omega)];rfl
end
section
open Tf Ieee
def pos0(r:Nat):Nat:=if fgt r 0=true then r else 0
def rcV(k:Int)(h hb hd:Nat):Nat:=plB h (mlB 4602678819172646912 (slp k (sbB h hb) (sbB hd h)))
def rcG(l bu bd:Nat):Nat:=sbB l (maxB bu bd)
def rcR(k:Int)(h hb hd l bu bd:Nat):Nat:=pos0 (minB (rcV k h hb hd) (rcG l bu bd))
theorem pos0_lt{r:Nat}(h:r<18446744073709551616):pos0 r<18446744073709551616:=by unfold pos0;split<;>omega
theorem isC_N{r c:Nat}(h:IsC r c):isN r=isN c:=by
 have e:=h.2
 unfold canonB at e
 split at e
 ·rename_i k;rw[k,<- e];decide
 ·rename_i k
  split at e
  ·have n:isN r=false:=by simpa using k
   rw[<- e,n];decide
  ·rw[e]
theorem isC_or{r c:Nat}(h:IsC r c)(n:isN r=false):(mg r=0/\c=0)\/r=c:=by
 have e:=h.2
 unfold canonB at e
 rw[n]at e
 by_cases z:mg r=0
 ·exact .inl ⟨z,by simpa [z]using e.symm⟩
 ·exact .inr (by simpa [z]using e)
theorem slp_N(k:Int)(a b:Nat):isN (slp k a b)=false:=by
 unfold slp
 split
 ·rename_i c
  have q:=(Bool.and_eq_true _ _).mp c
  exact nn_N (lJ k (bV.1 q.1).2 (bV.1 q.2).2)
 ·split
  ·rename_i c
   have q:=(Bool.and_eq_true _ _).mp c
   have a1:=gB.1 q.1
   have b1:=gB.1 q.2
   have l:=lJ k (a:=a - 9223372036854775808) (b:=b - 9223372036854775808) (by omega) (by omega)
   refine cF.2 ?_
   unfold op
   split
   ·unfold mg;omega
   ·unfold mg;omega
  ·decide
theorem vX{a b:Nat}(ha:a<18446744073709551616)(hb:b<18446744073709551616):minB a b<18446744073709551616:=by
 unfold minB
 split
 ·decide
 ·split<;>assumption
theorem yJ{a b:Nat}(ha:a<18446744073709551616)(hb:b<18446744073709551616)(na:isN a=false)(nb:isN b=false):
  (minB a b=a\/minB a b=b)/\rk (minB a b)<=rk a/\rk (minB a b)<=rk b:=by
 unfold minB
 rw[na,nb,if_neg (by decide)]
 have key: ∀x y:Nat,x<18446744073709551616->y<18446744073709551616->placeB x<=placeB y->rk x<=rk y:=by
  intro x y hx hy h
  unfold placeB at h
  unfold rk
  cases gx:ng x<;>cases gy:ng y<;>simp only[gx,gy,if_true,if_false,Bool.false_eq_true]at h ⊢ <;>unfold ng at gx gy<;>simp only[decide_eq_true_eq,decide_eq_false_iff_not]at gx gy<;>unfold mg<;>omega
 split
 ·rename_i c
  exact⟨.inr rfl,key _ _ hb ha (by omega),Int.le_refl _⟩
 ·rename_i c
  exact⟨.inl rfl,Int.le_refl _,key _ _ ha hb (by omega)⟩
theorem iY{a b:Nat}(h:isN a=true\/isN b=true):minB a b=quiet:=by
 unfold minB
 rw[if_pos (by rcases h with h | h<;>simp[h])]
theorem pos0_c{v r g:Nat}(hv:v<18446744073709551616)(h:IsC r g):pos0 (minB v r)=pos0 (minB v g):=by
 cases nv:isN v
 ·cases nr:isN r
  ·rcases isC_or h nr with⟨z,rfl⟩ | rfl
   ·have m1:=yJ hv h.1 nv nr
    have m2:=yJ hv (b:=0) (by decide) nv (by decide)
    have r0:rk r=0:=by unfold rk;rw[z];simp
    have l1:=vX hv h.1
    have l2:=vX hv (b:=0) (by decide)
    have z1:pos0 (minB v r)=0:=by
     unfold pos0
     rw[if_neg]
     intro q
     have:=((Dt l1 (by decide)).1 q).2.2
     rw[pZ]at this
     omega
    have z2:pos0 (minB v 0)=0:=by
     unfold pos0
     rw[if_neg]
     intro q
     have:=((Dt l2 (by decide)).1 q).2.2
     rw[pZ]at this m2
     omega
    rw[z1,z2]
   ·rfl
  ·rw[iY (.inr nr),iY (.inr (by rw[<- isC_N h];exact nr))]
 ·rw[iY (.inl nv),iY (.inl nv)]
end
section
open Tf Ieee Cu
def ovC(k:Int)(A:Nat->Int)(B:Nat->Nat)(W:Nat->Int)(up down back:Nat):Nat:=
 rcR k (dpB (W up) (A up)) (dpB (W back) (A back)) (dpB (W down) (A down)) (lvl (B up) (W up) (A up)) (B up) (B down)
def bkC(n t:Nat):Nat:=bsC n (t/4) ((t%4+2)%4)
def sdD(n:Nat)(k:Int)(A:Nat->Int)(B:Nat->Nat)(W:Nat->Int)(t:Nat):Nat:=ovC k A B W (t/4) (mt n t/4) (bkC n t)
def rdT(n:Nat)(k:Int)(A:Nat->Int)(B:Nat->Nat)(W:Nat->Int)(t u:Nat):Nat:=
 if fgt u 0=true then sdD n k A B W t else if flt u 0=true then sdD n k A B W (mt n t)else 0
theorem rdT_p{n:Nat}{k:Int}{A:Nat->Int}{B:Nat->Nat}{W:Nat->Int}{t u:Nat}(h:fgt u 0=true):rdT n k A B W t u=sdD n k A B W t:=by unfold rdT;rw[if_pos h]
theorem rdT_n{n:Nat}{k:Int}{A:Nat->Int}{B:Nat->Nat}{W:Nat->Int}{t u:Nat}(h:fgt u 0=false)(g:flt u 0=true):rdT n k A B W t u=sdD n k A B W (mt n t):=by unfold rdT;rw[if_neg (by rw[h];decide),if_pos g]
theorem rdT_0{n:Nat}{k:Int}{A:Nat->Int}{B:Nat->Nat}{W:Nat->Int}{t u:Nat}(h:fgt u 0=false)(g:flt u 0=false):rdT n k A B W t u=0:=by unfold rdT;rw[if_neg (by rw[h];decide),if_neg (by rw[g];decide)]
theorem bk_lt{n t:Nat}(hn:1<=n)(ht:t<24*n*n):bkC n t<6*n*n:=by
 have g:=jE (s:=(t%4+2)%4) (t:=0) (k:=t/4) hn rfl (aW ht) (by omega) (by decide) (aW ht)
 exact g.1.2.2.1
end
section
open Go.RowKit Cu Tf
theorem uC{n gb c s:Nat}{w:World}(hn:1<=n/\n<=32)(hc:c<6*n*n)(hs:s<4)(g:GridOf n gb w):
  Calls prog 11 #[.pointer (some ⟨gb,0,none⟩),.int .i64 c,.int .i64 s] w fun e w'=>e=.returned (.tuple #[.int .i64 (eE n (4*c+s):Nat),.int .i64 (eS n (4*c+s))])/\Below w.heap.size w w':=by
 have h12:=n12 hn
 have h:=lP (c:=c) (s:=s) (W64_of (by omega)) (W64_of (by omega)) g
 rw[gT_end hn.1 hc hs]at h
 exact h
theorem AX{n c s:Nat}(hn:1<=n)(hc:c<6*n*n)(hs:s<4):GpC n (bsC n c s) (bsS n c s)=GpC n c s:=by
 unfold GpC;rw[(uV hn hc hs).1,mP]
end
section
open Go.ChangeShapes Go.WideShapes Go.ChangeAt Go.WideMaps Go.WideElems Go.RowKit Cu
theorem own:ownKnob Tryz.prog.godebug=none:=by kernel_rfl
theorem gFrames:Tryz.prog.globalNamed "tarn/cube.frames" =some 1:=by kernel_rfl
theorem tFrames:(Tryz.prog.globals[1]?).map (·.type)=some 115:=by kernel_rfl
theorem door_met(os:Os)(args:Array Value):laidMetH prog [("tarn/cube.frames",Rows.laid_tarn_cube_frames)] ((World.doorLaid prog 400 os).forCall (fun _ _=>0) ⟨#[],args,[]⟩).memory:=
 laidMetH_of_parts3 (fuel:=8) (laidMet_of_run' 8 (by kernel_rfl) (by kernel_rfl)) (by kernel_rfl) (by kernel_rfl)
theorem vY{H:Type}{enc:TypeId × Value->H}{w:World}{base fuel:Nat}{spare:Nat->Bool}{held:Bool}{cs:List Value}{x:DataW H × List MemPlace}(h:DataW.trod enc prog w base spare held fuel 107 cs=some x)
  (a b c:Int) (e:x.1=.agg [.lit (.int .i64 a),.lit (.int .i64 b),.lit (.int .i64 c)]):cs=[.int .i64 a,.int .i64 b,.int .i64 c]:=by
 have k3:Tryz.prog.cellsOf 3=1:=by kernel_rfl
 have kp:Tryz.prog.cellsOf 107=3:=by kernel_rfl
 obtain⟨xs,m,_,hx,hlen,hn,hel⟩:=DataW.trod_array underlying107 h
 rw[hx]at e
 match xs,hn,cs,hlen.trans kp with
 | [x0,x1,x2],_,[c0,c1,c2],_=>
  have h0:=hel 0 (by decide)
  have h1:=hel 1 (by decide)
  have h2:=hel 2 (by decide)
  simp[k3]at h0 h1 h2
  obtain⟨n0,e0,f0,_⟩:=DataW.trod_int underlying3 h0
  obtain⟨n1,e1,f1,_⟩:=DataW.trod_int underlying3 h1
  obtain⟨n2,e2,f2,_⟩:=DataW.trod_int underlying3 h2
  simp at e0 e1 e2
  simp[f0,f1,f2]at e
  rw[e0,e1,e2,e.1,e.2.1,e.2.2]
theorem fJ{H:Type}{enc:TypeId × Value->H}{w:World}{base fuel:Nat}{spare:Nat->Bool}{held:Bool}{cs:List Value}{x:DataW H × List MemPlace}(h:DataW.trod enc prog w base spare held fuel 114 cs=some x)
  (p q r:P3) (e:x.1=.agg [.agg [.lit (.int .i64 p.1),.lit (.int .i64 p.2.1),.lit (.int .i64 p.2.2)],.agg [.lit (.int .i64 q.1),.lit (.int .i64 q.2.1),.lit (.int .i64 q.2.2)],.agg [.lit (.int .i64 r.1),.lit (.int .i64 r.2.1),.lit (.int .i64 r.2.2)]]):
  cs=[.int .i64 p.1,.int .i64 p.2.1,.int .i64 p.2.2,.int .i64 q.1,.int .i64 q.2.1,.int .i64 q.2.2,.int .i64 r.1,.int .i64 r.2.1,.int .i64 r.2.2]:=by
 have kp:Tryz.prog.cellsOf 107=3:=by kernel_rfl
 have kf:Tryz.prog.cellsOf 114=9:=by kernel_rfl
 obtain⟨xs,m,_,hx,hlen,hn,hel⟩:=DataW.trod_struct underlying114 h
 rw[hx]at e
 match xs,hn,cs,hlen.trans kf with
 | [x0,x1,x2],_,[c0,c1,c2,c3,c4,c5,c6,c7,c8],_=>
  have h0:=hel 0 _ rfl
  have h1:=hel 1 _ rfl
  have h2:=hel 2 _ rfl
  simp[kp]at h0 h1 h2
  simp at e
  have e0:=vY h0 _ _ _ e.1
  have e1:=vY h1 _ _ _ e.2.1
  have e2:=vY h2 _ _ _ e.2.2
  simp at e0 e1 e2
  simp[e0,e1,e2]
theorem Ba{H:Type}{enc:TypeId × Value->H}{w:World}{base fuel:Nat}{spare:Nat->Bool}{held:Bool}{cs:List Value}{x:DataW H × List MemPlace}(h:DataW.trod enc prog w base spare held fuel 115 cs=some x)
  (e:x.1=Rows.laid_tarn_cube_frames): ∀f,f<6->(cs.drop (f*9)).take 9=[.int .i64 (cC f).1,.int .i64 (cC f).2.1,.int .i64 (cC f).2.2,.int .i64 (cR f).1,.int .i64 (cR f).2.1,.int .i64 (cR f).2.2,.int .i64 (cU f).1,.int .i64 (cU f).2.1,.int .i64 (cU f).2.2]:=by
 have kf:Tryz.prog.cellsOf 114=9:=by kernel_rfl
 obtain⟨xs,m,_,hx,hlen,hn,hel⟩:=DataW.trod_array underlying115 h
 rw[hx]at e
 intro f hf
 have h0:=hel f hf
 rw[kf]at h0
 match xs,hn with
 | [x0,x1,x2,x3,x4,x5],_=>
  simp only[List.map_cons,List.map_nil,Rows.laid_tarn_cube_frames,DataW.agg.injEq,List.cons.injEq]at e
  rcases six hf with rfl | rfl | rfl | rfl | rfl | rfl
  ·exact fJ h0 (cC 0) (cR 0) (cU 0) e.1
  ·exact fJ h0 (cC 1) (cR 1) (cU 1) e.2.1
  ·exact fJ h0 (cC 2) (cR 2) (cU 2) e.2.2.1
  ·exact fJ h0 (cC 3) (cR 3) (cU 3) e.2.2.2.1
  ·exact fJ h0 (cC 4) (cR 4) (cU 4) e.2.2.2.2.1
  ·exact fJ h0 (cC 5) (cR 5) (cU 5) e.2.2.2.2.2.1
theorem of_laid{W:World}(h:laidMetH prog [("tarn/cube.frames",Rows.laid_tarn_cube_frames)] W):Fr W:=by
 rw[MakeChecks.laidMetH_plain _ _ _ (by kernel_rfl)]at h
 obtain⟨ps,⟨g0,t0,cs0,f0,p0,q0,hg0,ht0,hv0,hd0,_⟩,_⟩:=h
 obtain rfl:=Option.some.inj (gFrames.symm.trans hg0)
 obtain rfl:=Option.some.inj (tFrames.symm.trans ht0)
 have T:=Ba hd0 rfl
 have C:=World.var?_cell hg0 hv0
 have K: ∀f,f<6-> ∀k,k<9->W.cell? ⟨1,f*9+k,none⟩=((cs0.toList.drop (f*9)).take 9)[k]? :=by
  intro f hf k hk
  rw[C,List.getElem?_take,if_pos hk,List.getElem?_drop]
  simp
 have N: ∀f,f<6->Fr9 W f:=by
  intro f hf
  have K:=K f hf
  rw[T f hf]at K
  exact⟨⟨K 0 (by omega),K 1 (by omega),K 2 (by omega)⟩,⟨K 3 (by omega),K 4 (by omega),K 5 (by omega)⟩,⟨K 6 (by omega),K 7 (by omega),K 8 (by omega)⟩⟩
 refine⟨?_,N⟩
 have c0:=(N 0 (by omega)).1.1
 rcases Nat.lt_or_ge 1 W.heap.size with h1 | h1
 ·exact h1
 ·rw[World.cell?,Array.getElem?_eq_none h1]at c0;cases c0
end
section
open Go.RowKit Cu
def wi(x:Int)(n:Nat):Nat:=((x%18446744073709551616)%n).toNat
end
section
open Tf Cu
namespace Ss
def inv(r:Nat):Nat:=((List.range 24).find? (fun u=>aft u r==0)).getD 0
section
variable {n r u t:Nat}
end
def cnF(x:Nat):Prop:=x<18446744073709551616/\isN x=false/\x≠9223372036854775808
section
variable {n r:Nat}
end
section
variable {n r u:Nat} {α:Type}
end
end Ss
end
section
open Go.ChangeShapes Go.WideShapes Go.ChangeAt Go.WideMaps Go.WideElems Go.RowKit Go.Deep
def IsIn(w:World)(a0:Option Addr)(len:Nat)(xs:Nat->Int):Prop:= ∀k,k<len->(-9223372036854775808<=xs k/\xs k<=9223372036854775807)/\ ∃b o,a0=some ⟨b,o,none⟩/\b<w.heap.size/\w.cell? ⟨b,o+k,none⟩=some (.int .i64 (xs k))
theorem IsIn.below{w w':World}{a0:Option Addr}{len:Nat}{xs:Nat->Int}(h:IsIn w a0 len xs)(hb:Below w.heap.size w w'):IsIn w' a0 len xs:=by
 intro k hk
 obtain⟨h1,b,o,h2,h3,h4⟩:=h k hk
 exact⟨h1,b,o,h2,Nat.lt_of_lt_of_le h3 hb.size,by rw[hb.cell (p:=⟨b,o+k,none⟩) h3];exact h4⟩
theorem nY(b off j:Nat):(⟨b,off,none⟩:Addr).add j=⟨b,off+j,none⟩:=by
 by_cases c:j=0
 ·subst c;simp[Addr.add]
 ·simp[Addr.add,c]
end
section
open Tf Ieee
theorem sb_nn{x y:Nat}(hx:x<9218868437227405312)(hy:y<9218868437227405312):sbB x y=rn false ((mv x:Int) - mv y):=by
 have mx:mg x=x:=aZ (by omega)
 have my:mg y=y:=aZ (by omega)
 have e:=sub_d x y (by omega) (by omega) (by omega) (by omega)
 rw[pS x y (by omega)]at e
 unfold sbB
 rw[bE e,jS,sv_nn (d:=x) (by omega),sv_nn (d:=y) (by omega)]
end
section
open Go.RowKit Tf Cu
theorem arI_top(L:Nat):1<=arI L/\arI L<=9223372036854775807:=by
 have h:cI .even (arQ L)<=9223372036854775807:=by
  unfold cI
  split
  ·rename_i c
   unfold cOk at c
   simp only[Bool.and_eq_true,decide_eq_true_eq]at c
   omega
  ·decide
 unfold arI
 omega
def arC(n c:Nat):Int:=arI (ArC n c)
theorem cO(n c:Nat):1<=arC n c/\arC n c<=9223372036854775807:=arI_top _
def rdAll(n:Nat)(k:Int)(lb lw:Nat)(B:Nat->Nat)(W:Nat->Int)(e:Int)(u:Nat):Nat:=
 if inR e (12*n*n:Nat)=true/\lb=6*n*n/\lw=6*n*n then rdT n k (arC n) B W (edT n e.toNat) u else 0
theorem uD{s:Nat}(hs:s<18446744073709551616)(h:isN s=false):Ieee.double.mul 4602678819172646912 s=some (mlB 4602678819172646912 s):=by
 have k:Ieee.double.mul 4602678819172646912 s≠none:=by
  rcases three s with c | c | c
  ·rw[tL 4602678819172646912 s (by decide) hs (by decide) c];exact Option.some_ne_none _
  ·rw[vE 4602678819172646912 s (by decide) hs (by decide) c,if_neg (by decide)];exact Option.some_ne_none _
  ·rw[h]at c;cases c
 cases e:Ieee.double.mul 4602678819172646912 s with
 | none=>exact absurd e k
 | some r=>rw[cZ e]
theorem half_N{s:Nat}(hs:s<18446744073709551616)(h:isN s=false):isN (mlB 4602678819172646912 s)=false/\mlB 4602678819172646912 s<18446744073709551616:=by
 have e:=uD hs h
 exact⟨(iO e (by decide) hs).2,(iO e (by decide) hs).1⟩
theorem uE{h f:Nat}(hh:h<9218868437227405312)(hf:f<18446744073709551616)(nf:isN f=false):Ieee.double.add h f=some (plB h f):=by
 have mh:mg h<9218868437227405312:=by rw[aZ (by omega)];exact hh
 have k:Ieee.double.add h f≠none:=by
  rcases three f with c | c | c
  ·rw[xC h f (by omega) hf mh c];exact Option.some_ne_none _
  ·rw[iA h f hf mh c];exact Option.some_ne_none _
  ·rw[nf]at c;cases c
 cases e:Ieee.double.add h f with
 | none=>exact absurd e k
 | some r=>rw[iM e]
theorem rP{x y:Nat}(hx:x<9218868437227405312)(hy:y<9218868437227405312):Ieee.double.sub x y=some (sbB x y):=by
 have mx:mg x<9218868437227405312:=by rw[aZ (by omega)];exact hx
 have my:mg y<9218868437227405312:=by rw[aZ (by omega)];exact hy
 rw[sub_d x y (by omega) (by omega) mx my,sb_nn hx hy,sv_nn (d:=x) (by omega),sv_nn (d:=y) (by omega),bK (x:=x) (by omega)]
 rfl
theorem rcV_lt{k:Int}{h hb hd:Nat}(hh:h<9218868437227405312):rcV k h hb hd<18446744073709551616:=by
 have s:=half_N (slp_lt k (sbB h hb) (sbB hd h)) (slp_N k _ _)
 have e:=uE hh s.2 s.1
 unfold rcV
 exact(IsQ.add (IsQ.self (by omega)) (IsQ.self s.2) e).1
theorem vZ{l m g:Nat}(hm:m<18446744073709551616)(e:Ieee.double.sub l m=some g)(hl:l<18446744073709551616):IsC g (sbB l m):=by
 have ea:Ieee.double.add l (negB m)=some g:=by rw[<- pS l m hm];exact e
 exact⟨(kS hl (bC hm) ea).1,by unfold sbB;rw[bE ea]⟩
theorem IsFl.at0{w:World}{b o len:Nat}{xs:Nat->Nat}(h:IsFl w (some ⟨b,o,none⟩) len xs){k:Nat}(hk:k<len):xs k<18446744073709551616/\b<w.heap.size/\w.cell? ⟨b,o+k,none⟩=some (.float .f64 (xs k)):=by
 obtain⟨h1,b',o',e,h2,h3⟩:=h k hk
 injection e with e1
 injection e1 with e2 e3
 subst e2 e3
 exact⟨h1,h2,h3⟩
theorem IsIn.at0{w:World}{b o len:Nat}{xs:Nat->Int}(h:IsIn w (some ⟨b,o,none⟩) len xs){k:Nat}(hk:k<len):xs k<=9223372036854775807/\b<w.heap.size/\w.cell? ⟨b,o+k,none⟩=some (.int .i64 (xs k)):=by
 obtain⟨h1,b',o',e,h2,h3⟩:=h k hk
 injection e with e1
 injection e1 with e2 e3
 subst e2 e3
 exact⟨h1.2,h2,h3⟩
theorem Du{a b:Nat}(ha:a<18446744073709551616)(hb:b<18446744073709551616):maxB a b<18446744073709551616:=by
 unfold maxB
 split
 ·decide
 ·split<;>assumption
theorem qA{e:Int}{N:Nat}(h:inR e (N:Nat)=true): ∃E:Nat,e=(E:Int)/\E<N:=by
 obtain⟨h1,h2⟩:=cY.1 h
 obtain⟨E,rfl⟩:=Int.eq_ofNat_of_zero_le h1
 exact⟨E,rfl,by omega⟩
theorem yK{n:Nat}{k:Int}{lb lw:Nat}{B:Nat->Nat}{W:Nat->Int}{e:Int}{u:Nat}(h: ¬(inR e (12*n*n:Nat)=true/\lb=6*n*n/\lw=6*n*n)):rdAll n k lb lw B W e u=0:=by unfold rdAll;rw[if_neg h]
theorem rdAll_eN{n:Nat}{k:Int}{B:Nat->Nat}{W:Nat->Int}{t u:Nat}(hn:1<=n)(ht:t<24*n*n)(hl:isL n t=true):rdAll n k (6*n*n) (6*n*n) B W (eN n t:Nat) u=rdT n k (arC n) B W t u:=by
 unfold rdAll
 rw[if_pos ⟨cY.2 (by have:=lG hn ht hl;omega),rfl,rfl⟩,Int.toNat_natCast,lO hn ht hl]
theorem IsFl.some0{w:World}{a0:Option Addr}{len:Nat}{xs:Nat->Nat}(h:IsFl w a0 len xs)(h0:0<len): ∃b o,a0=some ⟨b,o,none⟩:=by
 obtain⟨_,b,o,e,_⟩:=h 0 h0
 exact⟨b,o,e⟩
theorem IsIn.some0{w:World}{a0:Option Addr}{len:Nat}{xs:Nat->Int}(h:IsIn w a0 len xs)(h0:0<len): ∃b o,a0=some ⟨b,o,none⟩:=by
 obtain⟨_,b,o,e,_⟩:=h 0 h0
 exact⟨b,o,e⟩
theorem Dv{n:Nat}(hn:1<=n):0<6*n*n:=Nat.mul_pos (Nat.mul_pos (by decide) hn) hn
end
section
open Tf Cu
namespace Ss
theorem btw_iff{x lo hi:Nat}(hx:x<18446744073709551616)(hl:lo<18446744073709551616)(hh:hi<18446744073709551616)(nl:isN lo=false)(nh:isN hi=false):btw x lo hi=true ↔ isN x=false/\(rk lo<=rk x/\rk x<=rk hi)/\x≠9223372036854775808:=by
 unfold btw
 cases n:isN x with
 | true=>
  have e1:fgt x lo=false:=by rw[eT x lo hx hl,n];rfl
  have e2:feq x lo=false:=by rw[gQ x lo hx hl,n];rfl
  rw[e1,e2]
  simp
 | false=>
  rw[fge_of hx hl n nl,fle_of hx hh n nh]
  simp only[Bool.and_eq_true,decide_eq_true_eq,true_and]
theorem bS_iff{S:Nat->Nat}{i:Nat}(h:S i<18446744073709551616):bS S i=false ↔ isN (S i)=false/\(-4652218415073722368<=rk (S i)/\rk (S i)<=4652218415073722368)/\S i≠9223372036854775808:=by
 have e1:rk 13875590451928498176= -4652218415073722368:=by decide+kernel
 have e2:rk 4652218415073722368=4652218415073722368:=by decide+kernel
 unfold bS
 rw[Bool.not_eq_false',btw_iff h (by decide) (by decide) (by decide+kernel) (by decide+kernel),e1,e2]
theorem bS_cn{S:Nat->Nat}{i:Nat}(h:S i<18446744073709551616)(k:bS S i=false):cnF (S i):=by
 have:=(bS_iff h).1 k
 exact⟨h,this.1,this.2.2⟩
section
variable {n r:Nat}
end
end Ss
end
section
open Go.RowKit Go.Deep
theorem jZ{v:World}{g n:Nat}{z:Value}{T:TypeId}(h:v.heap[g]? =some (Obj.cells (madeCells #[z] n) T)):v.rowIs g T n (fun _=>z):=by
 have e:=World.rowIs_made v z n T
 have l:=heap_alloc_new v (Obj.cells (madeCells #[z] n) T)
 obtain⟨c,h1,h2⟩:=e
 rw[l]at h1
 exact⟨c,h.trans h1,h2⟩
theorem row6{w:World}{g:Nat}{a b c d e f x y z p q r:Value}{T:TypeId}(h:w.heap[g]? =some (.cells #[a,b,c,d,e,f] T)):
  ((((((w.setCell ⟨g,0,none⟩ x).setCell ⟨g,1,none⟩ y).setCell ⟨g,2,none⟩ z).setCell ⟨g,3,none⟩ p).setCell ⟨g,4,none⟩ q).setCell ⟨g,5,none⟩ r).heap[g]? =some (.cells #[x,y,z,p,q,r] T):=by
 have h1:=aI (v:=x) (k:=0) h
 have h2:=aI (v:=y) (k:=1) h1
 have h3:=aI (v:=z) (k:=2) h2
 have h4:=aI (v:=p) (k:=3) h3
 have h5:=aI (v:=q) (k:=4) h4
 have h6:=aI (v:=r) (k:=5) h5
 simpa using h6
theorem aE{v:World}{b k g:Nat}{x:Value}(h:g≠b):(v.setCell ⟨b,k,none⟩ x).heap[g]? =v.heap[g]? :=blk_setCell_other _ _ _ _ h
end
section
open Go.RowKit
def backB(md:Region.Mode)(ops:Array Oper)(n:Nat):Bool:=
 (List.range n).all fun i=>match ops[i]? with
  | some o=>o.after.all (fun e=> !Region.binds md e||decide (e.on<i))&&(match o.guard with | none=>true | some (j,_)=>decide (j<n))
  | none=>true
def finA(m n:Nat):Array Bool:=Array.replicate n true++Array.replicate (m - n) false
theorem iZ{md:Region.Mode}{ops:Array Oper}{n:Nat}(h:backB md ops n=true){i:Nat}{o:Oper}(hi:i<n)(ho:ops[i]? =some o):
  (∀e ∈ o.after,Region.binds md e=true->e.on<i)/\(∀j b,o.guard=some (j,b)->j<n):=by
 have a:=List.all_eq_true.1 h i (List.mem_range.2 hi)
 simp only[ho,Bool.and_eq_true]at a
 refine⟨fun e he hb=> ?_,fun j b hg=> ?_⟩
 ·have:=Array.all_eq_true_iff_forall_mem.1 a.1 e he
  simpa [hb]using this
 ·have:=a.2
  rw[hg]at this
  simpa using this
theorem mR{l:Array Bool}{i:Nat}(h:i<l.size)(d d':Bool):l.getD i d=l.getD i d':=by simp[h]
theorem jH{P:Program}{md:Region.Mode}{ops:Array Oper}{Q:Exit->Act->World->Prop}: ∀(g k:Nat) (listed:Array Bool) (a:Act) (w:World),wpAny P md ops Q g listed a w->wpAny P md ops Q (g+k) listed a w
 | 0,0,_,_,_,h=>h
 | 0,k+1,listed,a,w,h=>by
  rw[Nat.zero_add]
  exact⟨fun _=>h.2,fun i hi=>by rw[h.1]at hi;cases hi⟩
 | g+1,k,listed,a,w,h=>by
  rw[show g+1+k=(g+k)+1 by omega]
  exact⟨h.1,fun i hi=>wpOp_mono (fun a' w' h'=>jH g k _ a' w' h') (h.2 i hi)⟩
section
variable {P:Program} {md:Region.Mode} {ops hd:Array Oper} {C:World->Prop} {n:Nat}
theorem fL(hhd: ∀i,i<n->hd[i]? =ops[i]?)(hb:backB md ops n=true){listed lh:Array Bool}(hl:lh.size=n)(hls:n<=listed.size)(he: ∀i,i<n->lh.getD i true=listed.getD i true){i:Nat}(hi:i<n):
  i ∈ Region.ready md hd lh ↔ i ∈ Region.ready md ops listed:=by
 rw[mem_ready,mem_ready,he i hi,hhd i hi]
 refine and_congr Iff.rfl (exists_congr fun o=>and_congr_right fun ho=>forall_congr' fun e=>forall_congr' fun hm=>forall_congr' fun hbd=> ?_)
 have lt:=(iZ hb hi ho).1 e hm hbd
 rw[mR (d:=false) (d':=true) (by omega),mR (l:=listed) (d:=false) (d':=true) (by omega),he _ (by omega)]
theorem eF(hsz:n<=ops.size)(hb:backB md ops n=true){listed:Array Bool}(hls:n<=listed.size):
  (∀i,i<n->listed.getD i true=true)\/ ∃i,i<n/\i ∈ Region.ready md ops listed:=by
 have key: ∀k,k<=n->(∀i,i<k->listed.getD i true=true)\/ ∃i,i<n/\i ∈ Region.ready md ops listed:=by
  intro k
  induction k with
  | zero=>exact fun _=>.inl (fun i hi=>by omega)
  | succ k ih=>
   intro hk
   rcases ih (by omega)with h | h
   ·cases c:listed.getD k true
    ·right
     refine⟨k,by omega,mem_ready.2 ⟨c,ops[k]'(by omega),by simp,fun e he hbd=> ?_⟩⟩
     have lt:=(iZ hb (i:=k) (o:=ops[k]'(by omega)) (by omega) (by simp)).1 e he hbd
     rw[mR (d:=false) (d':=true) (by omega)]
     exact h _ lt
    ·left
     intro i hi
     by_cases e:i=k
     ·rw[e];exact c
     ·exact h i (by omega)
   ·exact .inr h
 exact key n (Nat.le_refl _)
theorem qOp_head(hhd: ∀i,i<n->hd[i]? =ops[i]?)(hb:backB md ops n=true){i:Nat}(hi:i<n){K:Act->Prop}{a:Act}(h:qOp P hd C i K a):qOp P ops C i K a:=by
 unfold qOp at*
 rw[hhd i hi]at h
 cases ho:ops[i]? with
 | none=>rw[ho]at h;exact h
 | some o=>
  rw[ho]at h
  have e:Region.wanted o (yielded hd a.tmps)=Region.wanted o (yielded ops a.tmps):=by
   unfold Region.wanted
   cases hg:o.guard with
   | none=>rfl
   | some jb=>
    obtain⟨j,b⟩:=jb
    have lt:=(iZ hb hi ho).2 j b hg
    show(yielded hd a.tmps j==some b)=(yielded ops a.tmps j==some b)
    unfold yielded
    rw[hhd j lt]
  simp only[e]at h
  exact h
theorem nZ{listed:Array Bool}(hn:n<ops.size)(inv:HeadInv md ops n listed)(h: ∀i,i<n->listed.getD i true=true):listed=finA ops.size n:=by
 have s:=inv.size
 unfold finA
 refine Array.ext (by simp;omega) fun i h1 h2=> ?_
 by_cases c:i<n
 ·have:=h i c
  rw[Array.getElem_append_left (by simpa using c)]
  simp[h1]at this
  simpa using this
 ·have:=inv.tail i (by omega) (by omega)
  rw[Array.getElem_append_right (by simp;omega)]
  simp[h1]at this
  simpa using this
theorem rQ{g:Nat}{Q1:Act->Prop}{Q':Exit->Act->World->Prop}(hhd: ∀i,i<n->hd[i]? =ops[i]?)(hsz:hd.size=n)(hn:n<ops.size)(hb:backB md ops n=true)(hs:Region.sinkB md ops n=true)(hc:Region.chainB md ops n=true)
  (hL: ∀a w,C w->Q1 a->wpAny P md ops Q' g (finA ops.size n) a w):
  ∀(fuel:Nat) (listed lh:Array Bool) (a:Act) (w:World),C w->HeadInv md ops n listed->lh.size=n->(∀i,i<n->lh.getD i true=listed.getD i true)->
   wpAnyQ P md hd C Q1 fuel lh a->wpAny P md ops Q' (fuel+g) listed a w:=by
 intro fuel
 induction fuel with
 | zero=>
  intro listed lh a w hC inv hl he h
  have hls:n<=listed.size:=by rw[inv.size];omega
  rcases eF (by omega) hb hls with all | ⟨i,hi,hr⟩
  ·rw[Nat.zero_add,nZ hn inv all]
   exact hL a w hC h.2
  ·have:=(fL hhd hb hl hls he hi).2 hr
   rw[h.1]at this
   cases this
 | succ fuel ih=>
  intro listed lh a w hC inv hl he h
  have hls:n<=listed.size:=by rw[inv.size];omega
  rcases eF (by omega) hb hls with all | ⟨i0,hi0,hr0⟩
  ·have no:Region.ready md hd lh=[]:=by
    rw[List.eq_nil_iff_forall_not_mem]
    intro i hi
    obtain⟨u,o,ho,_⟩:=mem_ready.1 hi
    have lt:i<n:=by rw[<- hsz];exact(Array.getElem?_eq_some_iff.1 ho).1
    rw[he i lt,all i lt]at u
    cases u
   rw[Nat.add_comm (fuel+1) g,nZ hn inv all]
   exact jH g (fuel+1) _ a w (hL a w hC (h.1 no))
  ·rw[show fuel+1+g=(fuel+g)+1 by omega]
   refine⟨fun h0=>(by rw[h0]at hr0;cases hr0),fun i hi=> ?_⟩
   have lt:i<n:=by
    by_cases c:i<n
    ·exact c
    ·exact absurd hi (tail_waits hs hc hn inv _ i0 rfl hi0 (mem_ready.1 hr0).1 i (by omega))
   have hq:=qOp_head hhd hb lt (h.2 i ((fL hhd hb hl hls he lt).2 hi))
   refine wpOp_of_qOp hC (fun a' w' hC' h'=>ih _ _ a' w' hC' (inv.set hi lt) (by simp[hl]) (fun j hj=> ?_) h') hq
   by_cases e:i=j
   ·subst e
    simp[hl,lt,show i<listed.size by omega]
   ·rw[getD_set_ne true e,getD_set_ne true e,he j hj]
end
def tailB(ops:Array Oper)(n:Nat):Bool:=
 decide (n<ops.size)&&backB .any ops n&&Region.sinkB .any ops n&&Region.chainB .any ops n&&Region.seqB .any ops (ops.size - n) n (finA ops.size n)
theorem cH{P:Program}{id:Nat}{Q:Exit->Act->World->Prop}{a:Act}{w:World}{l:List Oper}{U:Type}(n:Nat)(F:U->World)(hm:P.follows .mixedOrders=true)(hB:Region.lexB .any (l.take n).toArray=true)(hT:tailB l.toArray n=true)
  (hC: ∃u,w.drew=F u)
  (h:wpQuiet P (l.take n).toArray (fun w'=> ∃u,w'=F u) (fun a'=> ∀w',(∃u,w'=F u)->wpList P l.toArray Q (l.drop n) a' w') (l.take n) a):(Code.region id l.toArray true).wp P Q a w:=by
 simp only[tailB,Bool.and_eq_true,decide_eq_true_eq]at hT
 obtain⟨⟨⟨⟨hn,hb⟩,hs⟩,hc⟩,hq⟩:=hT
 have hn':n<l.length:=by simpa using hn
 have htl:(l.take n).toArray.size=n:=by simp;omega
 have hdl:(l.drop n).length=l.toArray.size - n:=by simp
 refine wp_region_any hm ?_
 simp only[Region.lexB,Bool.and_eq_true]at hB
 have H:=wpAnyQ_lex (P:=P) (C:=fun w'=> ∃u,w'=F u) (md:=.any) hB.1 (l.take n) 0 (Array.replicate (l.take n).toArray.size false) a (by simp) (by simpa using hB.2) h
 have inv0:HeadInv .any l.toArray n (Array.replicate l.toArray.size false):=
  ⟨by simp,fun j oj _ hl=>(by rw[getD_replicate_false]at hl;cases hl),fun t _ ht=>getD_in (by simpa using ht) (getD_replicate_false _ _)⟩
 have:=rQ (P:=P) (Q':=Q) (g:=l.toArray.size - n) (hd:=(l.take n).toArray) (ops:=l.toArray) (fun i hi=>by simp[hi]) htl hn hb hs hc
  (fun a' w' hC' h'=>by
   have:=wpAny_of_seq (P:=P) (md:=.any) (ops:=l.toArray) (Q':=Q) (l.drop n) n (finA l.toArray.size n) a' w' (fun j=>by simp) (by rw[hdl];exact hq) (h' w' hC')
   rwa [hdl]at this)
  (l.take n).length _ _ a w.drew hC inv0 (by simpa using htl) (fun i hi=>by
   rw[getD_in (listed:=Array.replicate l.toArray.size false) (by simp;omega) (getD_replicate_false _ _)]
   exact getD_in (by rw[Array.size_replicate];omega) (getD_replicate_false _ _)) H
 have e:(l.take n).length+(l.toArray.size - n)=l.toArray.size:=by simp;omega
 rw[e]at this
 exact this
end
section
open Go.RowKit
def Fresh(W:World)(S:Nat->Option Nat)(b:Nat):Prop:=W.heap.size<=b/\ ∀i c,S i=some c->c≠b
def putL(S:Nat->Option Nat)(i b:Nat):Nat->Option Nat:=fun k=>if k=i then some b else S k
def Has(W:World)(sp:Nat->Option (Obj × (Nat->Value)))(S:Nat->Option Nat)(w:World):Prop:=Ab W w/\ ∀i b,S i=some b->W.heap.size<=b/\ ∃o mk,sp i=some (o,mk)/\w.heap[b]? =some o
section
variable {P:Program} {ops:Array Oper} {md:Region.Mode} {W:World} {sp:Nat->Option (Obj × (Nat->Value))}
def YF(P:Program)(ops:Array Oper)(W:World)(o:Oper)(v:Value)(a:Act):Prop:=
 (Region.wanted o (yielded ops a.tmps)=true/\ ∀w,Ab W w->(execOp a.eval o).run P w=.ok (.value v) w)\/(Region.wanted o (yielded ops a.tmps)=false/\v=undef)
def LF(P:Program)(ops:Array Oper)(W:World)(o:Oper)(ob:Obj)(mk:Nat->Value)(a:Act):Prop:=
 Region.wanted o (yielded ops a.tmps)=true/\ ∀w,Ab W w->(execOp a.eval o).run P w=.ok (.value (mk w.heap.size)) (w.alloc ob)
def fOp(P:Program)(ops:Array Oper)(W:World)(sp:Nat->Option (Obj × (Nat->Value)))(i:Nat)(K:Act->(Nat->Option Nat)->Prop)(a:Act)(S:Nat->Option Nat):Prop:=
 match ops[i]? with
 | none=>K a S
 | some o=>
  match sp i with
  | none=> ∃v,YF P ops W o v a/\K (a.put o.dst v) S
  | some (ob,mk)=>LF P ops W o ob mk a/\ ∀b,Fresh W S b->K (a.put o.dst (mk b)) (putL S i b)
def wpAnyF(P:Program)(md:Region.Mode)(ops:Array Oper)(W:World)(sp:Nat->Option (Obj × (Nat->Value)))(Q:Act->(Nat->Option Nat)->Prop):Nat->Array Bool->Act->(Nat->Option Nat)->Prop
 | 0,listed,a,S=>Region.ready md ops listed=[]/\Q a S
 | fuel+1,listed,a,S=>
  (Region.ready md ops listed=[]->Q a S)/\
  ∀i ∈ Region.ready md ops listed,fOp P ops W sp i (wpAnyF P md ops W sp Q fuel (listed.setIfInBounds i true)) a S
def Tidy(W:World)(listed:Array Bool)(S:Nat->Option Nat):Prop:=(∀k,listed.getD k true=false->S k=none)/\ ∃n,W.heap.size<=n/\ ∀i c,S i=some c->c<n
def wpFree(P:Program)(ops:Array Oper)(W:World)(sp:Nat->Option (Obj × (Nat->Value)))(Q:Act->(Nat->Option Nat)->Prop):List Oper->Nat->Act->(Nat->Option Nat)->Prop
 | [],_,a,S=>Q a S
 | o :: rest,k,a,S=>
  match sp k with
  | none=> ∃v,YF P ops W o v a/\wpFree P ops W sp Q rest (k+1) (a.put o.dst v) S
  | some (ob,mk)=>LF P ops W o ob mk a/\ ∀b,Fresh W S b->wpFree P ops W sp Q rest (k+1) (a.put o.dst (mk b)) (putL S k b)
end
end
section
open Go.RowKit
def plainB:Op->Bool
 | .move _ | .assign _ | .pick _ _ _ | .build _ _ | .load _ _ | .binOp _ _ _ _ _ | .unOp _ _ _ | .convert _ _ _ | .slice _ _ _ _ _ | .fieldAddr _ _ _ | .field _ _ _ | .indexAddr _ _ _ | .index _ _ _ | .extract _ _=>true
 | _=>false
theorem val_only{P:Program}{s:Sem Value}{w w':World}{n:Next}(e:(do pure (Next.value (<- s)):Sem Next).run P w=.ok n w'): ∃x,n=.value x:=by
 rw[Sem.run_bind]at e
 cases h:s.run P w with
 | ok x w1=>
  rw[h]at e
  simp at e
  exact⟨x,e.1.symm⟩
 | halt x w1=>rw[h]at e;simp at e
theorem EI{P:Program}{α:Type}{s:Sem α}{f:α->Value}{w w':World}{n:Next}(e:((s.run P w).andThen fun x w=>Result.ok (Next.value (f x)) w)=.ok n w'): ∃x,n=.value x:=by
 cases h:s.run P w with
 | ok x w1=>
  rw[h]at e
  simp at e
  exact⟨f x,e.1.symm⟩
 | halt x w1=>rw[h]at e;simp at e
theorem pC{P:Program}{ρ:Operand->Value}{o:Oper}{w w':World}{n:Next}(h:plainB o.op=true)(e:(execOp ρ o).run P w=.ok n w'): ∃x,n=.value x:=by
 unfold execOp at e
 cases ho:o.op<;>rw[ho]at h e<;>first | (simp[plainB]at h;done) | exact val_only e | (simp at e;first | exact⟨_,e.1.symm⟩ | exact EI (f:=fun b=>if b=true then ρ _ else ρ _) e)
section
variable {P:Program} {ops:Array Oper} {W:World} {sp:Nat->Option (Obj × (Nat->Value))} {Q:Act->(Nat->Option Nat)->Prop} {o:Oper} {rest:List Oper} {k:Nat} {a:Act} {S:Nat->Option Nat}
theorem run_val{s:Sem Value}{w w':World}{x:Value}(h:s.run P w=.ok x w'):(do pure (Next.value (<- s)):Sem Next).run P w=.ok (.value x) w':=by
 rw[Sem.run_bind,h]
 rfl
theorem mS{t:TypeId}{x y:Operand}{vx vy:Value}{mk:Nat->Value}{ob:Obj}(ho:o.op=.makeSlice t x y)(hx:a.eval x=vx)(hy:a.eval y=vy)(M: ∀w:World,(Instr.makeSlice t vx vy).run P w=.ok (mk w.heap.size) (w.alloc ob)):
  ∀w,Ab W w->(execOp a.eval o).run P w=.ok (.value (mk w.heap.size)) (w.alloc ob):=by
 intro w _
 unfold execOp
 rw[ho]
 simp only[hx,hy]
 exact run_val (M w)
theorem EJ{t:TypeId}{mk:Nat->Value}{ob:Obj}(ho:o.op=.alloc t)(M: ∀w:World,(Instr.alloc t true (.tuple #[])).run P w=.ok (mk w.heap.size) (w.alloc ob)):
  ∀w,Ab W w->(execOp a.eval o).run P w=.ok (.value (mk w.heap.size)) (w.alloc ob):=by
 intro w _
 unfold execOp
 rw[ho]
 exact run_val (M w)
end
end
section
open Go.RowKit Tf Cu Go.Deep
attribute [local go_sem] aJ aK aN aO aP aQ aV aD
def LkR(w:World)(gd g4 b1 b2 b3 b4:Nat)(f:Nat->Int)(v:World):Prop:=
 Ab w v/\v.heap[g4]? =some (.cells #[.slice (some ⟨b1,0,none⟩) 6 6,.slice (some ⟨b2,0,none⟩) 6 6,.slice (some ⟨b3,0,none⟩) 6 6,.slice (some ⟨b4,0,none⟩) 12 12,.int .i64 0,.int .i64 0] 48)/\v.heap[gd]? =some (.cells #[.slice none 0 0,.slice none 0 0,.slice none 0 0,.slice none 0 0,.int .i64 0,.int .i64 0] 48)/\v.rowIs b1 35 6 (fun _=>.float .f64 0)/\v.rowIs b2 2 6 (fun i=>.int .i64 (f i))/\v.rowIs b3 2 6 (fun _=>.int .i64 0)/\v.rowIs b4 35 12 (fun _=>.float .f64 0)
end
section
open Go.RowKit Go.Deep
theorem rowIs.fl{w:World}{b n:Nat}{f:Nat->Nat}(h:w.rowIs b 35 n (fun i=>.float .f64 (f i)))(hf: ∀i,i<n->f i<18446744073709551616):IsFl w (some ⟨b,0,none⟩) n f:=fun k hk=>⟨hf k hk,b,0,rfl,h.lt,by rw[Nat.zero_add];exact h.cell hk⟩
end
section
open Tf Ieee
namespace Fc
theorem kA{y l:Nat}(hl:isN l=true):dvB y l=quiet:=by
 refine gS ?_
 rw[bJ]at hl
 have ei:=bW
 show((double.read y).quotient 54 (double.read l)).map double.write=none
 rw[dY double l gG (by rw[cW];omega)]
 cases double.read y<;>rfl
theorem jJ{x:Nat}(hx:x<18446744073709551616)(h:mg x=0):x=0\/x=9223372036854775808:=by
 unfold mg at h
 omega
theorem dv0{b:Nat}(hb:b<18446744073709551616):dvB 0 b=0\/dvB 0 b=quiet:=by
 by_cases n:isN b=true
 ·exact .inr (kA n)
 ·have n2: ¬9218868437227405312<mg b:=by rw[bJ]at n;exact n
  by_cases z:mg b=0
  ·rcases jJ hb z with rfl | rfl
   ·exact .inr (by decide+kernel)
   ·exact .inr (by decide+kernel)
  ·by_cases i:mg b=9218868437227405312
   ·have:b=9218868437227405312\/b=18442240474082181120:=by unfold mg at i;omega
    rcases this with rfl | rfl
    ·exact .inl (by decide+kernel)
    ·exact .inl (by decide+kernel)
   ·exact .inl (rD b z (by omega) 0 (by decide))
theorem rR{a b:Nat}(ha:a<18446744073709551616)(hb:b<18446744073709551616):dvB (canonB a) b=dvB a b:=by
 rcases bH ha with⟨h,e⟩ | ⟨h,e⟩ | ⟨h,k,e⟩
 ·rw[e,pU (y:=quiet) (by decide),pU h]
 ·rw[e]
  rcases jJ ha h with rfl | rfl
  ·rfl
  ·have k:=Ap (a:=0) (b:=b) (by omega)
   rw[show negB 0=9223372036854775808 by decide]at k
   rw[k]
   rcases dv0 hb with q | q<;>rw[q]<;>decide
 ·rw[e]
def puB(G dt ll lr gap:Nat):Nat:=dvB (mlB (mlB G dt) (sbB lr ll)) gap
def u1B(G dt u ll lr gap:Nat):Nat:=sbB u (puB G dt ll lr gap)
def hB(dl dr:Nat):Nat:=mlB 4602678819172646912 (addB dl dr)
def drB(D dt u1 h:Nat):Nat:=addB 4607182418800017408 (dvB (mlB (mlB D dt) (mg u1)) h)
def cuB(x:Nat):Nat:=if fgt x 4652218415073722368=true then 4652218415073722368 else if flt x 13875590451928498176=true then 13875590451928498176 else if isN x=true then 0 else canonB x
def spB(G dt D u ll lr dl dr gap:Nat):Nat:=if fgt (hB dl dr) 0=true then cuB (dvB (u1B G dt u ll lr gap) (drB D dt (u1B G dt u ll lr gap) (hB dl dr)))else 0
def opB(wl wr:Int)(ll lr bl br:Nat):Bool:= !((!decide (0<wl)&& !decide (0<wr))||(!decide (0<wl)&&(flt lr bl||feq lr bl))||(!decide (0<wr)&&(flt ll br||feq ll br)))
section
variable {G dt D u ll lr dl dr gap:Nat}
theorem puB_lt(G dt ll lr gap:Nat):puB G dt ll lr gap<18446744073709551616:=vK _ _
theorem hB_lt(h1:dl<18446744073709551616)(h2:dr<18446744073709551616):hB dl dr<18446744073709551616:=dK (by omega) (kQ _ _ h1 h2)
theorem wA(x:Nat):mg x<18446744073709551616:=by unfold mg;omega
theorem qC:rk 4652218415073722368=4652218415073722368/\rk 13875590451928498176= -4652218415073722368/\isN 4652218415073722368=false/\isN 13875590451928498176=false:=by decide
theorem uF{x:Nat}(hx:x<18446744073709551616):(isN x=true/\cuB x=0)\/(isN x=false/\4652218415073722368<rk x/\cuB x=4652218415073722368)\/(isN x=false/\rk x< -4652218415073722368/\cuB x=13875590451928498176)\/(isN x=false/\ -4652218415073722368<=rk x/\rk x<=4652218415073722368/\cuB x=canonB x):=by
 have g:=eT x 4652218415073722368 hx (by omega)
 have l:=lM x 13875590451928498176 hx (by omega)
 rw[qC.1,qC.2.2.1]at g
 rw[qC.2.1,qC.2.2.2]at l
 unfold cuB
 cases n:isN x with
 | true=>
  rw[n]at g l
  simp at g l
  left
  rw[g,l]
  simp
 | false=>
  rw[n]at g l
  simp at g l
  right
  by_cases c1:4652218415073722368<rk x
  ·left
   have:fgt x 4652218415073722368=true:=by rw[g];exact decide_eq_true c1
   rw[this]
   exact⟨rfl,c1,by simp⟩
  ·have e1:fgt x 4652218415073722368=false:=by rw[g];exact decide_eq_false c1
   right
   by_cases c2:rk x< -4652218415073722368
   ·left
    have e2:flt x 13875590451928498176=true:=by rw[l];exact decide_eq_true c2
    rw[e1,e2]
    exact⟨rfl,c2,by simp⟩
   ·right
    have e2:flt x 13875590451928498176=false:=by rw[l];exact decide_eq_false c2
    rw[e1,e2]
    exact⟨rfl,by omega,by omega,by simp⟩
theorem spB_in(G dt D u ll lr dl dr gap:Nat):spB G dt D u ll lr dl dr gap<18446744073709551616/\canonB (spB G dt D u ll lr dl dr gap)=spB G dt D u ll lr dl dr gap/\isN (spB G dt D u ll lr dl dr gap)=false/\ -4652218415073722368<=rk (spB G dt D u ll lr dl dr gap)/\rk (spB G dt D u ll lr dl dr gap)<=4652218415073722368:=by
 unfold spB
 by_cases q:fgt (hB dl dr) 0=true
 ·rw[if_pos q]
  have hx:=vK (u1B G dt u ll lr gap) (drB D dt (u1B G dt u ll lr gap) (hB dl dr))
  have hc:=nN (u1B G dt u ll lr gap) (drB D dt (u1B G dt u ll lr gap) (hB dl dr))
  generalize dvB (u1B G dt u ll lr gap) (drB D dt (u1B G dt u ll lr gap) (hB dl dr))=x at*
  rcases uF hx with⟨_,e⟩ | ⟨_,_,e⟩ | ⟨_,_,e⟩ | ⟨n,h1,h2,e⟩<;>rw[e]
  ·decide
  ·decide
  ·decide
  ·rw[hc]
   exact⟨hx,hc,n,h1,h2⟩
 ·rw[if_neg q]
  decide
end
end Fc
end
section
open Tf Ieee
theorem EK{x:Nat}(hx:x<18446744073709551616): -4503599627370496<=clampB x 4503599627370496/\clampB x 4503599627370496<=4503599627370496:=by
 have m:clampM 4503599627370496=4503599627370496:=by decide
 cases n:isN x
 ·rw[AM x _ hx n,m]
  repeat' split
  all_goals omega
 ·unfold clampB;rw[if_pos n];omega
def qt4(u d l t:Nat):Nat:=mlB (mlB (mlB (mlB u d) l) t) 4742290407621132288
def qnB(u d l t:Nat):Int:=clampB (qt4 u d l t) 4503599627370496
section
variable {u d l t:Nat} (hu:u<18446744073709551616) (hd:d<18446744073709551616) (hl:l<18446744073709551616) (ht:t<18446744073709551616)
theorem qt_lt(hu:u<18446744073709551616)(hd:d<18446744073709551616)(hl:l<18446744073709551616)(ht:t<18446744073709551616):mlB u d<18446744073709551616/\mlB (mlB u d) l<18446744073709551616/\mlB (mlB (mlB u d) l) t<18446744073709551616/\qt4 u d l t<18446744073709551616:=by
 have a:=dK hu hd
 have b:=dK a hl
 have c:=dK b ht
 exact⟨a,b,c,dK c (by decide)⟩
theorem qn_in(hu:u<18446744073709551616)(hd:d<18446744073709551616)(hl:l<18446744073709551616)(ht:t<18446744073709551616): -4503599627370496<=qnB u d l t/\qnB u d l t<=4503599627370496:=EK (qt_lt hu hd hl ht).2.2.2
end
end
section
open Go.RowKit Tf Cu Go.Deep
def OwnG(B:Nat)(v:Value)(l:List Nat)(w:World):Prop:=w.ownsRow B 35 1 v l.length (l.map (Value.float .f64))
theorem OwnG.fl{B:Nat}{v:Value}{l:List Nat}{w:World}(h:OwnG B v l w)(hl: ∀x ∈ l,x<18446744073709551616): ∃a0 cap,v=.slice a0 l.length cap/\IsFl w a0 l.length (fun j=>l.getD j 0):=by
 rcases h.2 with⟨rfl,h0⟩ | ⟨g,cap,cur,rfl,hb,hg,h1,h2,h3,h4⟩
 ·exact⟨none,0,by rw[h0],fun k hk=>by omega⟩
 ·refine⟨some ⟨g,0,none⟩,cap,rfl,fun k hk=> ?_⟩
  have hx:l.getD k 0=l[k]:=by simp[List.getD,hk]
  refine⟨by dsimp only;rw[hx];exact hl _ (List.getElem_mem _),g,0,rfl,lt_of_block hg,?_⟩
  have e:=h.cells (g:=g) rfl k (.float .f64 (l.getD k 0)) (by simp[hk])
  rw[nY]at e
  exact e
theorem OwnG.new(w:World)(B:Nat)(hB:B<=w.heap.size):OwnG B (.slice (some ⟨w.heap.size,0,none⟩) 0 0) [] (w.alloc (.cells #[] 35)):=
 ⟨by simp,.inr ⟨w.heap.size,0,#[],rfl,hB,heap_alloc_new _ _,Nat.le_refl _,by unfold maxLen;omega,by simp,by simp⟩⟩
theorem OwnG.to{B:Nat}{v:Value}{l:List Nat}{w w':World}(h:OwnG B v l w)(hb:Ab w w'):OwnG B v l w':=by
 refine⟨h.1,?_⟩
 rcases h.2 with h0 | ⟨g,cap,cur,e,hb',hg,h1,h2,h3,h4⟩
 ·exact .inl h0
 ·exact .inr ⟨g,cap,cur,e,hb',hb.heap hg,h1,h2,h3,h4⟩
theorem info_g: ∃i,Tryz.prog.info? 35=some i/\i.zero=some (.float .f64 0)/\i.size=1/\i.bytes=8:=by
 have h:=pX
 cases e:Tryz.prog.info? 35 with
 | none=>rw[e]at h;cases h
 | some i=>
  rw[e]at h
  simp at h
  exact⟨i,rfl,h.1,h.2.1,h.2.2⟩
end
section
open Go.RowKit Tf Cu Go.Deep
namespace Fc
def eL(n i:Nat):Nat:=edT n i/4
def eR(n i:Nat):Nat:=mt n (edT n i)/4
def gpE(n i:Nat):Nat:=GpC n (edT n i/4) (edT n i%4)
def lvC(n:Nat)(B:Nat->Nat)(W:Nat->Int)(c:Nat):Nat:=lvl (B c) (W c) (arC n c)
def dpC(n:Nat)(W:Nat->Int)(c:Nat):Nat:=dpB (W c) (arC n c)
def opE(n:Nat)(B:Nat->Nat)(W:Nat->Int)(i:Nat):Bool:=opB (W (eL n i)) (W (eR n i)) (lvC n B W (eL n i)) (lvC n B W (eR n i)) (B (eL n i)) (B (eR n i))
def spE(n G dt D:Nat)(B:Nat->Nat)(W:Nat->Int)(Sp:Nat->Nat)(i:Nat):Nat:=if opE n B W i=true then spB G dt D (Sp i) (lvC n B W (eL n i)) (lvC n B W (eR n i)) (dpC n W (eL n i)) (dpC n W (eR n i)) (gpE n i)else 0
def fit4(n lb lw lt ls:Nat):Prop:=lb=6*n*n/\lw=6*n*n/\lt=6*n*n/\ls=12*n*n
def has4(n lb lw lt ls:Nat)(e:Int):Prop:=fit4 n lb lw lt ls/\inR e (12*n*n:Nat)=true
def SpeedC:Prop:= ∀(n gb:Nat) (sd:Int) (dt gr dr:Nat) (lim:Int) (rv:Bool) (pr:Option Addr) (lr cr:Nat) (pb:Option Addr) (lb cb:Nat) (B:Nat->Nat) (pw:Option Addr) (lw cw:Nat) (Wt:Nat->Int) (pt:Option Addr) (lt ct:Nat) (ps:Option Addr) (ls cs:Nat) (Sp:Nat->Nat) (sky st e:Int) (w:World),(1<=n/\n<=32)->GridOf n gb w->IsFl w pb lb B->IsIn w pw lw Wt->IsFl w ps ls Sp->(dt<18446744073709551616/\gr<18446744073709551616/\dr<18446744073709551616)->(-9223372036854775808<=e/\e<=9223372036854775807)->
 (has4 n lb lw lt ls e->Calls prog 111 #[.pointer (some ⟨gb,0,none⟩),.agg #[.int .i64 sd,.float .f64 dt,.float .f64 gr,.float .f64 dr,.int .i64 lim,.bool rv,.slice pr lr cr],.agg #[.slice pb lb cb,.slice pw lw cw,.slice pt lt ct,.slice ps ls cs,.int .i64 sky,.int .i64 st],.int .i64 e] w fun x w'=>x=.returned (.float .f64 (spE n gr dt dr B Wt Sp e.toNat))/\Below w.heap.size w w')/\
 (¬has4 n lb lw lt ls e->Calls prog 111 #[.pointer (some ⟨gb,0,none⟩),.agg #[.int .i64 sd,.float .f64 dt,.float .f64 gr,.float .f64 dr,.int .i64 lim,.bool rv,.slice pr lr cr],.agg #[.slice pb lb cb,.slice pw lw cw,.slice pt lt ct,.slice ps ls cs,.int .i64 sky,.int .i64 st],.int .i64 e] w fun x w'=>x=.returned (.float .f64 0)/\Below w.heap.size w w')
def SpeedsC:Prop:= ∀(n gb:Nat) (sd:Int) (dt gr dr:Nat) (lim:Int) (rv:Bool) (pr:Option Addr) (lr cr:Nat) (pb:Option Addr) (lb cb:Nat) (B:Nat->Nat) (pw:Option Addr) (lw cw:Nat) (Wt:Nat->Int) (pt:Option Addr) (lt ct:Nat) (ps:Option Addr) (ls cs:Nat) (Sp:Nat->Nat) (sky st:Int) (w:World),(1<=n/\n<=32)->GridOf n gb w->IsFl w pb lb B->IsIn w pw lw Wt->IsFl w ps ls Sp->(dt<18446744073709551616/\gr<18446744073709551616/\dr<18446744073709551616)->
 (fit4 n lb lw lt ls->Calls prog 73 #[.pointer (some ⟨gb,0,none⟩),.agg #[.int .i64 sd,.float .f64 dt,.float .f64 gr,.float .f64 dr,.int .i64 lim,.bool rv,.slice pr lr cr],.agg #[.slice pb lb cb,.slice pw lw cw,.slice pt lt ct,.slice ps ls cs,.int .i64 sky,.int .i64 st]] w fun e w'=> ∃v,e=.returned (.tuple #[v,.int .i64 0])/\Below w.heap.size w w'/\OwnG w.heap.size v ((List.range (12*n*n)).map (spE n gr dt dr B Wt Sp)) w')/\
 (¬fit4 n lb lw lt ls->Calls prog 73 #[.pointer (some ⟨gb,0,none⟩),.agg #[.int .i64 sd,.float .f64 dt,.float .f64 gr,.float .f64 dr,.int .i64 lim,.bool rv,.slice pr lr cr],.agg #[.slice pb lb cb,.slice pw lw cw,.slice pt lt ct,.slice ps ls cs,.int .i64 sky,.int .i64 st]] w fun e w'=>e=.returned (.tuple #[.slice none 0 0,.int .i64 1])/\Below w.heap.size w w')
theorem oB(n G dt D:Nat)(B:Nat->Nat)(W:Nat->Int)(Sp:Nat->Nat)(i:Nat):spE n G dt D B W Sp i<18446744073709551616/\canonB (spE n G dt D B W Sp i)=spE n G dt D B W Sp i/\isN (spE n G dt D B W Sp i)=false/\ -4652218415073722368<=rk (spE n G dt D B W Sp i)/\rk (spE n G dt D B W Sp i)<=4652218415073722368:=by
 unfold spE
 split
 ·exact spB_in _ _ _ _ _ _ _ _ _
 ·exact⟨by decide,by decide,by decide,by decide,by decide⟩
end Fc
end
section
open Go.RowKit Tf Cu Go.Deep
attribute [local go_sem] aJ aK aN aO aP aQ aV aD
def lnE(n i:Nat):Nat:=LnC n (edT n i/4) (edT n i%4)
def flB(n:Nat)(lim:Int)(B:Nat->Nat)(W:Nat->Int)(Sp:Nat->Nat)(dt i:Nat):Int:=qnB (Sp i) (rdAll n lim (6*n*n) (6*n*n) B W (i:Nat) (Sp i)) (lnE n i) dt
def QuantaC:Prop:= ∀(u d l t:Nat) (w:World),u<18446744073709551616->d<18446744073709551616->l<18446744073709551616->t<18446744073709551616->
 Calls prog 114 #[.float .f64 u,.float .f64 d,.float .f64 l,.float .f64 t] w fun e w'=>e=.returned (.int .i64 (qnB u d l t))/\Below w.heap.size w w'
def AllC:Prop:= ∀(n gb:Nat) (sd:Int) (dt gr dr:Nat) (lim:Int) (rv:Bool) (pr:Option Addr) (lr cr:Nat) (pb:Option Addr) (lb cb:Nat) (B:Nat->Nat) (pw:Option Addr) (lw cw:Nat) (Wt:Nat->Int) (pt:Option Addr) (lt ct:Nat) (ps:Option Addr) (ls cs:Nat) (Sp:Nat->Nat) (sky st:Int) (w:World),(1<=n/\n<=32)->GridOf n gb w->IsFl w pb lb B->IsIn w pw lw Wt->IsFl w ps ls Sp->dt<18446744073709551616->
 ((lb=6*n*n/\lw=6*n*n/\lt=6*n*n/\ls=12*n*n)->Calls prog 74 #[.pointer (some ⟨gb,0,none⟩),.agg #[.int .i64 sd,.float .f64 dt,.float .f64 gr,.float .f64 dr,.int .i64 lim,.bool rv,.slice pr lr cr],.agg #[.slice pb lb cb,.slice pw lw cw,.slice pt lt ct,.slice ps ls cs,.int .i64 sky,.int .i64 st]] w fun e w'=> ∃b,e=.returned (.tuple #[.slice (some ⟨b,0,none⟩) (12*n*n) (12*n*n),.int .i64 0])/\Below w.heap.size w w'/\w'.rowIs b 2 (12*n*n) (fun i=>.int .i64 (flB n lim B Wt Sp dt i))/\w.heap.size<=b)/\
 (¬(lb=6*n*n/\lw=6*n*n/\lt=6*n*n/\ls=12*n*n)->Calls prog 74 #[.pointer (some ⟨gb,0,none⟩),.agg #[.int .i64 sd,.float .f64 dt,.float .f64 gr,.float .f64 dr,.int .i64 lim,.bool rv,.slice pr lr cr],.agg #[.slice pb lb cb,.slice pw lw cw,.slice pt lt ct,.slice ps ls cs,.int .i64 sky,.int .i64 st]] w fun e w'=>e=.returned (.tuple #[.slice none 0 0,.int .i64 1])/\Below w.heap.size w w')
theorem rS{n:Nat}{k:Int}{lb lw:Nat}{B:Nat->Nat}{W:Nat->Int}(hn:1<=n)(hB: ∀i,i<lb->B i<18446744073709551616)(hW: ∀i,i<lw->W i<=9223372036854775807)(e:Int)(u:Nat):rdAll n k lb lw B W e u<18446744073709551616/\ng (rdAll n k lb lw B W e u)=false:=by
 have z:(0:Nat)<18446744073709551616/\ng 0=false:=by decide
 unfold rdAll
 split
 ·rename_i c
  obtain⟨c1,rfl,rfl⟩:=c
  obtain⟨E,rfl,hE⟩:=qA c1
  rw[Int.toNat_natCast]
  obtain⟨t1,t2,t3⟩:=bM hn hE
  generalize edT n E=t at*
  have key: ∀t,t<24*n*n->sdD n k (arC n) B W t<18446744073709551616/\ng (sdD n k (arC n) B W t)=false:=fun t ht=>by
   have cU:=aW ht
   have cD:=aW (cX hn ht)
   have wU:=hW _ cU
   have bU:=hB _ cU
   have bD:=hB _ cD
   unfold sdD ovC rcR
   have ml:=vX (rcV_lt (k:=k) (hb:=dpB (W (bkC n t)) (arC n (bkC n t))) (hd:=dpB (W (mt n t/4)) (arC n (mt n t/4))) (show dpB (W (t/4)) (arC n (t/4))<9218868437227405312 by have:=pA wU (cO n (t/4)).2;omega)) (show rcG (lvl (B (t/4)) (W (t/4)) (arC n (t/4))) (B (t/4)) (B (mt n t/4))<18446744073709551616 by
    unfold rcG sbB
    exact kQ _ _ (vU bU wU (cO n _).2) (bC (Du bU bD)))
   refine⟨pos0_lt ml,?_⟩
   unfold pos0
   split
   ·rename_i q
    rw[cM ml]at q
    exact bK (by have:=(bV.1 q).2;omega)
   ·decide
  unfold rdT
  split
  ·exact key _ t1
  ·split
   ·exact key _ (cX hn t1)
   ·exact z
 ·exact z
theorem rt_lt64(x:Nat):rtB x<18446744073709551616:=by
 cases h:Ieee.double.sqrt x with
 | none=>rw[jU h];decide
 | some r=>rw[iP h];exact eB (sqrt_lt h)
theorem yL(n i:Nat):lnE n i<18446744073709551616:=by unfold lnE LnC gp lnB;exact rt_lt64 _
end
section
open Cu
namespace Sh
def og(n:Nat)(F:Nat->Int)(t:Nat):Int:=if 0<F (eE n t)*eS n t then F (eE n t)*eS n t else 0
def oS(n:Nat)(F:Nat->Int)(c:Nat):Int:=sumN (fun s=>og n F (4*c+s)) 4
def ct(n:Nat)(W F:Nat->Int)(t:Nat):Int:=lR (W (t/4)) (oS n F (t/4)) (og n F t)
def allF(n:Nat)(W F:Nat->Int)(e:Nat):Int:=ct n W F (edT n e) - ct n W F (mt n (edT n e))
theorem rT{n t:Nat}(hn:1<=n)(h:t<24*n*n):eE n (mt n t)=eE n t:=by
 unfold eE
 rw[hQ hn h,gX hn h]
 cases isL n t<;>simp
theorem yM{n t:Nat}(hn:1<=n)(h:t<24*n*n):eS n (mt n t)= -eS n t:=by
 unfold eS
 rw[hQ hn h]
 cases isL n t<;>simp
theorem yN(n:Nat)(F:Nat->Int)(t:Nat):0<=og n F t:=by unfold og;split<;>omega
theorem oC{n:Nat}{F:Nat->Int}{t:Nat}(hn:1<=n)(h:t<24*n*n):og n F t=0\/og n F (mt n t)=0:=by
 unfold og
 rw[rT hn h,yM hn h,Int.mul_neg]
 by_cases c:0<F (eE n t)*eS n t
 ·right;rw[if_neg (by omega)]
 ·left;rw[if_neg c]
theorem mT{n:Nat}{F:Nat->Int}{t:Nat}{m:Int}(hm:0<=m)(h: -m<=F (eE n t)/\F (eE n t)<=m):og n F t<=m:=by
 unfold og eS
 generalize F (eE n t)=x at*
 cases isL n t
 ·simp only[Bool.false_eq_true,if_false]
  split<;>omega
 ·simp only[if_true]
  split<;>omega
theorem oS_le{n:Nat}{F:Nat->Int}{c:Nat}{m:Int}(hm:0<=m)(h: ∀s,s<4-> -m<=F (eE n (4*c+s))/\F (eE n (4*c+s))<=m):oS n F c<=4*m:=by
 have h0:=mT (n:=n) hm (h 0 (by omega))
 have h1:=mT (n:=n) hm (h 1 (by omega))
 have h2:=mT (n:=n) hm (h 2 (by omega))
 have h3:=mT (n:=n) hm (h 3 (by omega))
 show 0+og n F (4*c+0)+og n F (4*c+1)+og n F (4*c+2)+og n F (4*c+3)<=4*m
 omega
theorem rU{n:Nat}{W F:Nat->Int}{t:Nat}(hW:0<=W (t/4))(h:og n F t<=9223372036854775807):0<=ct n W F t/\ct n W F t<=og n F t:=Dk hW (yN n F t) h
theorem mU{n:Nat}{W F:Nat->Int}{t:Nat}(hW:0<=W (t/4))(h:og n F t=0):ct n W F t=0:=by unfold ct;rw[h];exact Ey hW
theorem oD{n t:Nat}(hn:1<=n)(h:t<24*n*n):edT n (eE n t)=if isL n t=true then t else mt n t:=by
 unfold eE
 by_cases c:isL n t=true
 ·rw[if_pos c,if_pos c,lO hn h c]
 ·have c':isL n (mt n t)=true:=by rw[hQ hn h];simpa using c
  rw[if_neg c,if_neg c,lO hn (cX hn h) c']
theorem EL{n:Nat}{W F:Nat->Int}{t:Nat}(hn:1<=n)(h:t<24*n*n):allF n W F (eE n t)*eS n t=ct n W F t - ct n W F (mt n t):=by
 unfold allF
 rw[oD hn h]
 unfold eS
 by_cases c:isL n t=true
 ·rw[if_pos c,if_pos c];omega
 ·rw[if_neg c,if_neg c,gX hn h];omega
theorem Bb{n:Nat}{W F:Nat->Int}{t:Nat}{m:Int}(hn:1<=n)(h:t<24*n*n)(hW: ∀c,c<6*n*n->0<=W c)(hm:0<=m/\m<=9223372036854775807)(hF: ∀e,e<12*n*n-> -m<=F e/\F e<=m):
  (if 0<allF n W F (eE n t)*eS n t then allF n W F (eE n t)*eS n t else 0)=ct n W F t:=by
 have c1:=rU (hW _ (aW h)) (show og n F t<=9223372036854775807 by have:=mT (n:=n) hm.1 (hF _ (fQ hn h));omega)
 have h2:=cX hn h
 have c2:=rU (hW _ (aW h2)) (show og n F (mt n t)<=9223372036854775807 by have:=mT (n:=n) hm.1 (hF _ (fQ hn h2));omega)
 rw[EL hn h]
 rcases oC (F:=F) hn h with o | o
 ·have z:=mU (hW _ (aW h)) o
  rw[if_neg (by omega)]
  omega
 ·have z:=mU (hW _ (aW h2)) o
  by_cases q:0<ct n W F t
  ·rw[if_pos (by omega)];omega
  ·rw[if_neg (by omega)];omega
theorem EN{n:Nat}{W F:Nat->Int}{e:Nat}{m:Int}(hn:1<=n)(he:e<12*n*n)(hW: ∀c,c<6*n*n->0<=W c)(hm:0<=m/\m<=9223372036854775807)(hF: ∀e,e<12*n*n-> -m<=F e/\F e<=m):
  (0<=F e->0<=allF n W F e/\allF n W F e<=F e)/\(F e<=0->F e<=allF n W F e/\allF n W F e<=0):=by
 obtain⟨t1,t2,t3⟩:=bM hn he
 have m1:=cX hn t1
 have eE1:eE n (edT n e)=e:=by unfold eE;rw[if_pos t2,t3]
 have eS1:eS n (edT n e)=1:=by unfold eS;rw[if_pos t2]
 have o1:og n F (edT n e)=if 0<F e then F e else 0:=by unfold og;rw[eE1,eS1,Int.mul_one]
 have o2:og n F (mt n (edT n e))=if 0< -F e then -F e else 0:=by unfold og;rw[rT hn t1,yM hn t1,eE1,eS1,Int.mul_neg,Int.mul_one]
 have hFe:=hF e he
 have c1:=rU (n:=n) (F:=F) (hW _ (aW t1)) (by rw[o1];split<;>omega)
 have c2:=rU (n:=n) (F:=F) (hW _ (aW m1)) (by rw[o2];split<;>omega)
 unfold allF
 rw[o1]at c1
 rw[o2]at c2
 generalize ct n W F (edT n e)=a at*
 generalize ct n W F (mt n (edT n e))=b at*
 constructor
 ·intro h
  rw[if_neg (by omega)]at c2
  split at c1<;>omega
 ·intro h
  rw[if_neg (by omega)]at c1
  split at c2<;>omega
theorem Bc{n:Nat}{W F:Nat->Int}{c:Nat}{m:Int}(hc:c<6*n*n)(hn:1<=n)(hW:0<=W c)(hm:0<=m/\m<=2305843009213693951)(hF: ∀e,e<12*n*n-> -m<=F e/\F e<=m):
  (oS n F c<=W c->sumN (fun s=>ct n W F (4*c+s)) 4=oS n F c)/\(W c<oS n F c->sumN (fun s=>ct n W F (4*c+s)) 4<=W c/\W c - 4<sumN (fun s=>ct n W F (4*c+s)) 4):=by
 have b:=oS_le (n:=n) (F:=F) (c:=c) hm.1 (fun s hs=>hF _ (fQ hn (fE hc hs)))
 have k:=cut_sum (f:=fun s=>og n F (4*c+s)) (W:=W c) (n:=4) hW (fun _ _=>yN _ _ _) (by have:sumN (fun s=>og n F (4*c+s)) 4=oS n F c:=rfl;omega)
 have e:sumN (fun s=>ct n W F (4*c+s)) 4=sumN (fun i=>lR (W c) (sumN (fun s=>og n F (4*c+s)) 4) (og n F (4*c+i))) 4:=by
  refine cG (fun s hs=> ?_)
  unfold ct
  rw[(lY hs).1]
  rfl
 rw[e]
 exact k
end Sh
end
end Go.Proofs.YtmhnilnaffjhmaaGreatDoor
