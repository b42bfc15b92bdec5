/-
  Some of the texts of this proof, one behind the other.
-/
import Derived.ProofKit
import Derived.OpenShut
import Derived.WalkLawsBesides
import Derived.Stop.Joined
import Derived.Carry
import Derived.Lib.SmallJoins
import Derived.Deep.SlicePairs
import Derived.Deep.Slices
import Derived.SizedLaws
import Derived.Test.YtdeammhdedcjlaaKf11
set_option maxRecDepth 100000
set_option maxHeartbeats 400000000
namespace Go.Proofs.Ytdeammhdedcjlaa
open _root_.Go.Proofs.Try
section
open Go.ChangeShapes Go.WideShapes Go.ChangeAt Go.WideMaps Go.WideElems Go.RowKit Go.Deep
namespace Sh
theorem trod_int{H:Type}{enc:TypeId × Value->H}{P:Program}{w:World}{base:Nat}{spare:Nat->Bool}{held:Bool}{t:TypeId}{fuel:Nat}{v:Value}{x:DataW H × List MemPlace}(ht:P.underlying t=some (.int .i64))(h:DataW.trod enc P w base spare held fuel t [v]=some x):
  ∃b,v=.int .i64 b/\(-9223372036854775808<=b/\b<=9223372036854775807):=by
 obtain⟨k,e,_,wf⟩:=DataW.trod_int ht h
 simp at e
 simp only[Lit.wf,Bool.and_eq_true,decide_eq_true_eq]at wf
 have q1:IntKind.i64.min= -9223372036854775808:=by decide
 have q2:IntKind.i64.max=9223372036854775807:=by decide
 rw[q1,q2]at wf
 exact⟨k,e,wf⟩
theorem iO{w:World}{a:Addr}{v:Value}(h:w.cell? a=some v):a.block<w.heap.size:=by
 by_cases c:a.block<w.heap.size
 ·exact c
 ·exfalso
  have:w.heap[a.block]? =none:=by simp;omega
  simp[World.cell?,this]at h
theorem gQ{α:Type}{n:Nat}{R:Nat->α->Prop}(d:α)(h: ∀i,i<n-> ∃x,R i x): ∃f:Nat->α,∀i,i<n->R i (f i):=by
 have: ∀i,∃x,i<n->R i x:=fun i=>by
  by_cases c:i<n
  ·obtain⟨x,h1⟩:=h i c
   exact⟨x,fun _=>h1⟩
  ·exact⟨d,fun h=>absurd h c⟩
 exact⟨fun i=>(this i).choose,fun i hi=>(this i).choose_spec hi⟩
theorem jL{H:Type}{enc:TypeId × Value->H}{W:World}{cs:List Value}{fuel:Nat}{x:DataW H × List MemPlace}
  (hf:DataW.trod enc prog W 0 (fun _=>true) true fuel 38 cs=some x): ∃a0 len cap xs,cs=[.slice a0 len cap]/\IsI W a0 len xs/\len<=cap/\cap<=maxLen:=by
 rcases open_slice1 underlying38 (by kernel_rfl) hf with⟨hcs,_⟩ | ⟨a,l,c,m,n,V,D,Pl,hcs,_,hl,hm,hmm,_,hx⟩
 ·exact⟨none,0,0,fun _=>0,hcs,fun k hk=>by omega,Nat.le_refl _,Nat.zero_le _⟩
 ·simp only[if_true]at hmm
  have each: ∀i,i<l-> ∃x:Int,W.cell? (a.add i)=some (.int .i64 x)/\(-9223372036854775808<=x/\x<=9223372036854775807):=by
   intro i hi
   obtain⟨h1,h2⟩:=hx i (by omega)
   obtain⟨x,e,wx⟩:=trod_int underlying2 h2
   rw[e]at h1
   exact⟨x,h1,wx⟩
  obtain⟨f,hf⟩:=gQ 0 each
  refine⟨some a,l,c,f,hcs,fun k hk=>⟨(hf k hk).2,?_⟩,hl,hm⟩
  have h0:=(hf k hk).1
  have z:=(hf 0 (by omega)).1
  obtain⟨b,off,spot⟩:=a
  have hspot:spot=none:=by simpa [Addr.add]using World.cell?_spot z
  subst hspot
  rw[bL]at h0
  exact⟨b,off,rfl,iO h0,h0⟩
end Sh
end
section
open Go.ChangeShapes Go.WideShapes Go.ChangeAt Go.WideMaps Go.WideElems Go.RowKit Go.Deep
namespace Ti
theorem iP{H:Type}{enc:TypeId × Value->H}{P:Program}{w:World}{base:Nat}{spare:Nat->Bool}{held:Bool}{t:TypeId}{fuel:Nat}{v:Value}{x:DataW H × List MemPlace}(ht:P.underlying t=some (.int .u32))(h:DataW.trod enc P w base spare held fuel t [v]=some x):
  ∃b:Nat,v=.int .u32 (b:Int)/\b<4294967296:=by
 obtain⟨k,e,_,wf⟩:=DataW.trod_int ht h
 simp at e
 simp only[Lit.wf,Bool.and_eq_true,decide_eq_true_eq]at wf
 have q1:IntKind.u32.min=0:=by decide
 have q2:IntKind.u32.max=4294967295:=by decide
 rw[q1,q2]at wf
 exact⟨k.toNat,by rw[Int.toNat_of_nonneg wf.1];exact e,by omega⟩
theorem mS{H:Type}{enc:TypeId × Value->H}{W:World}{cs:List Value}{fuel:Nat}{x:DataW H × List MemPlace}
  (hf:DataW.trod enc prog W 0 (fun _=>true) true fuel 23 cs=some x) (hs: ∀elems spare,x.1=.slice elems spare->(elems.length+spare.length)*4<=reachBytes): ∃a0 len cap xs,cs=[.slice a0 len cap]/\IsW .u32 4294967296 W a0 len xs/\len<=cap/\cap<=35184372088832:=by
 rcases open_slice1 underlying23 (by kernel_rfl) hf with⟨hcs,_⟩ | ⟨a,l,c,m,n,V,D,Pl,hcs,_,hl,hm,hmm,hx0,hx⟩
 ·exact⟨none,0,0,fun _=>0,hcs,fun k hk=>by omega,Nat.le_refl _,Nat.zero_le _⟩
 ·simp only[if_true]at hmm
  have sz:=hs _ _ (by rw[hx0])
  simp only[List.length_map,List.length_range]at sz
  have each: ∀i,i<l-> ∃x:Nat,W.cell? (a.add i)=some (.int .u32 (x:Int))/\x<4294967296:=by
   intro i hi
   obtain⟨h1,h2⟩:=hx i (by omega)
   obtain⟨x,e,wx⟩:=iP underlying22 h2
   rw[e]at h1
   exact⟨x,h1,wx⟩
  obtain⟨f,hf⟩:=Sh.gQ 0 each
  refine⟨some a,l,c,f,hcs,fun k hk=>⟨(hf k hk).2,?_⟩,hl,by unfold reachBytes at sz;omega⟩
  have h0:=(hf k hk).1
  have z:=(hf 0 (by omega)).1
  obtain⟨b,off,spot⟩:=a
  have hspot:spot=none:=by simpa [Addr.add]using World.cell?_spot z
  subst hspot
  rw[Sh.bL]at h0
  exact⟨b,off,rfl,Sh.iO h0,h0⟩
theorem array4t{c:Array Value}(h:c.size=4): ∃v0 v1 v2 v3,c= #[v0,v1,v2,v3]:=by
 rcases c with⟨l⟩
 match l,h with
 | [v0,v1,v2,v3],_=>exact⟨v0,v1,v2,v3,rfl⟩
theorem bytes32:Try.prog.bytesOf 22=4:=by kernel_rfl
theorem qW{H:Type}{enc:TypeId × Value->H}{W:World}{r:Reach}{b0:Nat}{v:Value}{d:DataW H}{p:List MemPlace}(hv:Value.okWide prog W r b0 25 v)(h:DataW.Trod enc prog W 0 (fun _=>true) true 25 v d p)
  (hz: ∀parts,d=.agg parts->(DataW.weightsEach prog [3,22,22,23] parts).all (· <=reachBytes)=true):
  ∃fa ls ms pt mt ct F,v=.agg #[.int .i64 fa,.int .u32 ((ls:Nat):Int),.int .u32 ((ms:Nat):Int),.slice pt mt ct]/\(-9223372036854775808<=fa/\fa<=9223372036854775807)/\ls<4294967296/\ms<4294967296/\IsW .u32 4294967296 W pt mt F/\mt<=ct/\ct<=35184372088832:=by
 have hC:Try.prog.cellsOf 25=4:=by kernel_rfl
 have k0:Try.prog.cellsOf 3=1:=by kernel_rfl
 have k1:Try.prog.cellsOf 22=1:=by kernel_rfl
 have k2:Try.prog.cellsOf 23=1:=by kernel_rfl
 obtain⟨cs,rfl,hsz⟩:=okWide_struct underlying25 hv
 obtain⟨v0,v1,v2,v3,rfl⟩:=array4t (hsz.trans hC)
 obtain⟨fuel,hf⟩:=h
 have hf':DataW.trod enc prog W 0 (fun _=>true) true fuel 25 [v0,v1,v2,v3]=some (d,p):=by simpa [Value.cells]using hf
 obtain⟨xs,m,_,hx,hlen,hn,hel⟩:=DataW.trod_struct underlying25 hf'
 match xs,hn with
 | [x0,x1,x2,x3],_=>
  have h0:=hel 0 _ rfl
  have h1:=hel 1 _ rfl
  have h2:=hel 2 _ rfl
  have h3:=hel 3 _ rfl
  simp[k0,k1,k2]at h0 h1 h2 h3
  obtain⟨fa,rfl,i0⟩:=Sh.trod_int underlying3 h0
  obtain⟨ls,rfl,i1⟩:=iP underlying22 h1
  obtain⟨ms,rfl,i2⟩:=iP underlying22 h2
  have hzz:=hz _ (congrArg Prod.fst hx)
  obtain⟨pt,mt,ct,F,e3,i3,j3,l3⟩:=mS h3 (fun elems spare e=>by have q:=sized_slice hzz (j:=3) (t:=23) (e:=22) (elems:=elems) (spare:=spare) rfl (by rw[<- e];rfl) underlying23;rw[bytes32]at q;exact q)
  simp at e3
  subst e3
  exact⟨fa,ls,ms,pt,mt,ct,F,rfl,i0,i1,i2,i3,j3,l3⟩
theorem jM{H:Type}{P:Program}{ts:List TypeId}{ds:List (DataW H)}(h:(DataW.weightsEach P ts ds).all (· <=reachBytes)=true){j:Nat}{t:TypeId}{fs:Array Field}{parts:List (DataW H)}(ht:ts[j]? =some t)(hd:ds[j]? =some (.agg parts))(hu:P.underlying t=some (.struct fs)):
  (DataW.weightsEach P (fs.toList.map (·.type)) parts).all (· <=reachBytes)=true:=by
 refine List.all_eq_true.2 (fun n hn=> ?_)
 exact List.all_eq_true.1 h _ (DataW.weights_mem_each ht hd n (by simpa [DataW.weights,hu]using hn))
end Ti
end
section
open Go.ChangeShapes Go.WideShapes Go.ChangeAt Go.WideMaps Go.WideElems Go.RowKit Go.Deep
theorem array6'{c:Array Value}(h:c.size=6): ∃v0 v1 v2 v3 v4 v5,c= #[v0,v1,v2,v3,v4,v5]:=by
 rcases c with⟨l⟩
 match l,h with
 | [v0,v1,v2,v3,v4,v5],_=>exact⟨v0,v1,v2,v3,v4,v5,rfl⟩
end
section
open Go.ChangeShapes Go.WideShapes Go.ChangeAt Go.WideMaps Go.WideElems Go.RowKit Go.Deep
namespace Ti
theorem mT:Try.prog.bytesOf 47=8:=by kernel_rfl
theorem mU:Try.prog.bytesOf 2=8:=by kernel_rfl
theorem cW{H:Type}{enc:TypeId × Value->H}{W:World}{T E:TypeId}{a0:Option Addr}{len0 cap0:Nat}{fuel:Nat}{x:DataW H × List MemPlace}(hu:Try.prog.underlying T=some (.slice E))(h1:Try.prog.cellsOf E=1)
  (hf:DataW.trod enc prog W 0 (fun _=>true) true fuel T [.slice a0 len0 cap0]=some x) (hs: ∀elems spare,x.1=.slice elems spare->(elems.length+spare.length)*8<=reachBytes):len0<=17592186044416:=by
 rcases Go.Deep.open_slice1 hu h1 hf with⟨hcs,_⟩ | ⟨a,l,c,m,n,V,D,Pl,hcs,_,hl,hm,hmm,hx,_⟩
 ·simp at hcs
  obtain⟨rfl,rfl,rfl⟩:=hcs
  exact Nat.zero_le _
 ·simp at hcs
  obtain⟨rfl,rfl,rfl⟩:=hcs
  simp only[if_true]at hmm
  subst hmm
  have:=hs _ _ (by rw[hx])
  simp only[List.length_map,List.length_range,reachBytes]at this
  omega
theorem oC{H:Type}{enc:TypeId × Value->H}{W:World}{r:Reach}{b0:Nat}{v:Value}{d:DataW H}{p:List MemPlace}(hv:Value.okWide prog W r b0 40 v)(h:DataW.Trod enc prog W 0 (fun _=>true) true 40 v d p)
  (hz: ∀parts,d=.agg parts->(DataW.weightsEach prog [37,38,38,37,2,3] parts).all (· <=reachBytes)=true):
  ∃pb lb cb B pw lw cw Wt pt lt ct Tr ps ls cs Sp sky st,v=.agg #[.slice pb lb cb,.slice pw lw cw,.slice pt lt ct,.slice ps ls cs,.int .i64 sky,.int .i64 st]/\(IsFl W pb lb B/\Sh.IsI W pw lw Wt/\Sh.IsI W pt lt Tr/\IsFl W ps ls Sp)/\(lb<=17592186044416/\lw<=17592186044416/\lt<=17592186044416/\ls<=17592186044416)/\(-9223372036854775808<=sky/\sky<=9223372036854775807)/\(-9223372036854775808<=st/\st<=9223372036854775807):=by
 have hC:Try.prog.cellsOf 40=6:=by kernel_rfl
 have k0:Try.prog.cellsOf 37=1:=by kernel_rfl
 have k1:Try.prog.cellsOf 38=1:=by kernel_rfl
 have k2:Try.prog.cellsOf 2=1:=by kernel_rfl
 have k3:Try.prog.cellsOf 3=1:=by kernel_rfl
 obtain⟨cs,rfl,hsz⟩:=okWide_struct underlying40 hv
 obtain⟨v0,v1,v2,v3,v4,v5,rfl⟩:=array6' (hsz.trans hC)
 obtain⟨fuel,hf⟩:=h
 have hf':DataW.trod enc prog W 0 (fun _=>true) true fuel 40 [v0,v1,v2,v3,v4,v5]=some (d,p):=by simpa [Value.cells]using hf
 obtain⟨xs,m,_,hx,hlen,hn,hel⟩:=DataW.trod_struct underlying40 hf'
 match xs,hn with
 | [x0,x1,x2,x3,x4,x5],_=>
  have h0:=hel 0 _ rfl
  have h1:=hel 1 _ rfl
  have h2:=hel 2 _ rfl
  have h3:=hel 3 _ rfl
  have h4:=hel 4 _ rfl
  have h5:=hel 5 _ rfl
  simp[k0,k1,k2,k3]at h0 h1 h2 h3 h4 h5
  have hzz:=hz _ (congrArg Prod.fst hx)
  obtain⟨pb,lb,cb,B,e0,i0,-,-⟩:=jE h0
  obtain⟨pw,lw,cw,Wt,e1,i1,-,-⟩:=Sh.jL h1
  obtain⟨pt,lt,ct,Tr,e2,i2,-,-⟩:=Sh.jL h2
  obtain⟨ps,ls,cs,Sp,e3,i3,-,-⟩:=jE h3
  obtain⟨sky,e4,g4⟩:=Sh.trod_int underlying2 h4
  obtain⟨st,e5,g5⟩:=Sh.trod_int underlying3 h5
  simp at e0 e1 e2 e3
  subst e0 e1 e2 e3 e4 e5
  exact⟨pb,lb,cb,B,pw,lw,cw,Wt,pt,lt,ct,Tr,ps,ls,cs,Sp,sky,st,rfl,⟨i0,i1,i2,i3⟩,⟨cW underlying37 (by kernel_rfl) h0 (fun elems spare e=>by have q:=sized_slice hzz (j:=0) (t:=37) (e:=47) (elems:=elems) (spare:=spare) rfl (by rw[<- e];rfl) underlying37;rw[mT]at q;exact q),cW underlying38 (by kernel_rfl) h1 (fun elems spare e=>by have q:=sized_slice hzz (j:=1) (t:=38) (e:=2) (elems:=elems) (spare:=spare) rfl (by rw[<- e];rfl) underlying38;rw[mU]at q;exact q),cW underlying38 (by kernel_rfl) h2 (fun elems spare e=>by have q:=sized_slice hzz (j:=2) (t:=38) (e:=2) (elems:=elems) (spare:=spare) rfl (by rw[<- e];rfl) underlying38;rw[mU]at q;exact q),cW underlying37 (by kernel_rfl) h3 (fun elems spare e=>by have q:=sized_slice hzz (j:=3) (t:=37) (e:=47) (elems:=elems) (spare:=spare) rfl (by rw[<- e];rfl) underlying37;rw[mT]at q;exact q)⟩,g4,g5⟩
end Ti
end
end Go.Proofs.Ytdeammhdedcjlaa
