/-
  Some of the texts of this proof, one behind the other.
-/
import Derived.ProofKit
import Derived.OpenShut
import Derived.WalkLawsBesides
import Derived.Stop.Joined
import Derived.Carry
import Derived.Lib.SmallJoins
import Derived.Deep.SlicePairs
import Derived.Deep.Slices
import Derived.SizedLaws
import Derived.Test.YtaphajlpbgcfjaaGreatDoorPa24
set_option maxRecDepth 100000
set_option maxHeartbeats 400000000
namespace Go.Proofs.YtaphajlpbgcfjaaGreatDoor
open _root_.Go.Proofs.Tryz
section
open Go.ChangeShapes Go.WideShapes Go.ChangeAt Go.WideMaps Go.WideElems Go.RowKit Go.Deep
namespace Sh
theorem trod_int{H:Type}{enc:TypeId × Value->H}{P:Program}{w:World}{base:Nat}{spare:Nat->Bool}{held:Bool}{t:TypeId}{fuel:Nat}{v:Value}{x:DataW H × List MemPlace}(ht:P.underlying t=some (.int .i64))(h:DataW.trod enc P w base spare held fuel t [v]=some x):
  ∃b,v=.int .i64 b/\(-9223372036854775808<=b/\b<=9223372036854775807):=by
 obtain⟨k,e,_,wf⟩:=DataW.trod_int ht h
 simp at e
 simp only[Lit.wf,Bool.and_eq_true,decide_eq_true_eq]at wf
 have q1:IntKind.i64.min= -9223372036854775808:=by decide
 have q2:IntKind.i64.max=9223372036854775807:=by decide
 rw[q1,q2]at wf
 exact⟨k,e,wf⟩
theorem tB{w:World}{a:Addr}{v:Value}(h:w.cell? a=some v):a.block<w.heap.size:=by
 by_cases c:a.block<w.heap.size
 ·exact c
 ·exfalso
  have:w.heap[a.block]? =none:=by simp;omega
  simp[World.cell?,this]at h
theorem qG{α:Type}{n:Nat}{R:Nat->α->Prop}(d:α)(h: ∀i,i<n-> ∃x,R i x): ∃f:Nat->α,∀i,i<n->R i (f i):=by
 have: ∀i,∃x,i<n->R i x:=fun i=>by
  by_cases c:i<n
  ·obtain⟨x,h1⟩:=h i c
   exact⟨x,fun _=>h1⟩
  ·exact⟨d,fun h=>absurd h c⟩
 exact⟨fun i=>(this i).choose,fun i hi=>(this i).choose_spec hi⟩
theorem vC{H:Type}{enc:TypeId × Value->H}{W:World}{cs:List Value}{fuel:Nat}{x:DataW H × List MemPlace}
  (hf:DataW.trod enc prog W 0 (fun _=>true) true fuel 27 cs=some x): ∃a0 len cap xs,cs=[.slice a0 len cap]/\IsI W a0 len xs/\len<=cap/\cap<=maxLen:=by
 rcases open_slice1 underlying27 (by kernel_rfl) hf with⟨hcs,_⟩ | ⟨a,l,c,m,n,V,D,Pl,hcs,_,hl,hm,hmm,_,hx⟩
 ·exact⟨none,0,0,fun _=>0,hcs,fun k hk=>by omega,Nat.le_refl _,Nat.zero_le _⟩
 ·simp only[if_true]at hmm
  have each: ∀i,i<l-> ∃x:Int,W.cell? (a.add i)=some (.int .i64 x)/\(-9223372036854775808<=x/\x<=9223372036854775807):=by
   intro i hi
   obtain⟨h1,h2⟩:=hx i (by omega)
   obtain⟨x,e,wx⟩:=trod_int underlying2 h2
   rw[e]at h1
   exact⟨x,h1,wx⟩
  obtain⟨f,hf⟩:=qG 0 each
  refine⟨some a,l,c,f,hcs,fun k hk=>⟨(hf k hk).2,?_⟩,hl,hm⟩
  have h0:=(hf k hk).1
  have z:=(hf 0 (by omega)).1
  obtain⟨b,off,spot⟩:=a
  have hspot:spot=none:=by simpa [Addr.add]using World.cell?_spot z
  subst hspot
  rw[jL]at h0
  exact⟨b,off,rfl,tB h0,h0⟩
end Sh
end
section
open Go.ChangeShapes Go.WideShapes Go.ChangeAt Go.WideMaps Go.WideElems Go.RowKit Go.Deep
namespace Rn
open Sh
theorem CU{H:Type}{enc:TypeId × Value->H}{w:World}{base n:Nat}{spare:Nat->Bool}{held:Bool}{v0 v1 v2 v3:Value}{x:DataW H × List MemPlace}(h:DataW.trod enc prog w base spare held n 72 [v0,v1,v2,v3]=some x):
  ∃r:Int × Int × Int × Int,(v0=.int .i64 r.1/\v1=.int .i64 r.2.1/\v2=.int .i64 r.2.2.1/\v3=.int .i64 r.2.2.2)/\W4 r:=by
 have k1:Tryz.prog.cellsOf 2=1:=by kernel_rfl
 have k2:Tryz.prog.cellsOf 3=1:=by kernel_rfl
 obtain⟨xs,m,_,hx,hlen,hn,hel⟩:=DataW.trod_struct underlying72 h
 match xs,hn with
 | [x0,x1,x2,x3],_=>
  have h0:=hel 0 _ rfl
  have h1:=hel 1 _ rfl
  have h2:=hel 2 _ rfl
  have h3:=hel 3 _ rfl
  simp[k1,k2]at h0 h1 h2 h3
  obtain⟨a0,e0,i0⟩:=trod_int underlying3 h0
  obtain⟨a1,e1,i1⟩:=trod_int underlying2 h1
  obtain⟨a2,e2,i2⟩:=trod_int underlying3 h2
  obtain⟨a3,e3,i3⟩:=trod_int underlying3 h3
  exact⟨(a0,a1,a2,a3),⟨e0,e1,e2,e3⟩,i0,i1,i2,i3⟩
theorem C0{H:Type}{enc:TypeId × Value->H}{W:World}{cs:List Value}{fuel:Nat}{x:DataW H × List MemPlace}
  (hf:DataW.trod enc prog W 0 (fun _=>true) true fuel 23 cs=some x): ∃a0 len cap R,cs=[.slice a0 len cap]/\IsRn W a0 len R/\len<=cap/\(a0=none->len=0/\cap=0)/\(0<cap-> ∀b o sp,a0=some ⟨b,o,sp⟩->sp=none)/\((∀elems spare,x.1=.slice elems spare->(elems.length+spare.length)*32<=reachBytes)->cap<=17592186044416):=by
 rcases open_slice underlying23 hf with⟨hcs,_⟩ | ⟨a,l,c,m,n,D,Pl,hcs,_,hl,hm,hmm,hxx,hx⟩
 ·exact⟨none,0,0,fun _=>(0,0,0,0),hcs,IsRn.nil _ _ _,Nat.le_refl _,fun _=>⟨rfl,rfl⟩,fun h=>by omega,fun _=>by omega⟩
 ·simp only[if_true]at hmm
  have ce:Tryz.prog.cellsOf 72=4:=by kernel_rfl
  have each: ∀i,i<m-> ∃r:Int × Int × Int × Int,(W.cell? (a.add (i*4))=some (.int .i64 r.1)/\W.cell? (a.add (i*4+1))=some (.int .i64 r.2.1)/\W.cell? (a.add (i*4+2))=some (.int .i64 r.2.2.1)/\W.cell? (a.add (i*4+3))=some (.int .i64 r.2.2.2))/\W4 r:=by
   intro i hi
   obtain⟨cs',h1,h2⟩:=hx i hi
   rw[ce]at h1
   obtain⟨_,hlen,hcell⟩:=World.cells?_some h1
   match cs',hlen with
   | [v0,v1,v2,v3],_=>
    obtain⟨r,⟨rfl,rfl,rfl,rfl⟩,h4⟩:=CU h2
    have e0:=hcell 0 (by omega)
    have e1:=hcell 1 (by omega)
    have e2:=hcell 2 (by omega)
    have e3:=hcell 3 (by omega)
    rw[add_add]at e0 e1 e2 e3
    exact⟨r,⟨by simpa using e0,by simpa using e1,by simpa using e2,by simpa using e3⟩,h4⟩
  obtain⟨R,hR⟩:=qG (0,0,0,0) each
  subst hmm
  refine⟨some a,l,m,R,hcs,fun k hk=>⟨(hR k (by omega)).2,?_⟩,hl,fun h=>(by cases h),fun h b o sp e=> ?_,fun h=> ?_⟩
  ·have h0:=(hR k (by omega)).1
   obtain⟨b,off,spot⟩:=a
   have hspot:spot=none:=by simpa [Addr.add]using World.cell?_spot (hR 0 (by omega)).1.1
   subst hspot
   simp only[jL]at h0
   exact⟨b,off,rfl,tB h0.1,h0.1,by simpa only[Nat.add_assoc]using h0.2.1,by simpa only[Nat.add_assoc]using h0.2.2.1,by simpa only[Nat.add_assoc]using h0.2.2.2⟩
  ·have h0:=(hR 0 h).1
   cases e
   simpa [Addr.add]using World.cell?_spot h0.1
  ·have:=h _ _ (by rw[hxx])
   simp only[List.length_map,List.length_range,reachBytes]at this
   omega
theorem vD{H:Type}{P:Program}{ts:List TypeId}{ds:List (DataW H)}(h:(DataW.weightsEach P ts ds).all (· <=reachBytes)=true){j:Nat}{t:TypeId}{fs:Array Field}{parts:List (DataW H)}(ht:ts[j]? =some t)(hd:ds[j]? =some (.agg parts))(hu:P.underlying t=some (.struct fs)):
  (DataW.weightsEach P (fs.toList.map (·.type)) parts).all (· <=reachBytes)=true:=by
 refine List.all_eq_true.2 (fun n hn=> ?_)
 exact List.all_eq_true.1 h _ (DataW.weights_mem_each ht hd n (by simpa [DataW.weights,hu]using hn))
theorem bytesR18:Tryz.prog.bytesOf 72=32:=by kernel_rfl
end Rn
end
section
open Go.ChangeShapes Go.WideShapes Go.ChangeAt Go.WideMaps Go.WideElems Go.RowKit Go.Deep
namespace Ss
theorem Am:Tryz.prog.bytesOf 22=8:=by kernel_rfl
theorem Ao:Tryz.prog.bytesOf 2=8:=by kernel_rfl
end Ss
end
section
open Go.ChangeShapes Go.WideShapes Go.ChangeAt Go.WideMaps Go.WideElems Go.RowKit Go.Deep
namespace St
open Ss
theorem hQ{H:Type}{enc:TypeId × Value->H}{W:World}{T E:TypeId}{a0:Option Addr}{len0 cap0:Nat}{fuel:Nat}{x:DataW H × List MemPlace}(hu:Tryz.prog.underlying T=some (.slice E))(h1:Tryz.prog.cellsOf E=1)
  (hf:DataW.trod enc prog W 0 (fun _=>true) true fuel T [.slice a0 len0 cap0]=some x) (hs: ∀elems spare,x.1=.slice elems spare->(elems.length+spare.length)*8<=reachBytes):len0<=17592186044416:=by
 rcases Go.Deep.open_slice1 hu h1 hf with⟨hcs,_⟩ | ⟨a,l,c,m,n,V,D,Pl,hcs,_,hl,hm,hmm,hx,_⟩
 ·simp at hcs
  obtain⟨rfl,rfl,rfl⟩:=hcs
  exact Nat.zero_le _
 ·simp at hcs
  obtain⟨rfl,rfl,rfl⟩:=hcs
  simp only[if_true]at hmm
  subst hmm
  have:=hs _ _ (by rw[hx])
  simp only[List.length_map,List.length_range,reachBytes]at this
  omega
theorem C6{H:Type}{enc:TypeId × Value->H}{W:World}{r:Reach}{b0:Nat}{v:Value}{d:DataW H}{p:List MemPlace}(hv:Value.okWide prog W r b0 29 v)(h:DataW.Trod enc prog W 0 (fun _=>true) true 29 v d p)
  (hz: ∀parts,d=.agg parts->(DataW.weightsEach prog [26,27,27,26,2,3] parts).all (· <=reachBytes)=true):
  ∃pb lb cb B pw lw cw Wt pt lt ct Tr ps ls cs Sp sky st,v=.agg #[.slice pb lb cb,.slice pw lw cw,.slice pt lt ct,.slice ps ls cs,.int .i64 sky,.int .i64 st]/\(IsFl W pb lb B/\Sh.IsI W pw lw Wt/\Sh.IsI W pt lt Tr/\IsFl W ps ls Sp)/\(lb<=17592186044416/\lw<=17592186044416/\lt<=17592186044416/\ls<=17592186044416)/\Sh.W64 sky/\Sh.W64 st:=by
 have hC:Tryz.prog.cellsOf 29=6:=by kernel_rfl
 have k0:Tryz.prog.cellsOf 26=1:=by kernel_rfl
 have k1:Tryz.prog.cellsOf 27=1:=by kernel_rfl
 have k2:Tryz.prog.cellsOf 2=1:=by kernel_rfl
 have k3:Tryz.prog.cellsOf 3=1:=by kernel_rfl
 obtain⟨cs,rfl,hsz⟩:=okWide_struct underlying29 hv
 obtain⟨v0,v1,v2,v3,v4,v5,rfl⟩:=array6' (hsz.trans hC)
 obtain⟨fuel,hf⟩:=h
 have hf':DataW.trod enc prog W 0 (fun _=>true) true fuel 29 [v0,v1,v2,v3,v4,v5]=some (d,p):=by simpa [Value.cells]using hf
 obtain⟨xs,m,_,hx,hlen,hn,hel⟩:=DataW.trod_struct underlying29 hf'
 match xs,hn with
 | [x0,x1,x2,x3,x4,x5],_=>
  have h0:=hel 0 _ rfl
  have h1:=hel 1 _ rfl
  have h2:=hel 2 _ rfl
  have h3:=hel 3 _ rfl
  have h4:=hel 4 _ rfl
  have h5:=hel 5 _ rfl
  simp[k0,k1,k2,k3]at h0 h1 h2 h3 h4 h5
  have hzz:=hz _ (congrArg Prod.fst hx)
  obtain⟨pb,lb,cb,B,e0,i0,-,-⟩:=uH h0
  obtain⟨pw,lw,cw,Wt,e1,i1,-,-⟩:=Sh.vC h1
  obtain⟨pt,lt,ct,Tr,e2,i2,-,-⟩:=Sh.vC h2
  obtain⟨ps,ls,cs,Sp,e3,i3,-,-⟩:=uH h3
  obtain⟨sky,e4,g4⟩:=Sh.trod_int underlying2 h4
  obtain⟨st,e5,g5⟩:=Sh.trod_int underlying3 h5
  simp at e0 e1 e2 e3
  subst e0 e1 e2 e3 e4 e5
  exact⟨pb,lb,cb,B,pw,lw,cw,Wt,pt,lt,ct,Tr,ps,ls,cs,Sp,sky,st,rfl,⟨i0,i1,i2,i3⟩,⟨hQ underlying26 (by kernel_rfl) h0 (fun elems spare e=>by have q:=sized_slice hzz (j:=0) (t:=26) (e:=22) (elems:=elems) (spare:=spare) rfl (by rw[<- e];rfl) underlying26;rw[Am]at q;exact q),hQ underlying27 (by kernel_rfl) h1 (fun elems spare e=>by have q:=sized_slice hzz (j:=1) (t:=27) (e:=2) (elems:=elems) (spare:=spare) rfl (by rw[<- e];rfl) underlying27;rw[Ao]at q;exact q),hQ underlying27 (by kernel_rfl) h2 (fun elems spare e=>by have q:=sized_slice hzz (j:=2) (t:=27) (e:=2) (elems:=elems) (spare:=spare) rfl (by rw[<- e];rfl) underlying27;rw[Ao]at q;exact q),hQ underlying26 (by kernel_rfl) h3 (fun elems spare e=>by have q:=sized_slice hzz (j:=3) (t:=26) (e:=22) (elems:=elems) (spare:=spare) rfl (by rw[<- e];rfl) underlying26;rw[Am]at q;exact q)⟩,g4,g5⟩
theorem Ap{H:Type}{enc:TypeId × Value->H}{W:World}{r:Reach}{b0:Nat}{v:Value}{d:DataW H}{p:List MemPlace}(hv:Value.okWide prog W r b0 25 v)(h:DataW.Trod enc prog W 0 (fun _=>true) true 25 v d p)
  (hz: ∀parts,d=.agg parts->(DataW.weightsEach prog [3,22,22,22,3,4,23] parts).all (· <=reachBytes)=true):
  ∃sd dt gr dr lim rv pr lr cr R,v=.agg #[.int .i64 sd,.float .f64 dt,.float .f64 gr,.float .f64 dr,.int .i64 lim,.bool rv,.slice pr lr cr]/\Sh.W64 sd/\Sh.W64 lim/\(dt<18446744073709551616/\gr<18446744073709551616/\dr<18446744073709551616)/\Rn.IsRn W pr lr R/\lr<=17592186044416:=by
 have hC:Tryz.prog.cellsOf 25=7:=by kernel_rfl
 obtain⟨cs,rfl,hsz⟩:=okWide_struct underlying25 hv
 obtain⟨v0,v1,v2,v3,v4,v5,v6,rfl⟩:=array7' (hsz.trans hC)
 obtain⟨fuel,hf⟩:=h
 have hf':DataW.trod enc prog W 0 (fun _=>true) true fuel 25 [v0,v1,v2,v3,v4,v5,v6]=some (d,p):=by simpa [Value.cells]using hf
 have k0:Tryz.prog.cellsOf 22=1:=by kernel_rfl
 have k1:Tryz.prog.cellsOf 4=1:=by kernel_rfl
 have k2:Tryz.prog.cellsOf 23=1:=by kernel_rfl
 have k3:Tryz.prog.cellsOf 3=1:=by kernel_rfl
 obtain⟨xs,m,_,hx,hlen,hn,hel⟩:=DataW.trod_struct underlying25 hf'
 match xs,hn with
 | [x0,x1,x2,x3,x4,x5,x6],_=>
  have h0:=hel 0 _ rfl
  have h1:=hel 1 _ rfl
  have h2:=hel 2 _ rfl
  have h3:=hel 3 _ rfl
  have h4:=hel 4 _ rfl
  have h5:=hel 5 _ rfl
  have h6:=hel 6 _ rfl
  simp[k0,k1,k2,k3]at h0 h1 h2 h3 h4 h5 h6
  obtain⟨sd,rfl,i0⟩:=Sh.trod_int underlying3 h0
  obtain⟨dt,rfl,i1⟩:=jH underlying22 h1
  obtain⟨gr,rfl,i2⟩:=jH underlying22 h2
  obtain⟨dr,rfl,i3⟩:=jH underlying22 h3
  obtain⟨lim,rfl,i4⟩:=Sh.trod_int underlying3 h4
  obtain⟨rv,rfl⟩:=Al underlying4 h5
  obtain⟨pr,lr,cr,R,e6,ir,j6,-,-,z6⟩:=Rn.C0 h6
  simp at e6
  subst e6
  have hzz:=hz _ (congrArg Prod.fst hx)
  have sz:=z6 (fun elems spare e=>by have q:=sized_slice hzz (j:=6) (t:=23) (e:=72) (elems:=elems) (spare:=spare) rfl (by rw[<- e];rfl) underlying23;rw[Rn.bytesR18]at q;exact q)
  exact⟨_,_,_,_,_,_,_,_,_,R,rfl,i0,i4,⟨i1,i2,i3⟩,ir,by omega⟩
end St
end
end Go.Proofs.YtaphajlpbgcfjaaGreatDoor
