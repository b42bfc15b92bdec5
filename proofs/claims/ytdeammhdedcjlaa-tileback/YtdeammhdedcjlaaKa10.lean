/-
  Some of the texts of this proof, one behind the other.
-/
import Derived.SizedLaws
import Derived.Test.YtdeammhdedcjlaaKa09
set_option maxRecDepth 100000
set_option maxHeartbeats 400000000
namespace Go.Proofs.Ytdeammhdedcjlaa
open _root_.Go.Proofs.Try
section
open Go.ChangeShapes Go.WideShapes Go.ChangeAt Go.WideMaps Go.WideElems Go.RowKit Go.Deep
namespace Ti
theorem trod_u8{H:Type}{enc:TypeId × Value->H}{P:Program}{w:World}{base:Nat}{spare:Nat->Bool}{held:Bool}{t:TypeId}{fuel:Nat}{v:Value}{x:DataW H × List MemPlace}(ht:P.underlying t=some (.int .u8))(h:DataW.trod enc P w base spare held fuel t [v]=some x):
  ∃b:Nat,v=.int .u8 (b:Int)/\b<256:=by
 obtain⟨k,e,_,wf⟩:=DataW.trod_int ht h
 simp at e
 simp only[Lit.wf,Bool.and_eq_true,decide_eq_true_eq]at wf
 have q1:IntKind.u8.min=0:=by decide
 have q2:IntKind.u8.max=255:=by decide
 rw[q1,q2]at wf
 exact⟨k.toNat,by rw[Int.toNat_of_nonneg wf.1];exact e,by omega⟩
theorem hZ{H:Type}{enc:TypeId × Value->H}{P:Program}{w:World}{base:Nat}{spare:Nat->Bool}{held:Bool}{t:TypeId}{fuel:Nat}{v:Value}{x:DataW H × List MemPlace}(ht:P.underlying t=some (.int .u32))(h:DataW.trod enc P w base spare held fuel t [v]=some x):
  ∃b:Nat,v=.int .u32 (b:Int)/\b<4294967296:=by
 obtain⟨k,e,_,wf⟩:=DataW.trod_int ht h
 simp at e
 simp only[Lit.wf,Bool.and_eq_true,decide_eq_true_eq]at wf
 have q1:IntKind.u32.min=0:=by decide
 have q2:IntKind.u32.max=4294967295:=by decide
 rw[q1,q2]at wf
 exact⟨k.toNat,by rw[Int.toNat_of_nonneg wf.1];exact e,by omega⟩
theorem mT{H:Type}{enc:TypeId × Value->H}{W:World}{cs:List Value}{fuel:Nat}{x:DataW H × List MemPlace}
  (hf:DataW.trod enc prog W 0 (fun _=>true) true fuel 26 cs=some x) (hs: ∀elems spare,x.1=.slice elems spare->(elems.length+spare.length)*1<=reachBytes): ∃a0 len cap xs,cs=[.slice a0 len cap]/\IsW .u8 256 W a0 len xs/\len<=cap/\cap<=140737488355328/\(a0=none->len=0):=by
 rcases open_slice1 underlying26 (by kernel_rfl) hf with⟨hcs,_⟩ | ⟨a,l,c,m,n,V,D,Pl,hcs,_,hl,hm,hmm,hx0,hx⟩
 ·exact⟨none,0,0,fun _=>0,hcs,fun k hk=>by omega,Nat.le_refl _,Nat.zero_le _,fun _=>rfl⟩
 ·simp only[if_true]at hmm
  have sz:=hs _ _ (by rw[hx0])
  simp only[List.length_map,List.length_range]at sz
  have each: ∀i,i<l-> ∃x:Nat,W.cell? (a.add i)=some (.int .u8 (x:Int))/\x<256:=by
   intro i hi
   obtain⟨h1,h2⟩:=hx i (by omega)
   obtain⟨x,e,wx⟩:=trod_u8 underlying5 h2
   rw[e]at h1
   exact⟨x,h1,wx⟩
  obtain⟨f,hf⟩:=Sh.oB 0 each
  refine⟨some a,l,c,f,hcs,fun k hk=>⟨(hf k hk).2,?_⟩,hl,by unfold reachBytes at sz;omega,fun e=>by cases e⟩
  have h0:=(hf k hk).1
  have z:=(hf 0 (by omega)).1
  obtain⟨b,off,spot⟩:=a
  have hspot:spot=none:=by simpa [Addr.add]using World.cell?_spot z
  subst hspot
  rw[Sh.jP]at h0
  exact⟨b,off,rfl,Sh.hY h0,h0⟩
theorem lM{H:Type}{enc:TypeId × Value->H}{W:World}{cs:List Value}{fuel:Nat}{x:DataW H × List MemPlace}
  (hf:DataW.trod enc prog W 0 (fun _=>true) true fuel 23 cs=some x) (hs: ∀elems spare,x.1=.slice elems spare->(elems.length+spare.length)*4<=reachBytes): ∃a0 len cap xs,cs=[.slice a0 len cap]/\IsW .u32 4294967296 W a0 len xs/\len<=cap/\cap<=35184372088832:=by
 rcases open_slice1 underlying23 (by kernel_rfl) hf with⟨hcs,_⟩ | ⟨a,l,c,m,n,V,D,Pl,hcs,_,hl,hm,hmm,hx0,hx⟩
 ·exact⟨none,0,0,fun _=>0,hcs,fun k hk=>by omega,Nat.le_refl _,Nat.zero_le _⟩
 ·simp only[if_true]at hmm
  have sz:=hs _ _ (by rw[hx0])
  simp only[List.length_map,List.length_range]at sz
  have each: ∀i,i<l-> ∃x:Nat,W.cell? (a.add i)=some (.int .u32 (x:Int))/\x<4294967296:=by
   intro i hi
   obtain⟨h1,h2⟩:=hx i (by omega)
   obtain⟨x,e,wx⟩:=hZ underlying22 h2
   rw[e]at h1
   exact⟨x,h1,wx⟩
  obtain⟨f,hf⟩:=Sh.oB 0 each
  refine⟨some a,l,c,f,hcs,fun k hk=>⟨(hf k hk).2,?_⟩,hl,by unfold reachBytes at sz;omega⟩
  have h0:=(hf k hk).1
  have z:=(hf 0 (by omega)).1
  obtain⟨b,off,spot⟩:=a
  have hspot:spot=none:=by simpa [Addr.add]using World.cell?_spot z
  subst hspot
  rw[Sh.jP]at h0
  exact⟨b,off,rfl,Sh.hY h0,h0⟩
theorem array4t{c:Array Value}(h:c.size=4): ∃v0 v1 v2 v3,c= #[v0,v1,v2,v3]:=by
 rcases c with⟨l⟩
 match l,h with
 | [v0,v1,v2,v3],_=>exact⟨v0,v1,v2,v3,rfl⟩
theorem bytes8:Try.prog.bytesOf 5=1:=by kernel_rfl
theorem bytes32:Try.prog.bytesOf 22=4:=by kernel_rfl
theorem pN{H:Type}{enc:TypeId × Value->H}{W:World}{r:Reach}{b0:Nat}{v:Value}{d:DataW H}{p:List MemPlace}(hv:Value.okWide prog W r b0 25 v)(h:DataW.Trod enc prog W 0 (fun _=>true) true 25 v d p)
  (hz: ∀parts,d=.agg parts->(DataW.weightsEach prog [3,22,22,23] parts).all (· <=reachBytes)=true):
  ∃fa ls ms pt mt ct F,v=.agg #[.int .i64 fa,.int .u32 ((ls:Nat):Int),.int .u32 ((ms:Nat):Int),.slice pt mt ct]/\(-9223372036854775808<=fa/\fa<=9223372036854775807)/\ls<4294967296/\ms<4294967296/\IsW .u32 4294967296 W pt mt F/\mt<=ct/\ct<=35184372088832:=by
 have hC:Try.prog.cellsOf 25=4:=by kernel_rfl
 have k0:Try.prog.cellsOf 3=1:=by kernel_rfl
 have k1:Try.prog.cellsOf 22=1:=by kernel_rfl
 have k2:Try.prog.cellsOf 23=1:=by kernel_rfl
 obtain⟨cs,rfl,hsz⟩:=okWide_struct underlying25 hv
 obtain⟨v0,v1,v2,v3,rfl⟩:=array4t (hsz.trans hC)
 obtain⟨fuel,hf⟩:=h
 have hf':DataW.trod enc prog W 0 (fun _=>true) true fuel 25 [v0,v1,v2,v3]=some (d,p):=by simpa [Value.cells]using hf
 obtain⟨xs,m,_,hx,hlen,hn,hel⟩:=DataW.trod_struct underlying25 hf'
 match xs,hn with
 | [x0,x1,x2,x3],_=>
  have h0:=hel 0 _ rfl
  have h1:=hel 1 _ rfl
  have h2:=hel 2 _ rfl
  have h3:=hel 3 _ rfl
  simp[k0,k1,k2]at h0 h1 h2 h3
  obtain⟨fa,rfl,i0⟩:=Sh.trod_int underlying3 h0
  obtain⟨ls,rfl,i1⟩:=hZ underlying22 h1
  obtain⟨ms,rfl,i2⟩:=hZ underlying22 h2
  have hzz:=hz _ (congrArg Prod.fst hx)
  obtain⟨pt,mt,ct,F,e3,i3,j3,l3⟩:=lM h3 (fun elems spare e=>by have q:=sized_slice hzz (j:=3) (t:=23) (e:=22) (elems:=elems) (spare:=spare) rfl (by rw[<- e];rfl) underlying23;rw[bytes32]at q;exact q)
  simp at e3
  subst e3
  exact⟨fa,ls,ms,pt,mt,ct,F,rfl,i0,i1,i2,i3,j3,l3⟩
theorem pO{H:Type}{P:Program}{ts:List TypeId}{ds:List (DataW H)}(h:(DataW.weightsEach P ts ds).all (· <=reachBytes)=true){j:Nat}{t:TypeId}{fs:Array Field}{parts:List (DataW H)}(ht:ts[j]? =some t)(hd:ds[j]? =some (.agg parts))(hu:P.underlying t=some (.struct fs)):
  (DataW.weightsEach P (fs.toList.map (·.type)) parts).all (· <=reachBytes)=true:=by
 refine List.all_eq_true.2 (fun n hn=> ?_)
 exact List.all_eq_true.1 h _ (DataW.weights_mem_each ht hd n (by simpa [DataW.weights,hu]using hn))
end Ti
end
end Go.Proofs.Ytdeammhdedcjlaa
